import PyProof.Rows.All
import Wide.All
import OpenK.AllK
import Wide.FinOn
import PyProof.EqAt
import PyProof.EqKinds
import PyProof.TupleCall
import PyProof.NeKinds
import Lean
import PyProof.RulesTry
import PyProof.FString
import PyProof.Rows.StrItems
import PyProof.StrCalls2
import KE.KIntText
import PyProof.CallStr
import PyProof.ZipIter
import PyProof.TupleIter
import PyProof.EnumIter
import PySem.Challenge.RW_bridgefind_k57_stands_read
set_option Elab.async false
set_option linter.all false
set_option maxRecDepth 100000
namespace L2
open PySem PySem.Spec PyProof.Rows
abbrev Key := Sum Int Str
def keyIs : Key → Value → Bool
  | .inl k, v => Value.isInt k v
  | .inr x, v => Value.isStrOf x v
def keyH (w : World) : Key → Int
  | .inl k => hashInt k
  | .inr x => hashStr w x
theorem keyIs_shape : ∀ {k : Key} {v : Value}, keyIs k v = true → (∃ i t, k = Sum.inl i ∧ v = Value.int i t) ∨ (∃ x t, k = Sum.inr x ∧ v = Value.str x t)
  | .inl i, v, h => by
    obtain ⟨t, e⟩ := Value.isInt_shape (k := i) (v := v) h
    exact .inl ⟨i, t, rfl, e⟩
  | .inr x, v, h => by
    obtain ⟨t, e⟩ := Value.isStrOf_shape (x := x) (v := v) h
    exact .inr ⟨x, t, rfl, e⟩
theorem keyIs_int (i : Int) (t : Tok) : keyIs (.inl i) (.int i t) = true := by simp [keyIs, Value.isInt]
theorem keyIs_str (x : Str) (t : Tok) : keyIs (.inr x) (.str x t) = true := by simp [keyIs, Value.isStrOf]
theorem key_ll (a b : Int) : decide ((Sum.inl a : Key) = Sum.inl b) = (a == b) := by
  by_cases e : a = b
  · subst e; simp
  · have h : ¬ (Sum.inl a : Key) = Sum.inl b := fun q => e (Sum.inl.inj q)
    rw [decide_eq_false h]
    exact (beq_eq_false_iff_ne.mpr e).symm
theorem key_rr (a b : Str) : decide ((Sum.inr a : Key) = Sum.inr b) = decide (a = b) := by
  by_cases e : a = b
  · subst e; simp
  · have h : ¬ (Sum.inr a : Key) = Sum.inr b := fun q => e (Sum.inr.inj q)
    rw [decide_eq_false h, decide_eq_false e]
theorem key_lr (a : Int) (b : Str) : decide ((Sum.inl a : Key) = Sum.inr b) = false := decide_eq_false (fun q => nomatch q)
theorem key_rl (a : Str) (b : Int) : decide ((Sum.inr a : Key) = Sum.inl b) = false := decide_eq_false (fun q => nomatch q)
def mixKind (prog : Program) (w : World) : PySem.KeyKind prog w Key where
  is := keyIs
  hash := keyH w
  inj := fun v a b ha hb => by
    rcases keyIs_shape ha with ⟨i, t, rfl, rfl⟩ | ⟨x, t, rfl, rfl⟩
    · rcases keyIs_shape hb with ⟨j, u, rfl, e⟩ | ⟨y, u, rfl, e⟩
      · injection e with e1 _; rw [e1]
      · exact nomatch e
    · rcases keyIs_shape hb with ⟨j, u, rfl, e⟩ | ⟨y, u, rfl, e⟩
      · exact nomatch e
      · injection e with e1 _; rw [e1]
  byValue := fun k v h => by
    rcases keyIs_shape h with ⟨i, t, rfl, rfl⟩ | ⟨x, t, rfl, rfl⟩ <;> rfl
  pyHash := fun hv h => by
    rcases keyIs_shape hv with ⟨i, t, rfl, rfl⟩ | ⟨x, t, rfl, rfl⟩
    · exact wpAny_pyHash_int h
    · exact wpAny_pyHash_str h
  eqBool := fun hu hv h => by
    rcases keyIs_shape hu with ⟨i, t, rfl, rfl⟩ | ⟨x, t, rfl, rfl⟩
    · rcases keyIs_shape hv with ⟨j, u, rfl, rfl⟩ | ⟨y, u, rfl, rfl⟩
      · rw [key_ll] at h; exact wpAny_eqBool_int h
      · rw [key_lr] at h; exact SeqAt.EqAt.int_str i t y u _ _ _ _ h
    · rcases keyIs_shape hv with ⟨j, u, rfl, rfl⟩ | ⟨y, u, rfl, rfl⟩
      · rw [key_rl] at h; exact SeqAt.EqAt.str_int x t j u _ _ _ _ h
      · rw [key_rr] at h; exact wpAny_eqBool_str h
  «strs» := fun k x t v h => by
    rcases keyIs_shape h with ⟨i, u, rfl, e⟩ | ⟨y, u, rfl, e⟩
    · exact nomatch e
    · injection e with e1 _
      subst e1
      cases v <;> rfl
theorem mixKind_is (prog : Program) (w : World) (k : Key) (v : Value) : (mixKind prog w).is k v = keyIs k v := rfl
theorem mixKind_int (prog : Program) (w : World) (i : Int) (t : Tok) : (mixKind prog w).is (.inl i) (.int i t) = true := keyIs_int i t
theorem mixKind_str (prog : Program) (w : World) (x : Str) (t : Tok) : (mixKind prog w).is (.inr x) (.str x t) = true := keyIs_str x t
end L2
namespace L2
open PySem PySem.Spec PyProof.Rows
inductive V where
  | non | bl (b : Bool) | int (i : Int) | str (x : Str) | byt (b : Array UInt8) | flt (b : UInt64) | ref (a : Addr) | ty (n : String)
  deriving DecidableEq
def RelV : V → Value → Prop
  | .non, u => u = Value.none
  | .bl b, u => u = Value.bool b
  | .int i, u => ∃ t, u = Value.int i t
  | .str x, u => ∃ t, u = Value.str x t
  | .byt b, u => ∃ t, u = Value.bytes b t
  | .flt b, u => ∃ t, u = Value.float b t
  | .ref a, u => u = Value.ref a
  | .ty n, u => u = Value.type n
abbrev Vals : List V → List Value → Prop := Paired RelV
theorem Vals.length {xs : List V} {us : List Value} (r : Vals xs us) : xs.length = us.length := Paired.length r
theorem Vals.get : ∀ {xs : List V} {us : List Value} {i : Nat} {x : V}, Vals xs us → xs[i]? = some x → ∃ u, us[i]? = some u ∧ RelV x u
  | _, _, _, _, .nil, e => by simp at e
  | _, _, 0, _, .cons r _, e => by simp at e; subst e; exact ⟨_, rfl, r⟩
  | _, _, i + 1, x, .cons _ t, e => by
    obtain ⟨u, h1, h2⟩ := Vals.get (i := i) (x := x) t (by simpa using e)
    exact ⟨u, by simpa using h1, h2⟩
theorem Vals.set {x : V} {u : Value} (r : RelV x u) : ∀ {xs : List V} {us : List Value} (i : Nat), Vals xs us → Vals (xs.set i x) (us.set i u)
  | _, _, _, .nil => .nil
  | _, _, 0, .cons _ t => .cons r t
  | _, _, i + 1, .cons q t => .cons q (Vals.set r i t)
theorem Vals.append : ∀ {xs ys : List V} {us ws : List Value}, Vals xs us → Vals ys ws → Vals (xs ++ ys) (us ++ ws)
  | _, _, _, _, .nil, s => s
  | _, _, _, _, .cons r t, s => .cons r (Vals.append t s)
theorem Vals.take : ∀ {xs : List V} {us : List Value} (n : Nat), Vals xs us → Vals (xs.take n) (us.take n)
  | _, _, 0, _ => .nil
  | _, _, _ + 1, .nil => .nil
  | _, _, n + 1, .cons r t => .cons r (Vals.take n t)
theorem Vals.drop : ∀ {xs : List V} {us : List Value} (n : Nat), Vals xs us → Vals (xs.drop n) (us.drop n)
  | _, _, 0, r => r
  | _, _, _ + 1, .nil => .nil
  | _, _, n + 1, .cons _ t => Vals.drop n t
def RelO : Option V → Option Value → Prop
  | some v, some u => RelV v u
  | none, none => True
  | _, _ => False
def KV {κ : Type} : List (κ × V) → List (κ × Value) → Prop := Paired fun (p : κ × V) (q : κ × Value) => p.1 = q.1 ∧ RelV p.2 q.2
def kV : Key → V
  | .inl i => .int i
  | .inr x => .str x
inductive HO where
  | lst (xs : List V)
  | tup (xs : List V)
  | dK (kvs : List (Key × V)) | dT (kvs : List (List Key × V))
  | set (S : Int → Bool) (n : Nat)
  | ins (C dx : Addr) (fs : List (Str × V))
  | own (x : Addr)
  | xd (fs : List (Str × V))
  | met (f x : Addr)
  | rng (lo hi : Int)
  | frz (o : Obj) (u : HO)
  | tbl (ps : Array Value)
  | ext (φ : Heap → Prop)
abbrev Hp := Addr → Option HO
def upd (H : Hp) (a : Addr) (o : HO) : Hp := fun b => if b = a then some o else H b
theorem upd_same {H : Hp} {a : Addr} {o : HO} : upd H a o a = some o := by unfold upd; rw [if_pos rfl]
theorem upd_ne {H : Hp} {a b : Addr} {o : HO} (h : b ≠ a) : upd H a o b = H b := by unfold upd; rw [if_neg h]
theorem upd_upd {H : Hp} {a : Addr} {o u : HO} : upd (upd H a o) a u = upd H a u := by
  funext b; unfold upd; split <;> rfl
theorem ne_of {H : Hp} {a b : Addr} {o u : HO} (h : H a = some o) (h' : H b = some u) (d : o ≠ u) : a ≠ b := by
  intro e; subst e; rw [h] at h'; exact d (Option.some.inj h')
theorem ne_of_none {H : Hp} {a b : Addr} {o : HO} (h : H a = some o) (h' : H b = none) : a ≠ b := by
  intro e; subst e; rw [h] at h'; cases h'
section
variable (P : Program) (w : World)
def ObjOk (H : Hp) (h : Heap) (a : Addr) : HO → Prop
  | .lst xs => xs.length ≤ sizeLine ∧ ∃ (its : List Value) (n : Nat), Vals xs its ∧ h.get? a = some { cls := .type "list", data := .seq its.toArray n }
  | .tup xs => xs.length ≤ sizeLine ∧ ∃ its : List Value, Vals xs its ∧ IsTup h a its.toArray
  | .dK kvs => kvs.length ≤ sizeLine ∧ (a == sysModules) = false ∧ ∃ vs, KV kvs vs ∧ h.DictOf (mixKind P w) a vs
  | .dT kvs => kvs.length ≤ sizeLine ∧ (a == sysModules) = false ∧ ∃ xs : List (List Key × Addr × Value),
      Paired (fun (p : List Key × V) (q : List Key × Addr × Value) => p.1 = q.1 ∧ H q.2.1 = some (.tup (p.1.map kV)) ∧ RelV p.2 q.2.2) kvs xs ∧
      ∃ o es ep, h.get? a = some o ∧ o.ExactDict ∧ o.data = .dict es ep ∧ es.toList = xs.map (entryOfKey (tupleKind (mixKind P w))) ∧ (xs.map (·.1)).Nodup
  | .set S n => h.SetOf (intKind P w) a S n
  | .ins C dx fs => H dx = some (.own a) ∧ fs.length ≤ 1000 ∧ dx ≠ a ∧ h.get? a = some (PySem.W.instObj C dx) ∧
      ∃ mA, h.Ns1 dx mA ∧ (∀ f, RelO (fs.lookup f) (mA f)) ∧ PySem.Within mA (fs.map (·.1))
  | .own _ => ∃ o, h.get? a = some o
  | .xd fs => ∃ mA, h.Ns1 a mA ∧ ∀ f, RelO (fs.lookup f) (mA f)
  | .rng lo hi => ∃ t u v, h.get? a = some { cls := .type "range", data := .fields #[.int lo t, .int hi u, .int 1 v] }
  | .frz o u => h.get? a = some o ∧ ObjOk H h a u
  | .tbl ps => h.get? a = some { cls := .none, data := .fields ps }
  | .met f x => h.get? a = some (PySem.W.methodObj (.ref f) (.ref x))
  | .ext φ => φ h ∧ (∃ o, h.get? a = some o) ∧ ∀ h1 h2 : Heap, φ h1 → (∀ o, h1.get? a = some o → h2.get? a = some o) → φ h2
def HOk (H : Hp) (h : Heap) : Prop := ∀ a o, H a = some o → ObjOk P w H h a o
end
section
variable {P : Program} {w : World} {H H' : Hp} {h h' : Heap} {a : Addr} {o : HO}
theorem ObjOk.lt (x : ObjOk P w H h a o) : a < h.objs.size := by
  cases o with
  | lst xs => obtain ⟨_, _, _, _, e⟩ := x; exact Heap.lt_size e
  | tup xs => obtain ⟨_, _, _, p⟩ := x; exact p.lt
  | dK kvs => obtain ⟨_, _, _, _, o, _, _, e, _⟩ := x; exact Heap.lt_size e
  | dT kvs => obtain ⟨_, _, _, _, o, _, _, e, _⟩ := x; exact Heap.lt_size e
  | set S n => obtain ⟨o, _, _, _, e, _⟩ := x; exact Heap.lt_size e
  | ins C dx fs => obtain ⟨_, _, _, e, _⟩ := x; exact Heap.lt_size e
  | own y => obtain ⟨_, e⟩ := x; exact Heap.lt_size e
  | xd fs => obtain ⟨_, ⟨_, _, _, e, _⟩, _⟩ := x; exact Heap.lt_size e
  | rng lo hi => obtain ⟨_, _, _, e⟩ := x; exact Heap.lt_size e
  | frz ob u => obtain ⟨e, _⟩ := x; exact Heap.lt_size e
  | tbl ps => exact Heap.lt_size (show h.get? a = some _ from x)
  | met f y => exact Heap.lt_size (show h.get? a = some _ from x)
  | ext φ => obtain ⟨_, ⟨_, e⟩, _⟩ := x; exact Heap.lt_size e
theorem Paired.mapP {α β : Type} {F G : α → β → Prop} : ∀ {l₁ : List α} {l₂ : List β}, Paired F l₁ l₂ → (∀ a b, F a b → G a b) → Paired G l₁ l₂
  | _, _, .nil, _ => .nil
  | _, _, .cons r t, f => .cons (f _ _ r) (Paired.mapP t f)
theorem ObjOk.stay (x : ObjOk P w H h a o) (k : ∀ b u, (b = a ∨ H b = some (.own a)) → h.get? b = some u → h'.get? b = some u)
    (ho : ∀ b, H b = some (.own a) → H' b = some (.own a)) (ht : ∀ b xs, H b = some (.tup xs) → H' b = some (.tup xs)) : ObjOk P w H' h' a o := by
  induction o with
  | lst xs => obtain ⟨z, its, n, r, e⟩ := x; exact ⟨z, its, n, r, k _ _ (.inl rfl) e⟩
  | tup xs => obtain ⟨z, its, r, ob, e, c⟩ := x; exact ⟨z, its, r, ob, k _ _ (.inl rfl) e, c⟩
  | dK kvs => obtain ⟨z, y, vs, r, ob, es, ep, e, c⟩ := x; exact ⟨z, y, vs, r, ob, es, ep, k _ _ (.inl rfl) e, c⟩
  | dT kvs =>
    obtain ⟨z, y, xs, r, ob, es, ep, e, c⟩ := x
    exact ⟨z, y, xs, Paired.mapP r fun p q z => ⟨z.1, ht _ _ z.2.1, z.2.2⟩, ob, es, ep, k _ _ (.inl rfl) e, c⟩
  | set S n => obtain ⟨ob, es, ep, t, e, c⟩ := x; exact ⟨ob, es, ep, t, k _ _ (.inl rfl) e, c⟩
  | ins C dx fs =>
    obtain ⟨d, z, ne, e, mA, ⟨od, es, ep, e2, c⟩, r⟩ := x
    exact ⟨ho _ d, z, ne, k _ _ (.inl rfl) e, mA, ⟨od, es, ep, k _ _ (.inr d) e2, c⟩, r⟩
  | own y => obtain ⟨ob, e⟩ := x; exact ⟨ob, k _ _ (.inl rfl) e⟩
  | xd fs => obtain ⟨mA, ⟨od, es, ep, e, c⟩, r⟩ := x; exact ⟨mA, ⟨od, es, ep, k _ _ (.inl rfl) e, c⟩, r⟩
  | rng lo hi => obtain ⟨t, u, v, e⟩ := x; exact ⟨t, u, v, k _ _ (.inl rfl) e⟩
  | frz ob u ih => obtain ⟨e, q⟩ := x; exact ⟨k _ _ (.inl rfl) e, ih q⟩
  | tbl ps =>
    have e : h.get? a = some { cls := .none, data := .fields ps } := x
    show h'.get? a = some { cls := .none, data := .fields ps }
    exact k a _ (.inl rfl) e
  | met f y =>
    have e : h.get? a = some (PySem.W.methodObj (.ref f) (.ref y)) := x
    show h'.get? a = some (PySem.W.methodObj (.ref f) (.ref y))
    exact k a _ (.inl rfl) e
  | ext φ => obtain ⟨p, ⟨o, e⟩, st⟩ := x; exact ⟨st _ _ p fun o q => k _ _ (.inl rfl) q, ⟨o, k _ _ (.inl rfl) e⟩, st⟩
theorem HOk.lt (x : HOk P w H h) (e : H a = some o) : a < h.objs.size := (x a o e).lt
theorem HOk.fresh (x : HOk P w H h) (e : h.objs.size ≤ a) : H a = none := by
  cases q : H a with
  | none => rfl
  | some u => exact absurd (Nat.lt_of_lt_of_le (x.lt q) e) (Nat.lt_irrefl _)
theorem HOk.kept (x : HOk P w H h) (k : ∀ b u, h.get? b = some u → h'.get? b = some u) : HOk P w H h' := fun a o e =>
  (x a o e).stay (fun b u _ q => k b u q) (fun _ q => q) fun _ _ q => q
theorem HOk.laid (x : HOk P w H h) (k : ∀ b u, h.get? b = some u → h'.get? b = some u) (hp : h.objs.size ≤ a) (new : ObjOk P w (upd H a o) h' a o) : HOk P w (upd H a o) h' := fun b u e => by
  have hn := x.fresh hp
  by_cases hb : b = a
  · subst hb; rw [upd_same] at e; cases e; exact new
  · rw [upd_ne hb] at e
    exact (x b u e).stay (fun c v _ q => k c v q) (fun c q => by rw [upd_ne (ne_of_none q hn)]; exact q) fun c xs q => by rw [upd_ne (ne_of_none q hn)]; exact q
end
def Rd (H : Hp) (a : Addr) (u : HO) : Prop := H a = some u ∨ ∃ o, H a = some (.frz o u)
theorem Rd.of {H : Hp} {a : Addr} {u : HO} (h : H a = some u) : Rd H a u := .inl h
theorem Rd.ok {P : Program} {w : World} {H : Hp} {h : Heap} {a : Addr} {u : HO} (r : Rd H a u) (x : HOk P w H h) : ObjOk P w H h a u := by
  rcases r with r | ⟨o, r⟩
  · exact x a u r
  · obtain ⟨_, q⟩ := x a _ r
    exact q
def Mut : Option HO → Prop
  | some (.lst _) => True
  | some (.dK _) => True
  | some (.dT _) => True
  | some (.set _ _) => True
  | some (.ins _ _ _) => True
  | some (.ext _) => True
  | _ => False
section
variable {P : Program} {w : World} {H : Hp} {h h' : Heap} {x e : Addr} {o' : HO}
theorem HOk.write (ok : HOk P w H h) (mu : Mut (H x)) (he : e = x ∨ H e = some (.own x)) (k : ∀ b u, b ≠ e → h.get? b = some u → h'.get? b = some u) (heo : ∃ u, h'.get? e = some u)
    (new : ObjOk P w (upd H x o') h' x o') : HOk P w (upd H x o') h' := fun b u q => by
  have nown : ∀ c y, H c = some (.own y) → c ≠ x := fun c y r z => by subst z; rw [r] at mu; exact mu
  have ntup : ∀ c xs, H c = some (.tup xs) → c ≠ x := fun c xs r z => by subst z; rw [r] at mu; exact mu
  by_cases hb : b = x
  · subst hb; rw [upd_same] at q; cases q; exact new
  · rw [upd_ne hb] at q
    by_cases hbe : b = e
    · have q' : H b = some (.own x) := by
        rcases he with z | z
        · exact absurd (hbe.trans z) hb
        · rw [hbe]; exact z
      rw [q] at q'; cases q'
      obtain ⟨v, hv⟩ := heo
      exact ⟨v, by rw [hbe]; exact hv⟩
    · refine (ok b u q).stay (fun c v hc r => k c v ?_ r) (fun c r => by rw [upd_ne (nown c b r)]; exact r) fun c xs r => by rw [upd_ne (ntup c xs r)]; exact r
      rcases hc with rfl | hc
      · exact hbe
      · rintro rfl
        rcases he with z | z
        · exact nown c b hc z
        · rw [hc] at z; cases z; exact hb rfl
end
structure Un (fs ex : List Addr) (H H' : Hp) (h h' : Heap) : Prop where
  keep : ∀ b o, h.get? b = some o → H b = none → b ∉ fs → b ∉ ex → h'.get? b = some o
  slot : ∀ b o, h.get? b = some o → H b = none → b ∈ fs → b ∉ ex → ∃ sl, h'.get? b = some { o with slots := sl }
  free : ∀ b o, h.get? b = some o → H b = none → b ∉ ex → H' b = none
  there : ∀ b o, h.get? b = some o → b ∉ ex → ∃ o', h'.get? b = some o'
  tups : ∀ b xs, H b = some (.tup xs) → H' b = some (.tup xs)
  frzs : ∀ b o u, H b = some (.frz o u) → H' b = some (.frz o u)
  tbls : ∀ b ps, H b = some (.tbl ps) → ∃ more, H' b = some (.tbl (ps ++ more))
section
variable {fs fs' ex ex' : List Addr} {H H1 H2 : Hp} {h h1 h2 h' : Heap} {a x e : Addr} {o : HO}
theorem Un.any (u : Un fs ex H H1 h h1) {b : Addr} {ob : Obj} (q : h.get? b = some ob) (n : H b = none) (hx : b ∉ ex) : ∃ sl, h1.get? b = some { ob with slots := sl } := by
  by_cases hb : b ∈ fs
  · exact u.slot b ob q n hb hx
  · exact ⟨ob.slots, u.keep b ob q n hb hx⟩
theorem Un.trans (a : Un fs ex H H1 h h1) (b : Un fs ex H1 H2 h1 h2) : Un fs ex H H2 h h2 where
  keep := fun c ob q n hc hx => b.keep c ob (a.keep c ob q n hc hx) (a.free c ob q n hx) hc hx
  slot := fun c ob q n hc hx => by
    obtain ⟨sl, e1⟩ := a.slot c ob q n hc hx
    obtain ⟨sl', e2⟩ := b.slot c _ e1 (a.free c ob q n hx) hc hx
    exact ⟨sl', e2⟩
  free := fun c ob q n hx => by
    obtain ⟨o', e1⟩ := a.there c ob q hx
    exact b.free c o' e1 (a.free c ob q n hx) hx
  there := fun c ob q hx => by
    obtain ⟨o', e1⟩ := a.there c ob q hx
    exact b.there c o' e1 hx
  tups := fun c xs q => b.tups c xs (a.tups c xs q)
  frzs := fun c ob xs q => b.frzs c ob xs (a.frzs c ob xs q)
  tbls := fun c ps q => by
    obtain ⟨m1, e1⟩ := a.tbls c ps q
    obtain ⟨m2, e2⟩ := b.tbls c _ e1
    exact ⟨m1 ++ m2, by rw [e2, Array.append_assoc]⟩
theorem Un.kept (k : ∀ b u, h.get? b = some u → h'.get? b = some u) : Un fs ex H H h h' :=
  ⟨fun b ob q _ _ _ => k b ob q, fun b ob q _ _ _ => ⟨ob.slots, k b ob q⟩, fun _ _ _ n _ => n, fun b ob q _ => ⟨ob, k b ob q⟩, fun _ _ q => q, fun _ _ _ q => q, fun _ ps q => ⟨#[], by rw [q]; simp⟩⟩
theorem Un.refl : Un fs ex H H h h := Un.kept fun _ _ q => q
theorem Un.laid (k : ∀ b u, h.get? b = some u → h'.get? b = some u) (hp : h.objs.size ≤ a) (hn : H a = none) : Un fs ex H (upd H a o) h h' where
  keep := fun b u q _ _ _ => k b u q
  slot := fun b u q _ _ _ => ⟨u.slots, k b u q⟩
  free := fun b u q n _ => by rw [upd_ne (Nat.ne_of_lt (Nat.lt_of_lt_of_le (Heap.lt_size q) hp))]; exact n
  there := fun b u q _ => ⟨u, k b u q⟩
  tups := fun b xs q => by rw [upd_ne (ne_of_none q hn)]; exact q
  frzs := fun b u xs q => by rw [upd_ne (ne_of_none q hn)]; exact q
  tbls := fun b ps q => ⟨#[], by rw [upd_ne (ne_of_none q hn), q]; simp⟩
theorem Un.write (mu : Mut (H x)) (he : e = x ∨ H e = some (.own x)) (k : ∀ b u, b ≠ e → h.get? b = some u → h'.get? b = some u) (heo : ∃ u, h'.get? e = some u) : Un fs ex H (upd H x o) h h' := by
  have hx : ∀ b, H b = none → b ≠ x := fun b n z => by subst z; rw [n] at mu; exact mu
  have hb : ∀ b, H b = none → b ≠ e := fun b n z => by
    subst z
    rcases he with r | r
    · exact hx b n r
    · rw [n] at r; cases r
  have hm : ∀ b u, H b = some u → ¬ Mut (some u) → b ≠ x := fun b u q nm z => by subst z; rw [q] at mu; exact nm mu
  refine ⟨fun b u q n _ _ => k b u (hb b n) q, fun b u q n _ _ => ⟨u.slots, k b u (hb b n) q⟩, fun b u q n _ => by rw [upd_ne (hx b n)]; exact n, fun b u q _ => ?_,
    fun b xs q => by rw [upd_ne (hm b _ q fun z => z)]; exact q, fun b u xs q => by rw [upd_ne (hm b _ q fun z => z)]; exact q, fun b ps q => ⟨#[], by rw [upd_ne (hm b _ q fun z => z), q]; simp⟩⟩
  by_cases hbe : b = e
  · subst hbe; exact heo
  · exact ⟨u, k b u hbe q⟩
theorem Un.mono (u : Un fs ex H H1 h h1) (hs : ∀ b ∈ fs, b ∈ fs') (hx : ∀ b ∈ ex, b ∈ ex') : Un fs' ex' H H1 h h1 :=
  ⟨fun b ob q n hb he => u.keep b ob q n (fun z => hb (hs b z)) fun z => he (hx b z), fun _ _ q n _ he => u.any q n fun z => he (hx _ z), fun b ob q n he => u.free b ob q n fun z => he (hx b z), fun b ob q he => u.there b ob q fun z => he (hx b z), u.tups, u.frzs, u.tbls⟩
end
def trk (h : Heap) (H : Hp) : List Addr := (List.range h.objs.size).filter fun a => (H a).isSome
def hidT (h : Heap) (H : Hp) : Heap := PySem.W.hideAll h (trk h H)
theorem hidT_size (h : Heap) (H : Hp) : (hidT h H).objs.size = h.objs.size := PySem.W.hideAll_size _ _
theorem hidT_get {h : Heap} {H : Hp} {b : Addr} {o : Obj} (e : h.get? b = some o) (n : H b = none) : (hidT h H).get? b = some o :=
  PySem.W.hideAll_get _ e fun hm => by
    have q : (H b).isSome = true := (List.mem_filter.mp hm).2
    rw [n] at q; simp at q
theorem of_hidT {h : Heap} {H : Hp} {b : Addr} {o : Obj} (e : (hidT h H).get? b = some o) : h.get? b = some o ∧ H b = none := by
  have e' : h.get? b = some o := PySem.W.of_hideAll (trk h H) e
  refine ⟨e', ?_⟩
  cases q : H b with
  | none => rfl
  | some x =>
    have hm : b ∈ trk h H := List.mem_filter.mpr ⟨List.mem_range.mpr (Heap.lt_size e'), by simp [q]⟩
    have z : (hidT h H).get? b = none := PySem.W.hideAll_none (trk h H) hm
    rw [z] at e; cases e
def allNews (g h : Heap) (L : Addr) : List (Addr × Obj) := (List.range h.objs.size).filterMap fun a => if a = L ∨ (g.get? a).isSome = true then none else (h.get? a).map fun o => (a, o)
def rest (g h : Heap) (L d : Addr) : List (Addr × Obj) := (allNews g h L).filter fun p => decide (p.1 ≠ d)
end L2
namespace L2
open PySem PySem.Spec PyProof.Rows
structure Mod (K : PySem.W.Frag) (mg : Str → Option Value) (base : Heap) : Prop where
  kin : K.In base
  glob : base.Ns mainGlobals mg
  blt : ∃ mb, base.Ns builtinsNs mb ∧ ∀ x : Str, x ≠ "__name__" → mb x = bootBuiltins x
  nolimit : base.NoLimit
structure Cx where
  prog : Program
  w : World
  K : PySem.W.Frag
  mg : Str → Option Value
  base : Heap
  A : Around
  N : List Str
  s₀ : Shared
  H₀ : Hp
  env : Env
  outer : List Env
  stack : List Env
  ex : List Addr
  fn : Str → Bool
  calm : Bool
  pn : List (Addr × Obj)
  xe : Value → Shared → Prop
def frs (l : List Env) : List Addr := l.filterMap (·.frame)
abbrev Cx.fs (X : Cx) : List Addr := frs X.outer
def Vis (sc : Scope) (x : Str) : Prop := sc.names.lookup x = some .local ∨ sc.names.lookup x = some .cell ∨ sc.names.lookup x = some .free
def Loc (sc : Scope) (x : Str) : Prop := sc.names.lookup x = some .local ∨ sc.names.lookup x = some .cell
def Look (env : Env) (h : Heap) (m : Str → Option Value) (x : Str) (u : Value) : Prop :=
  (env.kindOf x = some .local ∧ m x = some u) ∨ ((env.kindOf x = some .cell ∨ env.kindOf x = some .free) ∧ ∃ c, env.cells.lookup x = some c ∧ h.IsCell c (some u))
structure Cx.Ok (X : Cx) : Prop where
  mod : Mod X.K X.mg X.base
  kind : X.env.scope.kind = .function
  glob : X.env.globals = mainGlobals
  blt : X.env.builtins = builtinsNs
  above : X.s₀.heap.objs.size ≤ X.env.locals
  inj : ∀ x y c, X.env.cells.lookup x = some c → X.env.cells.lookup y = some c → x = y
  has : ∀ x, (X.env.kindOf x = some .cell ∨ X.env.kindOf x = some .free) → ∃ c, X.env.cells.lookup x = some c
  cab : ∀ x c, X.fn x = true → X.env.cells.lookup x = some c → X.s₀.heap.objs.size ≤ c
  hd : X.calm = true → X.A.handled = none
  frames : X.A.frames = some X.stack
  stk : X.stack = X.outer ∨ (X.stack = X.env :: X.outer ∧ X.env.frame = some X.env.locals)
  exf : ∀ b ∈ X.ex, b ≠ X.env.locals ∧ ∀ x c, X.env.cells.lookup x = some c → c ≠ b
  bs : ∀ b o, X.base.get? b = some o → X.s₀.heap.get? b = some o ∧ X.H₀ b = none
  bsz : X.base.objs.size ≤ X.s₀.heap.objs.size
  noex : ∀ b o, X.base.get? b = some o → b ∉ X.ex
  exfs : ∀ b ∈ X.ex, b ∉ X.fs
  funs : X.s₀.heap.FunFrames X.base X.outer
  frf : ∀ b ∈ X.fs, X.H₀ b = none
structure Inv (X : Cx) (pins : List (Addr × Obj)) (σ : List (Option V)) (H : Hp) (s : Shared) : Prop where
  ok : X.Ok
  os : s.os = X.s₀.os
  bare : AllBare s.gens
  base : Un X.fs X.ex X.H₀ H X.s₀.heap s.heap
  loc : ∃ m, s.heap.Ns X.env.locals m ∧ ∀ (i : Nat) (x : Str) (v : V), X.N[i]? = some x → σ[i]? = some (some v) → Vis X.env.scope x → ∃ u, RelV v u ∧ Look X.env s.heap m x u
  cell : ∀ x c, X.env.cells.lookup x = some c → ∃ v, s.heap.IsCell c v
  free : H X.env.locals = none
  freeC : ∀ x c, X.env.cells.lookup x = some c → H c = none
  pin : ∀ p ∈ X.pn ++ pins, s.heap.get? p.1 = some p.2 ∧ H p.1 = none ∧ p.1 ≠ X.env.locals ∧ p.1 ∉ X.fs ∧ ∀ v, p.2.data ≠ .cell v
  hok : HOk X.prog X.w H s.heap
  len : σ.length = X.N.length
section
variable {X : Cx} {pins : List (Addr × Obj)} {σ : List (Option V)} {H H' : Hp} {s : Shared} {h' : Heap}
theorem Cx.Ok.nofr (ok : X.Ok) {b : Addr} {o : Obj} (e : X.base.get? b = some o) : b ∉ X.fs := fun hb => by
  have := (ok.funs.mem hb).1
  rw [e] at this; cases this
theorem Inv.bs (I : Inv X pins σ H s) : ∀ b o, X.base.get? b = some o → s.heap.get? b = some o ∧ H b = none := fun b o e =>
  ⟨I.base.keep b o (I.ok.bs b o e).1 (I.ok.bs b o e).2 (I.ok.nofr e) (I.ok.noex b o e), I.base.free b o (I.ok.bs b o e).1 (I.ok.bs b o e).2 (I.ok.noex b o e)⟩
theorem Inv.bk (I : Inv X pins σ H s) : ∀ b o, X.base.get? b = some o → s.heap.get? b = some o := fun b o e => (I.bs b o e).1
theorem Inv.mod (I : Inv X pins σ H s) : Mod X.K X.mg X.base := I.ok.mod
theorem Inv.kIn (I : Inv X pins σ H s) : X.K.In s.heap := I.ok.mod.kin.keeps I.bk
theorem Inv.nolimit (I : Inv X pins σ H s) : s.heap.NoLimit := I.ok.mod.nolimit.keeps I.bk
theorem Inv.fr (I : Inv X pins σ H s) : ∃ m, Fr X.base X.env.locals s.heap m :=
  let ⟨m, hn, _⟩ := I.loc
  ⟨m, hn, I.bk, Nat.le_trans I.ok.bsz I.ok.above⟩
theorem Inv.lt (I : Inv X pins σ H s) : X.env.locals < s.heap.objs.size := let ⟨_, hn, _⟩ := I.loc; hn.lt
theorem Inv.sz (I : Inv X pins σ H s) : X.s₀.heap.objs.size ≤ s.heap.objs.size := Nat.le_trans I.ok.above (Nat.le_of_lt I.lt)
theorem Inv.nofs (I : Inv X pins σ H s) {a : Addr} (h : s.heap.objs.size ≤ a) : a ∉ X.fs := fun hb => by
  obtain ⟨_, o, ho, _⟩ := I.ok.funs.mem hb
  exact absurd (Nat.lt_of_lt_of_le (Heap.lt_size ho) (Nat.le_trans I.sz h)) (Nat.lt_irrefl _)
theorem Inv.cne (I : Inv X pins σ H s) : ∀ x c, X.env.cells.lookup x = some c → c ≠ X.env.locals := fun x c e z => by
  obtain ⟨v, o, ho, hd⟩ := I.cell x c e
  obtain ⟨m, ⟨o', es, ep, ho', hd', _⟩, _⟩ := I.loc
  rw [z, ho'] at ho; cases ho; rw [hd'] at hd; cases hd
theorem Inv.funs (I : Inv X pins σ H s) : s.heap.FunFrames X.base X.outer := by
  have all : ∀ (l : List Env), (∀ b ∈ frs l, b ∈ X.fs) → X.s₀.heap.FunFrames X.base l → s.heap.FunFrames X.base l := by
    intro l
    induction l with
    | nil => intro _ _; trivial
    | cons env r ih =>
      intro hs hl
      obtain ⟨hk, ⟨L, o, hf, hn, ho, hd⟩, hr⟩ := hl
      have hL : L ∈ X.fs := hs L (by unfold frs; rw [List.filterMap_cons, hf]; exact List.mem_cons_self)
      obtain ⟨sl, e⟩ := I.base.slot L o ho (I.ok.frf L hL) hL fun z => I.ok.exfs L z hL
      exact ⟨hk, ⟨L, _, hf, hn, e, hd⟩, ih (fun b hb => hs b (by unfold frs; rw [List.filterMap_cons, hf]; exact List.mem_cons_of_mem _ hb)) hr⟩
  exact all X.outer (fun _ hb => hb) I.ok.funs
theorem Inv.stack (I : Inv X pins σ H s) : s.heap.FunFrames X.base X.stack := by
  rcases I.ok.stk with e | ⟨e, hf⟩
  · rw [e]; exact I.funs
  · rw [e]
    obtain ⟨m, hn, _⟩ := I.loc
    refine .cons (by rw [I.ok.kind]; decide) hf hn ?_ I.funs
    exact Heap.get?_none_of_le (Nat.le_trans I.ok.bsz I.ok.above)
theorem Inv.stkSub (I : Inv X pins σ H s) : ∀ b ∈ frs X.stack, b ∈ X.env.locals :: X.fs := fun b hb => by
  rcases I.ok.stk with e | ⟨e, hf⟩
  · rw [e] at hb; exact List.mem_cons_of_mem _ hb
  · rw [e] at hb
    unfold frs at hb
    rw [List.filterMap_cons, hf] at hb
    exact hb
theorem Inv.stkFree (I : Inv X pins σ H s) : ∀ b ∈ frs X.stack, H b = none := fun b hb => by
  rcases List.mem_cons.mp (I.stkSub b hb) with e | hb
  · rw [e]; exact I.free
  · obtain ⟨_, o, ho, _⟩ := I.ok.funs.mem hb
    exact I.base.free b o ho (I.ok.frf b hb) fun z => I.ok.exfs b z hb
theorem Inv.step {g' : Array GenState} {t' : Nat} {d' : Drawn} {ch : List Addr} (I : Inv X pins σ H s)
    (hch : ∀ b ∈ ch, (b ∈ X.ex ∨ X.s₀.heap.objs.size ≤ b) ∧ b ≠ X.env.locals ∧ (∀ x c, X.env.cells.lookup x = some c → c ≠ b) ∧ ∀ p ∈ X.pn ++ pins, p.1 ≠ b)
    (keep : ∀ b o, b ≠ X.env.locals → b ∉ X.fs → b ∉ ch → s.heap.get? b = some o → H b = none → h'.get? b = some o)
    (slot : ∀ b o, b ≠ X.env.locals → b ∈ X.fs → b ∉ ch → s.heap.get? b = some o → H b = none → ∃ sl, h'.get? b = some { o with slots := sl }) (free : ∀ b o, b ∉ ch → s.heap.get? b = some o → H b = none → H' b = none)
    (there : ∀ b o, b ∉ ch → s.heap.get? b = some o → ∃ o', h'.get? b = some o')
    (tups : ∀ b xs, H b = some (.tup xs) → H' b = some (.tup xs)) (frzs : ∀ b o u, H b = some (.frz o u) → H' b = some (.frz o u)) (tbls : ∀ b ps, H b = some (.tbl ps) → ∃ more, H' b = some (.tbl (ps ++ more)))
    (ns : ∀ m, s.heap.Ns X.env.locals m → h'.Ns X.env.locals m) (hok : HOk X.prog X.w H' h') (hg : AllBare g') :
    Inv X pins σ H' { s with heap := h', gens := g', drawn := d', toks := t' } := by
  have neL : ∀ b o, X.s₀.heap.get? b = some o → b ≠ X.env.locals := fun b o e => Nat.ne_of_lt (Nat.lt_of_lt_of_le (Heap.lt_size e) I.ok.above)
  have neC : ∀ b o, X.s₀.heap.get? b = some o → b ∉ X.ex → b ∉ ch := fun b o e hx hb => by
    rcases (hch b hb).1 with z | z
    · exact hx z
    · exact absurd (Nat.lt_of_lt_of_le (Heap.lt_size e) z) (Nat.lt_irrefl _)
  have cellK : ∀ x c, X.env.cells.lookup x = some c → ∀ v, s.heap.IsCell c v → h'.IsCell c v := fun x c e v ⟨o, ho, hd⟩ => by
    have nch : c ∉ ch := fun z => (hch c z).2.2.1 x c e rfl
    by_cases hc : c ∈ X.fs
    · obtain ⟨sl, q⟩ := slot c o (I.cne x c e) hc nch ho (I.freeC x c e)
      exact ⟨_, q, hd⟩
    · exact ⟨o, keep c o (I.cne x c e) hc nch ho (I.freeC x c e), hd⟩
  refine ⟨I.ok, I.os, hg, ⟨fun b o e n hb hx => ?_, fun b o e n hb hx => ?_, fun b o e n hx => ?_, fun b o e hx => ?_, fun b xs e => tups b xs (I.base.tups b xs e), fun b o xs e => frzs b o xs (I.base.frzs b o xs e), fun b ps e => ?_⟩, ?_, fun x c e => ?_, ?_, fun x c e => ?_, fun p hp => ?_, hok, I.len⟩
  · exact keep b o (neL b o e) hb (neC b o e hx) (I.base.keep b o e n hb hx) (I.base.free b o e n hx)
  · obtain ⟨sl, e1⟩ := I.base.slot b o e n hb hx
    obtain ⟨sl', e2⟩ := slot b _ (neL b o e) hb (neC b o e hx) e1 (I.base.free b o e n hx)
    exact ⟨sl', e2⟩
  · obtain ⟨o', e1⟩ := I.base.there b o e hx
    exact free b o' (neC b o e hx) e1 (I.base.free b o e n hx)
  · obtain ⟨o', e1⟩ := I.base.there b o e hx
    exact there b o' (neC b o e hx) e1
  · obtain ⟨m1, e1⟩ := I.base.tbls b ps e
    obtain ⟨m2, e2⟩ := tbls b _ e1
    exact ⟨m1 ++ m2, by rw [e2, Array.append_assoc]⟩
  · obtain ⟨m, hn, hl⟩ := I.loc
    refine ⟨m, ns m hn, fun i x v e1 e2 e3 => ?_⟩
    obtain ⟨u, r, l⟩ := hl i x v e1 e2 e3
    refine ⟨u, r, ?_⟩
    rcases l with l | ⟨k, c, e, z⟩
    · exact .inl l
    · exact .inr ⟨k, c, e, cellK x c e _ z⟩
  · obtain ⟨v, z⟩ := I.cell x c e
    exact ⟨v, cellK x c e v z⟩
  · obtain ⟨m, ⟨o, _, _, ho, _⟩, _⟩ := I.loc
    exact free _ o (fun z => (hch _ z).2.1 rfl) ho I.free
  · obtain ⟨v, o, ho, hd⟩ := I.cell x c e
    exact free c o (fun z => (hch c z).2.2.1 x c e rfl) ho (I.freeC x c e)
  · obtain ⟨e, n, ne, nf, d⟩ := I.pin p hp
    have nch : p.1 ∉ ch := fun z => (hch p.1 z).2.2.2 p hp rfl
    exact ⟨keep p.1 p.2 ne nf nch e n, free p.1 p.2 nch e n, ne, nf, d⟩
theorem Inv.un {t' : Nat} (I : Inv X pins σ H s) (u : Un X.fs [] H H' s.heap h') (hok : HOk X.prog X.w H' h') : Inv X pins σ H' { s with heap := h', toks := t' } := by
  obtain ⟨m, ⟨o, es, ep, ho, r⟩, _⟩ := id I.loc
  obtain ⟨sl, hL⟩ := u.any ho I.free (by simp)
  exact I.step (g' := s.gens) (d' := s.drawn) (ch := []) (fun _ z => nomatch z) (fun b o _ hb _ e n => u.keep b o e n hb (by simp)) (fun b o _ hb _ e n => u.slot b o e n hb (by simp)) (fun b o _ e n => u.free b o e n (by simp)) (fun b o _ e => u.there b o e (by simp)) u.tups u.frzs u.tbls (fun m' hm => by
    obtain ⟨o', es', ep', ho', r'⟩ := hm
    rw [ho] at ho'; cases ho'
    exact ⟨_, es', ep', hL, r'⟩) hok I.bare
theorem Inv.call {g' : Array GenState} {t' : Nat} {d' : Drawn} {ch : List Addr} (I : Inv X pins σ H s) (u : Un (frs X.stack) ch H H' s.heap h') (hok : HOk X.prog X.w H' h') (hg : AllBare g')
    (hch : ∀ b ∈ ch, (b ∈ X.ex ∨ X.s₀.heap.objs.size ≤ b) ∧ b ≠ X.env.locals ∧ (∀ x c, X.env.cells.lookup x = some c → c ≠ b) ∧ ∀ p ∈ X.pn ++ pins, p.1 ≠ b) :
    Inv X pins σ H' { s with heap := h', gens := g', drawn := d', toks := t' } := by
  obtain ⟨m, ⟨o, es, ep, ho, r⟩, _⟩ := id I.loc
  obtain ⟨sl, hL⟩ := u.any ho I.free fun z => (hch _ z).2.1 rfl
  exact I.step (ch := ch) hch (fun b o hL hb hc e n => u.keep b o e n (fun z => (List.mem_cons.mp (I.stkSub b z)).elim hL hb) hc) (fun b o _ _ hc e n => u.any e n hc) (fun b o hc e n => u.free b o e n hc) (fun b o hc e => u.there b o e hc) u.tups u.frzs u.tbls (fun m' hm => by
    obtain ⟨o', es', ep', ho', r'⟩ := hm
    rw [ho] at ho'; cases ho'
    exact ⟨_, es', ep', hL, r'⟩) hok hg
theorem Inv.turned {t' : Nat} {it : Addr} (I : Inv X pins σ H s) (k : ∀ b o, b ≠ it → s.heap.get? b = some o → h'.get? b = some o) (hn : H it = none) (hL : it ≠ X.env.locals)
    (h1 : it ∈ X.ex ∨ X.s₀.heap.objs.size ≤ it) (h2 : ∀ x c, X.env.cells.lookup x = some c → c ≠ it) (h3 : ∀ p ∈ X.pn ++ pins, p.1 ≠ it) : Inv X pins σ H { s with heap := h', toks := t' } := by
  have nit : ∀ b u, H b = some u → b ≠ it := fun b u e z => by rw [z, hn] at e; cases e
  refine I.step (g' := s.gens) (d' := s.drawn) (ch := [it]) (fun b hb => ?_) (fun b o _ _ hc e _ => k b o (fun z => hc (by simp [z])) e) (fun b o _ _ hc e _ => ⟨o.slots, k b o (fun z => hc (by simp [z])) e⟩) (fun _ _ _ _ n => n)
    (fun b o hc e => ⟨o, k b o (fun z => hc (by simp [z])) e⟩) (fun _ _ e => e) (fun _ _ _ e => e) (fun b ps e => ⟨#[], by rw [e]; simp⟩) (fun m hm => ?_) (fun b u e => ?_) I.bare
  · have e : b = it := by simpa using hb
    subst e
    exact ⟨h1, hL, h2, h3⟩
  · obtain ⟨o, es, ep, ho, r⟩ := hm
    exact ⟨o, es, ep, k _ o (Ne.symm hL) ho, r⟩
  · refine (I.hok b u e).stay (fun c v hc q => k c v ?_ q) (fun _ q => q) fun _ _ q => q
    rcases hc with z | z
    · rw [z]; exact nit b u e
    · exact nit c _ z
theorem Inv.tok (I : Inv X pins σ H s) (t : Nat) : Inv X pins σ H { s with toks := t } := I.un (h' := s.heap) (t' := t) Un.refl I.hok
theorem Inv.kept {t' : Nat} (I : Inv X pins σ H s) (k : ∀ b u, s.heap.get? b = some u → h'.get? b = some u) : Inv X pins σ H { s with heap := h', toks := t' } := I.un (Un.kept k) (I.hok.kept k)
theorem Inv.laid {a : Addr} {o : HO} {t' : Nat} (I : Inv X pins σ H s) (k : ∀ b u, s.heap.get? b = some u → h'.get? b = some u) (hp : s.heap.objs.size ≤ a) (new : ObjOk X.prog X.w (upd H a o) h' a o) :
    Inv X pins σ (upd H a o) { s with heap := h', toks := t' } := I.un (Un.laid k hp (I.hok.fresh hp)) (I.hok.laid k hp new)
theorem Inv.write {x e : Addr} {o : HO} {t' : Nat} (I : Inv X pins σ H s) (mu : Mut (H x)) (he : e = x ∨ H e = some (.own x)) (k : ∀ b u, b ≠ e → s.heap.get? b = some u → h'.get? b = some u) (heo : ∃ u, h'.get? e = some u)
    (new : ObjOk X.prog X.w (upd H x o) h' x o) : Inv X pins σ (upd H x o) { s with heap := h', toks := t' } := I.un (Un.write mu he k heo) (I.hok.write mu he k heo new)
theorem Inv.pins_of {pins' : List (Addr × Obj)} (I : Inv X pins σ H s) (h : ∀ p ∈ pins', s.heap.get? p.1 = some p.2 ∧ H p.1 = none ∧ p.1 ≠ X.env.locals ∧ p.1 ∉ X.fs ∧ ∀ v, p.2.data ≠ .cell v) : Inv X pins' σ H s :=
  ⟨I.ok, I.os, I.bare, I.base, I.loc, I.cell, I.free, I.freeC, fun p hp => (List.mem_append.mp hp).elim (fun z => I.pin p (List.mem_append_left _ z)) (h p), I.hok, I.len⟩
theorem nodup_ix {N : List Str} (hN : N.Nodup) {i j : Nat} {x : Str} (a : N[i]? = some x) (b : N[j]? = some x) : i = j := by
  obtain ⟨h1, e1⟩ := List.getElem?_eq_some_iff.mp a
  obtain ⟨h2, e2⟩ := List.getElem?_eq_some_iff.mp b
  exact (List.getElem_inj hN).mp (e1.trans e2.symm)
theorem store_ok2 {M : Model} {A : Around} {E : Value → Shared → Prop} {i : Nat} {x : Str} {v : V} {u : Value} {Q : Unit → Shared → Prop} (I : Inv X pins σ H s) (hN : X.N.Nodup) (hi : X.N[i]? = some x) (hx : Loc X.env.scope x) (r : RelV v u)
    (h : ∀ s', Inv X pins (σ.set i (some v)) H s' → (∃ a, Heap.SameBut a s.heap s'.heap ∧ (a = X.env.locals ∨ X.env.cells.lookup x = some a)) → Q () s') (hf : X.fn x = true ∨ X.env.scope.names.lookup x = some .local := by first | exact .inl rfl | exact .inr rfl | assumption) : wpAny M A (storeName X.env x u) Q E s := by
  obtain ⟨m, hn, hl⟩ := id I.loc
  have hcls : (X.env.scope.kind == .class || (X.env.scope.kind == .module && X.env.locals != X.env.globals)) = false := by rw [I.ok.kind]; rfl
  have hiσ : i < σ.length := by rw [I.len]; exact (List.getElem?_eq_some_iff.mp hi).1
  have cne := I.cne
  have tracked : ∀ {a : Addr} {h' : Heap}, (∃ o, s.heap.get? a = some o ∧ H a = none) → Heap.SameBut a s.heap h' → HOk X.prog X.w H h' := fun {a h'} ha hs b ob e => by
    obtain ⟨_, _, hfree⟩ := ha
    refine (I.hok b ob e).stay (fun c w' hc q => (hs.2 c ?_).trans q) (fun _ q => q) fun _ _ q => q
    rintro rfl
    rcases hc with rfl | hc
    · rw [hfree] at e; cases e
    · rw [hfree] at hc; cases hc
  rcases hx with hk | hk
  · refine wpAny_storeName_local hk hn (fun h' hn' hs => ?_) hcls
    obtain ⟨oL, _, _, hoL, _⟩ := id hn
    refine h _ ⟨I.ok, I.os, I.bare, ⟨fun b o e n hb hx => ?_, fun b o e n hb hx => ?_, I.base.free, fun b o e hx => ?_, I.base.tups, I.base.frzs, I.base.tbls⟩, ⟨_, hn', fun j y v' e1 e2 e3 => ?_⟩, fun y c e => ?_, I.free, I.freeC, fun p hp => ?_, tracked ⟨oL, hoL, I.free⟩ hs, by simpa using I.len⟩ ⟨_, hs, .inl rfl⟩
    · exact (hs.2 b (Nat.ne_of_lt (Nat.lt_of_lt_of_le (Heap.lt_size e) I.ok.above))).trans (I.base.keep b o e n hb hx)
    · obtain ⟨sl, e1⟩ := I.base.slot b o e n hb hx
      exact ⟨sl, (hs.2 b (Nat.ne_of_lt (Nat.lt_of_lt_of_le (Heap.lt_size e) I.ok.above))).trans e1⟩
    · obtain ⟨o', e1⟩ := I.base.there b o e hx
      exact ⟨o', (hs.2 b (Nat.ne_of_lt (Nat.lt_of_lt_of_le (Heap.lt_size e) I.ok.above))).trans e1⟩
    · by_cases hj : j = i
      · subst hj
        rw [hi] at e1; cases e1
        rw [List.getElem?_set_self hiσ] at e2
        cases e2
        exact ⟨u, r, .inl ⟨hk, by simp⟩⟩
      · rw [List.getElem?_set_ne (Ne.symm hj)] at e2
        obtain ⟨u', r', q⟩ := hl j y v' e1 e2 e3
        refine ⟨u', r', ?_⟩
        rcases q with ⟨k, e⟩ | ⟨k, c, e, z⟩
        · refine .inl ⟨k, ?_⟩
          have : y ≠ x := fun e => hj (nodup_ix hN e1 (e ▸ hi))
          simp [this, e]
        · exact .inr ⟨k, c, e, z.sameBut hs (cne y c e)⟩
    · obtain ⟨w', z⟩ := I.cell y c e
      exact ⟨w', z.sameBut hs (cne y c e)⟩
    · obtain ⟨e, n, ne, nf, d⟩ := I.pin p hp
      exact ⟨(hs.2 p.1 ne).trans e, n, ne, nf, d⟩
  · have hfn : X.fn x = true := by
      rcases hf with z | z
      · exact z
      · rw [z] at hk; cases hk
    obtain ⟨c, hc⟩ := I.ok.has x (.inl hk)
    obtain ⟨w', z⟩ := I.cell x c hc
    refine wpAny_storeName_cell I.ok.kind hk hc z (fun h' hc' hs => ?_)
    obtain ⟨oc, hoc, hocd⟩ := id z
    refine h { s with heap := h' } ⟨I.ok, I.os, I.bare, ⟨fun b o e n hb hx => ?_, fun b o e n hb hx => ?_, I.base.free, fun b o e hx => ?_, I.base.tups, I.base.frzs, I.base.tbls⟩, ⟨m, hn.sameBut hs (Ne.symm (cne x c hc)), fun j y v' e1 e2 e3 => ?_⟩, fun y c' e => ?_, I.free, I.freeC, fun p hp => ?_, tracked ⟨oc, hoc, I.freeC x c hc⟩ hs, by simpa using I.len⟩ ⟨c, hs, .inr hc⟩
    · exact (hs.2 b (Nat.ne_of_lt (Nat.lt_of_lt_of_le (Heap.lt_size e) (I.ok.cab x c hfn hc)))).trans (I.base.keep b o e n hb hx)
    · obtain ⟨sl, e1⟩ := I.base.slot b o e n hb hx
      exact ⟨sl, (hs.2 b (Nat.ne_of_lt (Nat.lt_of_lt_of_le (Heap.lt_size e) (I.ok.cab x c hfn hc)))).trans e1⟩
    · obtain ⟨o', e1⟩ := I.base.there b o e hx
      exact ⟨o', (hs.2 b (Nat.ne_of_lt (Nat.lt_of_lt_of_le (Heap.lt_size e) (I.ok.cab x c hfn hc)))).trans e1⟩
    · by_cases hj : j = i
      · subst hj
        rw [hi] at e1; cases e1
        rw [List.getElem?_set_self hiσ] at e2
        cases e2
        exact ⟨u, r, .inr ⟨.inl hk, c, hc, hc'⟩⟩
      · rw [List.getElem?_set_ne (Ne.symm hj)] at e2
        obtain ⟨u', r', q⟩ := hl j y v' e1 e2 e3
        refine ⟨u', r', ?_⟩
        rcases q with q | ⟨k, c', e, z'⟩
        · exact .inl q
        · refine .inr ⟨k, c', e, z'.sameBut hs ?_⟩
          rintro rfl
          exact hj (nodup_ix hN e1 (I.ok.inj _ _ _ e hc ▸ hi))
    · by_cases hcc : c' = c
      · subst hcc; exact ⟨_, hc'⟩
      · obtain ⟨w2, z2⟩ := I.cell y c' e
        exact ⟨w2, z2.sameBut hs hcc⟩
    · obtain ⟨e, n, ne, nf, d⟩ := I.pin p hp
      refine ⟨(hs.2 p.1 ?_).trans e, n, ne, nf, d⟩
      intro q
      rw [q, hoc] at e
      have q' : oc = p.2 := Option.some.inj e
      exact d w' (by rw [← q']; exact hocd)
theorem store_ok {M : Model} {A : Around} {E : Value → Shared → Prop} {i : Nat} {x : Str} {v : V} {u : Value} {Q : Unit → Shared → Prop} (I : Inv X pins σ H s) (hN : X.N.Nodup) (hi : X.N[i]? = some x) (hx : Loc X.env.scope x) (r : RelV v u)
    (h : ∀ s', Inv X pins (σ.set i (some v)) H s' → Q () s') (hf : X.fn x = true ∨ X.env.scope.names.lookup x = some .local := by first | exact .inl rfl | exact .inr rfl | assumption) : wpAny M A (storeName X.env x u) Q E s :=
  store_ok2 I hN hi hx r (fun s' I' _ => h s' I') hf
theorem Inv.call' {s' : Shared} {ch : List Addr} (I : Inv X pins σ H s) (ho : s'.os = s.os) (u : Un (frs X.stack) ch H H' s.heap s'.heap) (hok : HOk X.prog X.w H' s'.heap) (hg : AllBare s'.gens)
    (hch : ∀ b ∈ ch, (b ∈ X.ex ∨ X.s₀.heap.objs.size ≤ b) ∧ b ≠ X.env.locals ∧ (∀ x c, X.env.cells.lookup x = some c → c ≠ b) ∧ ∀ p ∈ X.pn ++ pins, p.1 ≠ b) : Inv X pins σ H' s' := by
  obtain ⟨h', g', d', t', o'⟩ := s'
  have e : o' = s.os := ho
  subst e
  exact I.call (g' := g') (t' := t') (d' := d') u hok hg hch
end
abbrev XK := Value → Option Addr → Hp → Prop
abbrev St := List (Option V)
abbrev VK := V → Hp → Prop
abbrev TE := St → Hp → VK → Prop
abbrev TT := St → Hp → (Bool → Hp → Prop) → Prop
abbrev TA := St → Hp → (List V → Hp → Prop) → Prop
structure Ends where
  nx : St → Hp → Prop
  rt : VK
  bk : St → Hp → Prop := fun _ _ => False
  ct : St → Hp → Prop := fun _ _ => False
abbrev TS := Ends → St → Hp → Prop
def EP (X : Cx) (pins : List (Addr × Obj)) (σ : St) (Q : VK) (u : Value) (s' : Shared) : Prop := ∃ v H', Inv X pins σ H' s' ∧ RelV v u ∧ Q v H'
def TP (X : Cx) (pins : List (Addr × Obj)) (σ : St) (Q : Bool → Hp → Prop) (b : Bool) (s' : Shared) : Prop := ∃ H', Inv X pins σ H' s' ∧ Q b H'
def AP (X : Cx) (pins : List (Addr × Obj)) (σ : St) (Q : List V → Hp → Prop) (us : List Value) (s' : Shared) : Prop := ∃ vs H', Inv X pins σ H' s' ∧ Vals vs us ∧ Q vs H'
def SP (X : Cx) (pins : List (Addr × Obj)) (D : Ends) (f : Flow) (s' : Shared) : Prop :=
  match f with
  | .next => ∃ σ' H', Inv X pins σ' H' s' ∧ D.nx σ' H'
  | .brk => ∃ σ' H', Inv X pins σ' H' s' ∧ D.bk σ' H'
  | .cont => ∃ σ' H', Inv X pins σ' H' s' ∧ D.ct σ' H'
  | .ret u => ∃ v σ' H', Inv X pins σ' H' s' ∧ RelV v u ∧ D.rt v H'
def PE (X : Cx) (e : Expr) (t : TE) : Prop :=
  ∀ (pins : List (Addr × Obj)) (s : Shared) (σ : St) (H : Hp) (Q : VK), Inv X pins σ H s → t σ H Q → wpAny (model X.prog X.w) X.A (eval e X.env) (EP X pins σ Q) X.xe s
def PT (X : Cx) (e : Expr) (t : TT) : Prop :=
  ∀ (pins : List (Addr × Obj)) (s : Shared) (σ : St) (H : Hp) (Q : Bool → Hp → Prop), Inv X pins σ H s → t σ H Q → wpAny (model X.prog X.w) X.A (isTrue e X.env (eval e X.env)) (TP X pins σ Q) X.xe s
def PW (X : Cx) (e : Expr) (t : TT) : Prop :=
  ∀ (whole : Sem Value) (pins : List (Addr × Obj)) (s : Shared) (σ : St) (H : Hp) (Q : Bool → Hp → Prop), Inv X pins σ H s → t σ H Q → wpAny (model X.prog X.w) X.A (isTrue e X.env whole) (TP X pins σ Q) X.xe s
theorem PW.pt {X : Cx} {e : Expr} {t : TT} (h : PW X e t) : PT X e t := h _
def PA (X : Cx) (es : List Expr) (t : TA) : Prop :=
  ∀ (pos : Pos) (pins : List (Addr × Obj)) (s : Shared) (σ : St) (H : Hp) (Q : List V → Hp → Prop), Inv X pins σ H s → t σ H Q → wpAny (model X.prog X.w) X.A (spliced (backTo pos (starEach es X.env))) (AP X pins σ Q) X.xe s
def PS (X : Cx) (st : Stmt) (t : TS) : Prop :=
  ∀ (pins : List (Addr × Obj)) (s : Shared) (σ : St) (H : Hp) (D : Ends), Inv X pins σ H s → t D σ H → wpAny (model X.prog X.w) X.A (exec st X.env) (SP X pins D) X.xe s
def PSs (X : Cx) (st : List Stmt) (t : TS) : Prop :=
  ∀ (pins : List (Addr × Obj)) (s : Shared) (σ : St) (H : Hp) (D : Ends), Inv X pins σ H s → t D σ H → wpAny (model X.prog X.w) X.A (execs st X.env) (SP X pins D) X.xe s
theorem thn {α : Type} {t : Sem α} {Q Q' : α → Shared → Prop} {M : Model} {A : Around} {E : Value → Shared → Prop} {s : Shared} (h : wpAny M A t Q E s) (hQ : ∀ a s, Q a s → Q' a s) : wpAny M A t Q' E s := wpAny_mono h hQ fun _ _ x => x
end L2
namespace L2
open PySem PySem.Spec PyProof.Rows
section
variable {X : Cx}
def tVar (i : Nat) : TE := fun σ H Q => ∃ v, σ[i]? = some (some v) ∧ Q v H
def tC (v : V) : TE := fun _ H Q => Q v H
theorem pe_var {i : Nat} {x : Str} {pos : Pos} (hN : X.N[i]? = some x) (hv : Vis X.env.scope x) (hd : (x == ("__debug__" : Str)) = false := by decide) (hcd : (x == ("__classdict__" : Str)) = false := by decide) : PE X (.Name x pos) (tVar i) := by
  intro pins s σ H Q I h
  obtain ⟨v, e, h⟩ := h
  obtain ⟨m, hn, hl⟩ := I.loc
  obtain ⟨u, r, l⟩ := hl i x v hN e hv
  have fin : EP X pins σ Q u s := ⟨v, H, I, r, h⟩
  rcases l with ⟨hk, hm⟩ | ⟨hk, c, hc, hcell⟩
  · exact wpAny_Name (wpAny_loadName_local I.ok.kind hk hn hm fin) hd
  · rcases hk with hk | hk
    · exact wpAny_Name (wpAny_loadName_cell I.ok.kind hk hc hcell fin) hd
    · exact wpAny_Name (wpAny_loadName_free I.ok.kind hk hc hcell fin hcd) hd
theorem pe_int {i j pos} : PE X (.Constant (.int i) j pos) (tC (.int i)) := fun _ _ _ H _ I h => wpAny_Constant_int ⟨.int i, H, I.tok _, ⟨_, rfl⟩, h⟩
theorem pe_bl {b j pos} : PE X (.Constant (.bool b) j pos) (tC (.bl b)) := fun _ _ _ H _ I h => Constant_bool ⟨.bl b, H, I, rfl, h⟩
theorem pe_non {j pos} : PE X (.Constant .none j pos) (tC .non) := fun _ _ _ H _ I h => Constant_none ⟨.non, H, I, rfl, h⟩
theorem pe_str {x j pos} : PE X (.Constant (.str x) j pos) (tC (.str x)) := fun _ _ _ H _ I h => Calls.Constant_str ⟨.str x, H, I.tok _, ⟨_, rfl⟩, h⟩
def Gl (X : Cx) (x : Str) : Prop := X.env.kindOf x = some .globalImplicit
theorem ld_glob {E : Value → Shared → Prop} {pins : List (Addr × Obj)} {s : Shared} {σ : St} {H : Hp} {x : Str} {u : Value} {pos : Pos} {Q : Value → Shared → Prop} (I : Inv X pins σ H s) (hg : Gl X x) (hm : X.mg x = some u) (h : Q u s)
    (hd : (x == ("__debug__" : Str)) = false := by decide) : wpAny (model X.prog X.w) X.A (eval (.Name x pos) X.env) Q E s :=
  Calls.Name_function_global I.ok.kind hg (Calls.loadGlobal_global (by rw [I.ok.glob]; exact I.mod.glob.keeps I.bk) hm h) hd
theorem ld_blt {E : Value → Shared → Prop} {pins : List (Addr × Obj)} {s : Shared} {σ : St} {H : Hp} {x : Str} {u : Value} {pos : Pos} {Q : Value → Shared → Prop} (I : Inv X pins σ H s) (hg : Gl X x) (hm : X.mg x = none) (hv : bootBuiltins x = some u) (h : Q u s)
    (hn : x ≠ "__name__" := by decide) (hd : (x == ("__debug__" : Str)) = false := by decide) : wpAny (model X.prog X.w) X.A (eval (.Name x pos) X.env) Q E s := by
  obtain ⟨mb, h1, h2⟩ := I.mod.blt
  exact Calls.Name_function_global I.ok.kind hg (Calls.loadGlobal_builtin (by rw [I.ok.glob]; exact I.mod.glob.keeps I.bk) hm (by rw [I.ok.blt]; exact h1.keeps I.bk) ((h2 x hn).trans hv) h) hd
theorem pe_glob {x : Str} {v : V} {u : Value} {pos : Pos} (hg : Gl X x) (hm : X.mg x = some u) (r : RelV v u) (hd : (x == ("__debug__" : Str)) = false := by decide) : PE X (.Name x pos) (tC v) :=
  fun _ _ _ H _ I h => ld_glob I hg hm ⟨v, H, I, r, h⟩ hd
theorem pe_bltn {x : Str} {v : V} {u : Value} {pos : Pos} (hg : Gl X x) (hm : X.mg x = none) (hv : bootBuiltins x = some u) (r : RelV v u) (hn : x ≠ "__name__" := by decide) (hd : (x == ("__debug__" : Str)) = false := by decide) : PE X (.Name x pos) (tC v) :=
  fun _ _ _ H _ I h => ld_blt I hg hm hv ⟨v, H, I, r, h⟩ hn hd
def t2I (ta tb : TE) (k : Int → Int → Hp → Prop) : St → Hp → Prop := fun σ H => ta σ H fun x H1 => tb σ H1 fun y H2 => ∃ i j, x = .int i ∧ y = .int j ∧ k i j H2
def tAdd (ta tb : TE) : TE := fun σ H Q => t2I ta tb (fun i j H2 => Q (.int (i + j)) H2) σ H
def tSub (ta tb : TE) : TE := fun σ H Q => t2I ta tb (fun i j H2 => Q (.int (i - j)) H2) σ H
def tMul (ta tb : TE) : TE := fun σ H Q => t2I ta tb (fun i j H2 => (-(2 ^ 64) < i ∧ i < 2 ^ 64) ∧ Q (.int (i * j)) H2) σ H
variable {a b : Expr} {ta tb : TE} {pos : Pos}
def PC (X : Cx) (op : CmpOp) (a b : Expr) (t : TE) : Prop :=
  ∀ (pins : List (Addr × Obj)) (s : Shared) (σ : St) (H : Hp) (Q : VK), Inv X pins σ H s → t σ H Q →
    wpAny (model X.prog X.w) X.A (eval a X.env) (fun v s₁ => wpAny (model X.prog X.w) X.A (eval b X.env) (fun u s₂ => wpAny (model X.prog X.w) X.A (compareOp op v u) (EP X pins σ Q) X.xe s₂) X.xe s₁) X.xe s
def tCmp (p : Int → Int → Bool) (ta tb : TE) : TE := fun σ H Q => t2I ta tb (fun i j H2 => Q (.bl (p i j)) H2) σ H
abbrev tLt : TE → TE → TE := tCmp fun i j => decide (i < j)
abbrev tLe : TE → TE → TE := tCmp fun i j => decide (i ≤ j)
abbrev tGt : TE → TE → TE := tCmp fun i j => decide (j < i)
abbrev tGe : TE → TE → TE := tCmp fun i j => decide (j ≤ i)
abbrev tEqI : TE → TE → TE := tCmp fun i j => decide (i = j)
abbrev tNeI : TE → TE → TE := tCmp fun i j => !decide (i = j)
def tIsN (ta : TE) : TE := fun σ H Q => ta σ H fun x H1 => Q (.bl (decide (x = .non))) H1
def tNotN (ta : TE) : TE := fun σ H Q => ta σ H fun x H1 => Q (.bl (!decide (x = .non))) H1
def tB (t : TE) : TT := fun σ H Q => t σ H fun x H1 => ∃ c, x = .bl c ∧ Q c H1
theorem pt_val {e : Expr} {t : TE} (h : PE X e t) (he : ∀ whole, isTrue e X.env whole = (do let v ← whole; standAt e.pos; holding [v] (truthy v)) := by intro _; rfl) : PT X e (tB t) := by
  intro pins s σ H Q I hw
  refine isTrue_plain (thn (h pins s σ H _ I hw) fun v s1 ⟨x, H1, I1, r1, q1⟩ => ?_) (he _)
  obtain ⟨d, rfl, q⟩ := q1
  cases r1
  exact wpAny_truthy_bool ⟨H1, I1, q⟩
variable {tA tB' : TT} {rest : List Expr}
def tAnd (t u : TT) : TT := fun σ H Q => t σ H fun c H1 => if c = true then u σ H1 Q else Q false H1
def tOr (t u : TT) : TT := fun σ H Q => t σ H fun c H1 => if c = true then Q true H1 else u σ H1 Q
def tNot (t : TT) : TT := fun σ H Q => t σ H fun c H1 => Q (!c) H1
theorem pw_and1 (ha : PT X a tA) : PW X (.BoolOp .And [a] pos) tA := by
  intro wh pins s σ H Q I h
  refine isTrue_and (thn (ha pins s σ H Q I h) fun c s1 e => ?_)
  cases c with
  | true => exact isTrue_and_nil e
  | false => exact e
theorem pw_or1 (ha : PT X a tA) : PW X (.BoolOp .Or [a] pos) tA := by
  intro wh pins s σ H Q I h
  refine isTrue_or (thn (ha pins s σ H Q I h) fun c s1 e => ?_)
  cases c with
  | false => exact isTrue_or_nil e
  | true => exact e
theorem pw_and (ha : PT X a tA) (hb : PW X (.BoolOp .And (b :: rest) pos) tB') : PW X (.BoolOp .And (a :: b :: rest) pos) (tAnd tA tB') := by
  intro wh pins s σ H Q I h
  refine isTrue_and (thn (ha pins s σ H _ I h) fun c s1 ⟨H1, I1, q1⟩ => ?_)
  cases c with
  | true => exact hb wh pins s1 σ H1 Q I1 q1
  | false => exact ⟨H1, I1, q1⟩
theorem pw_or (ha : PT X a tA) (hb : PW X (.BoolOp .Or (b :: rest) pos) tB') : PW X (.BoolOp .Or (a :: b :: rest) pos) (tOr tA tB') := by
  intro wh pins s σ H Q I h
  refine isTrue_or (thn (ha pins s σ H _ I h) fun c s1 ⟨H1, I1, q1⟩ => ?_)
  cases c with
  | true => exact ⟨H1, I1, q1⟩
  | false => exact hb wh pins s1 σ H1 Q I1 q1
theorem pt_not (ha : PT X a tA) : PT X (.UnaryOp .Not a pos) (tNot tA) := by
  intro pins s σ H Q I h
  exact isTrue_not (ha pins s σ H (fun c H1 => Q (!c) H1) I h)
def tAndV (ta tb : TE) : TE := fun σ H Q => ta σ H fun x H1 => ∃ c, x = .bl c ∧ if c = true then tb σ H1 Q else Q (.bl false) H1
def tOrV (ta tb : TE) : TE := fun σ H Q => ta σ H fun x H1 => ∃ c, x = .bl c ∧ if c = true then Q (.bl true) H1 else tb σ H1 Q
def tNotV (ta : TE) : TE := fun σ H Q => ta σ H fun x H1 => ∃ c, x = .bl c ∧ Q (.bl (!c)) H1
theorem pe_one {op} {t : TE} (h : PE X a t) : PE X (.BoolOp op [a] pos) t := fun pins s σ H Q I hw => BoolOp_one (h pins s σ H Q I hw)
theorem pe_and (ha : PE X a ta) (hb : PE X (.BoolOp .And (b :: rest) pos) tb) : PE X (.BoolOp .And (a :: b :: rest) pos) (tAndV ta tb) := by
  intro pins s σ H Q I h
  refine BoolOp_and (thn (ha pins s σ H _ I h) fun v s1 ⟨x, H1, I1, r1, q1⟩ => ?_)
  obtain ⟨c, rfl, q1⟩ := q1
  cases r1
  refine wpAny_truthy_bool ?_
  cases c with
  | true => exact hb pins s1 σ H1 Q I1 q1
  | false => exact ⟨.bl false, H1, I1, rfl, q1⟩
theorem pe_not (ha : PE X a ta) : PE X (.UnaryOp .Not a pos) (tNotV ta) := by
  intro pins s σ H Q I h
  refine UnaryOp_ (thn (ha pins s σ H _ I h) fun v s1 ⟨x, H1, I1, r1, q1⟩ => ?_)
  obtain ⟨c, rfl, q1⟩ := q1
  cases r1
  exact not_of (wpAny_truthy_bool ⟨.bl (!c), H1, I1, rfl, q1⟩)
def tIf (t : TT) (ta tb : TE) : TE := fun σ H Q => t σ H fun c H1 => if c = true then ta σ H1 Q else tb σ H1 Q
theorem pe_ifExp {c : Expr} (hc : PT X c tA) (ha : PE X a ta) (hb : PE X b tb) : PE X (.IfExp c a b pos) (tIf tA ta tb) := by
  intro pins s σ H Q I h
  refine wpAny_IfExp (thn (hc pins s σ H _ I h) fun d s1 ⟨H1, I1, q1⟩ => ?_)
  cases d with
  | true => exact ha pins s1 σ H1 Q I1 q1
  | false => exact hb pins s1 σ H1 Q I1 q1
end
end L2
namespace L2
open PySem PySem.Spec PyProof.Rows
def SqL (K : PySem.W.Frag) (H : Hp) (a : Addr) (xs : List V) : Prop :=
  Rd H a (.lst xs) ∨
    ∃ (o : Obj) (its : Array Value) (n : Nat), K.lookup a = some o ∧ o.cls = .type "list" ∧ o.dict = none ∧ o.data = .seq its n ∧ its.size ≤ sizeLine ∧ Vals xs its.toList
def SqT (K : PySem.W.Frag) (H : Hp) (a : Addr) (xs : List V) : Prop :=
  Rd H a (.tup xs) ∨
    ∃ (o : Obj) (its : Array Value) (n : Nat), K.lookup a = some o ∧ o.cls = .type "tuple" ∧ o.data = .seq its n ∧ its.size ≤ sizeLine ∧ Vals xs its.toList
def absV : Value → Option V
  | .none => some .non
  | .bool b => some (.bl b)
  | .int i _ => some (.int i)
  | .str x _ => some (.str x)
  | .bytes b _ => some (.byt b)
  | .float b _ => some (.flt b)
  | .ref a => some (.ref a)
  | .type n => some (.ty n)
  | _ => none
theorem RelV.abs {x : V} {u : Value} (r : RelV x u) : absV u = some x := by
  cases x with
  | non => cases r; rfl
  | bl _ => cases r; rfl
  | int _ => obtain ⟨t, rfl⟩ := r; rfl
  | str _ => obtain ⟨t, rfl⟩ := r; rfl
  | byt _ => obtain ⟨t, rfl⟩ := r; rfl
  | flt _ => obtain ⟨t, rfl⟩ := r; rfl
  | ref _ => cases r; rfl
  | ty _ => cases r; rfl
theorem RelV.inj {x y : V} {u : Value} (r : RelV x u) (q : RelV y u) : x = y := Option.some.inj (r.abs.symm.trans q.abs)
theorem Vals.inj : ∀ {xs ys : List V} {us : List Value}, Vals xs us → Vals ys us → xs = ys
  | _, _, _, .nil, .nil => rfl
  | _, _, _, .cons r t, .cons r' t' => by rw [r.inj r', Vals.inj t t']
section
variable {X : Cx} {pins : List (Addr × Obj)} {σ : St} {H : Hp} {s : Shared} {a : Addr} {xs ys : List V}
theorem SqL.of {K : PySem.W.Frag} (h : H a = some (.lst xs)) : SqL K H a xs := .inl (.inl h)
theorem SqT.of {K : PySem.W.Frag} (h : H a = some (.tup xs)) : SqT K H a xs := .inl (.inl h)
theorem Inv.list (I : Inv X pins σ H s) (h : SqL X.K H a xs) : ∃ its : List Value, Vals xs its ∧ PlainL s.heap a its.toArray ∧ xs.length ≤ sizeLine := by
  rcases h with h | ⟨o, its, n, hk, hc, hd, hs, hz, r⟩
  · obtain ⟨z, its, n, r, e⟩ := h.ok I.hok
    exact ⟨its, r, ⟨_, n, e, rfl, rfl, rfl⟩, z⟩
  · refine ⟨its.toList, r, ⟨o, n, I.kIn a o hk, hc, hd, by simpa using hs⟩, ?_⟩
    have e := r.length
    simp only [Array.length_toList] at e
    (first | lia | omega)
theorem Inv.tuple (I : Inv X pins σ H s) (h : SqT X.K H a xs) : ∃ its : List Value, Vals xs its ∧ IsTup s.heap a its.toArray ∧ xs.length ≤ sizeLine := by
  rcases h with h | ⟨o, its, n, hk, hc, hs, hz, r⟩
  · obtain ⟨z, its, r, p⟩ := h.ok I.hok
    exact ⟨its, r, p, z⟩
  · refine ⟨its.toList, r, ⟨o, I.kIn a o hk, hc, n, by simpa using hs⟩, ?_⟩
    have e := r.length
    simp only [Array.length_toList] at e
    (first | lia | omega)
theorem Inv.list_inj (I : Inv X pins σ H s) (h : SqL X.K H a xs) (h' : SqL X.K H a ys) : xs = ys := by
  obtain ⟨its, r, ⟨o, n, e, _, _, d⟩, _⟩ := I.list h
  obtain ⟨its', r', ⟨o', n', e', _, _, d'⟩, _⟩ := I.list h'
  rw [e] at e'; cases e'
  rw [d] at d'
  injection d' with d1 _
  have : its = its' := by simpa using congrArg Array.toList d1
  subst this
  exact r.inj r'
theorem Inv.tuple_inj (I : Inv X pins σ H s) (h : SqT X.K H a xs) (h' : SqT X.K H a ys) : xs = ys := by
  obtain ⟨its, r, ⟨o, e, _, n, d⟩, _⟩ := I.tuple h
  obtain ⟨its', r', ⟨o', e', _, n', d'⟩, _⟩ := I.tuple h'
  rw [e] at e'; cases e'
  rw [d] at d'
  injection d' with d1 _
  have : its = its' := by simpa using congrArg Array.toList d1
  subst this
  exact r.inj r'
end
abbrev Cx.wish (X : Cx) (E : Value → Shared → Prop) : Cx := { X with xe := E }
abbrev Cx.nox (X : Cx) : Cx := X.wish fun _ _ => False
theorem Cx.Ok.wish {X : Cx} (ok : X.Ok) (E : Value → Shared → Prop) : (X.wish E).Ok :=
  ⟨ok.mod, ok.kind, ok.glob, ok.blt, ok.above, ok.inj, ok.has, ok.cab, ok.hd, ok.frames, ok.stk, ok.exf, ok.bs, ok.bsz, ok.noex, ok.exfs, ok.funs, ok.frf⟩
theorem Cx.Ok.unwish {X : Cx} {E : Value → Shared → Prop} (ok : (X.wish E).Ok) : X.Ok :=
  ⟨ok.mod, ok.kind, ok.glob, ok.blt, ok.above, ok.inj, ok.has, ok.cab, ok.hd, ok.frames, ok.stk, ok.exf, ok.bs, ok.bsz, ok.noex, ok.exfs, ok.funs, ok.frf⟩
section
variable {X : Cx} {pins : List (Addr × Obj)} {σ : St} {H : Hp} {s : Shared} {E : Value → Shared → Prop}
theorem Inv.wish (I : Inv X pins σ H s) (E : Value → Shared → Prop) : Inv (X.wish E) pins σ H s := ⟨I.ok.wish E, I.os, I.bare, I.base, I.loc, I.cell, I.free, I.freeC, I.pin, I.hok, I.len⟩
theorem Inv.unwish (I : Inv (X.wish E) pins σ H s) : Inv X pins σ H s := ⟨I.ok.unwish, I.os, I.bare, I.base, I.loc, I.cell, I.free, I.freeC, I.pin, I.hok, I.len⟩
theorem SP.unwish {D : Ends} {f : Flow} {s' : Shared} (h : SP (X.wish E) pins D f s') : SP X pins D f s' := by
  cases f with
  | next => obtain ⟨σ', H', I, q⟩ := h; exact ⟨σ', H', I.unwish, q⟩
  | brk => obtain ⟨σ', H', I, q⟩ := h; exact ⟨σ', H', I.unwish, q⟩
  | cont => obtain ⟨σ', H', I, q⟩ := h; exact ⟨σ', H', I.unwish, q⟩
  | ret u => obtain ⟨v, σ', H', I, r, q⟩ := h; exact ⟨v, σ', H', I.unwish, r, q⟩
theorem PE.nox {e : Expr} {t : TE} (h : PE X.nox e t) : PE X e t := fun pins s σ H Q I hw =>
  wpAny_mono (h pins s σ H Q (I.wish _) hw) (fun _ _ ⟨v, H', I', r, q⟩ => ⟨v, H', I'.unwish, r, q⟩) fun _ _ z => False.elim z
theorem PT.nox {e : Expr} {t : TT} (h : PT X.nox e t) : PT X e t := fun pins s σ H Q I hw =>
  wpAny_mono (h pins s σ H Q (I.wish _) hw) (fun _ _ ⟨H', I', q⟩ => ⟨H', I'.unwish, q⟩) fun _ _ z => False.elim z
theorem PSs.nox {st : List Stmt} {t : TS} (h : PSs X.nox st t) : PSs X st t := fun pins s σ H D I hw =>
  wpAny_mono (h pins s σ H D (I.wish _) hw) (fun _ _ q => q.unwish) fun _ _ z => False.elim z
end
section
variable {X : Cx} {st : Stmt} {rest : List Stmt} {t u : TS} {e : Expr} {te : TE} {pos : Pos}
def tNext : TS := fun D σ H => D.nx σ H
def tSeq (t u : TS) : TS := fun D σ H => t { D with nx := u D } σ H
theorem pss_nil : PSs X [] tNext := fun _ _ σ H _ I h => wpAny_execs_nil ⟨σ, H, I, h⟩
theorem pss_cons (h1 : PS X st t) (h2 : PSs X rest u) : PSs X (st :: rest) (tSeq t u) := by
  intro pins s σ H D I h
  refine wpAny_execs_cons (thn (h1 pins s σ H { D with nx := u D } I h) fun f s1 q => ?_)
  cases f with
  | next =>
    obtain ⟨σ', H', I', q⟩ := q
    exact h2 pins s1 σ' H' D I' q
  | ret v => exact q
  | brk => exact q
  | cont => exact q
theorem pss_one (h1 : PS X st t) : PSs X [st] t := by
  intro pins s σ H D I h
  refine wpAny_execs_cons (thn (h1 pins s σ H D I h) fun f s1 q => ?_)
  cases f with
  | next => exact wpAny_execs_nil q
  | ret v => exact q
  | brk => exact q
  | cont => exact q
def tBreak : TS := fun D σ H => D.bk σ H
def tCont : TS := fun D σ H => D.ct σ H
theorem Inv.quiet {pins : List (Addr × Obj)} {σ : St} {H : Hp} {s : Shared} (I : Inv X pins σ H s) : interactive X.env = false := by simp [interactive, I.ok.kind]
def tDrop (te : TE) : TS := fun D σ H => te σ H fun _ H1 => D.nx σ H1
theorem ps_expr (he : PE X e te) (hs : swapsWith e none pos.line X.env = pure false := by rfl) : PS X (.Expr e pos) (tDrop te) := by
  intro pins s σ H D I h
  exact wpAny_Expr_any (thn (he pins s σ H _ I h) fun v s1 ⟨x, H1, I1, r1, q1⟩ => ⟨σ, H1, I1, q1⟩) I.quiet hs
def tRet (te : TE) : TS := fun D σ H => te σ H D.rt
theorem ps_ret (he : PE X e te) : PS X (.Return (some e) pos) (tRet te) := by
  intro pins s σ H D I h
  exact wpAny_Return_some (thn (he pins s σ H _ I h) fun v s1 ⟨x, H1, I1, r1, q1⟩ => ⟨x, σ, H1, I1, r1, q1⟩)
def tRetN : TS := fun D _ H => D.rt .non H
def tIfS (c : TT) (t u : TS) : TS := fun D σ H => c σ H fun b H1 => if b = true then t D σ H1 else u D σ H1
theorem ps_if {c : Expr} {a b : List Stmt} {tc : TT} (hc : PT X c tc) (ha : PSs X a t) (hb : PSs X b u) : PS X (.If c a b pos) (tIfS tc t u) := by
  intro pins s σ H D I h
  refine wpAny_If (thn (hc pins s σ H _ I h) fun d s1 ⟨H1, I1, q1⟩ => ?_)
  cases d with
  | true => exact ha pins s1 σ H1 D I1 q1
  | false => exact hb pins s1 σ H1 D I1 q1
def tNever : TS := fun _ _ _ => False
theorem ps_never : PS X st tNever := fun _ _ _ _ _ _ h => h.elim
end
abbrev TG := V → St → Hp → (St → Hp → Prop) → Prop
abbrev TGs := List V → St → Hp → (St → Hp → Prop) → Prop
def PG (X : Cx) (target : Expr) (t : TG) : Prop :=
  ∀ (pins : List (Addr × Obj)) (s : Shared) (σ : St) (H : Hp) (v : V) (u : Value) (Q : St → Hp → Prop), Inv X pins σ H s → RelV v u → t v σ H Q →
    wpAny (model X.prog X.w) X.A (assign target X.env u) (fun _ s' => ∃ σ' H', Inv X pins σ' H' s' ∧ Q σ' H') X.xe s
def PGs (X : Cx) (ts : List Expr) (t : TGs) : Prop :=
  ∀ (pins : List (Addr × Obj)) (s : Shared) (σ : St) (H : Hp) (vs : List V) (us : List Value) (Q : St → Hp → Prop), Inv X pins σ H s → Vals vs us → t vs σ H Q →
    wpAny (model X.prog X.w) X.A (assignInOrder ((assignEach ts X.env).map (·.2)) us) (fun _ s' => ∃ σ' H', Inv X pins σ' H' s' ∧ Q σ' H') X.xe s
abbrev TSet := V → V → V → Hp → (Hp → Prop) → Prop
def PSet (X : Cx) (t : TSet) : Prop :=
  ∀ (pins : List (Addr × Obj)) (s : Shared) (σ : St) (H : Hp) (o i v : V) (ov iv u : Value) (Q : Hp → Prop), Inv X pins σ H s → RelV o ov → RelV i iv → RelV v u → t o i v H Q →
    wpAny (model X.prog X.w) X.A (setItem ov iv u) (fun _ s' => ∃ H', Inv X pins σ H' s' ∧ Q H') X.xe s
abbrev TIp := V → V → Hp → VK → Prop
def PIp (X : Cx) (op : Operator) (t : TIp) : Prop :=
  ∀ (pins : List (Addr × Obj)) (s : Shared) (σ : St) (H : Hp) (x y : V) (v u : Value) (Q : VK), Inv X pins σ H s → RelV x v → RelV y u → t x y H Q →
    wpAny (model X.prog X.w) X.A (inplaceOp op v u) (EP X pins σ Q) X.xe s
section
variable {X : Cx} {pos : Pos}
def gName (i : Nat) : TG := fun v σ H Q => Q (σ.set i (some v)) H
theorem pg_name {i : Nat} {x : Str} (hN : X.N.Nodup) (hi : X.N[i]? = some x) (hx : Loc X.env.scope x) (hf : X.fn x = true ∨ X.env.scope.names.lookup x = some .local := by first | exact .inl rfl | exact .inr rfl | assumption) : PG X (.Name x pos) (gName i) := by
  intro pins s σ H v u Q I r h
  exact wpAny_assign_Name (store_ok I hN hi hx r (fun s' I' => ⟨_, H, I', h⟩) hf)
def gNil : TGs := fun vs σ H Q => vs = [] ∧ Q σ H
def gCons (t : TG) (u : TGs) : TGs := fun vs σ H Q => ∃ v r, vs = v :: r ∧ t v σ H fun σ' H' => u r σ' H' Q
theorem pgs_nil : PGs X [] gNil := by
  intro pins s σ H vs us Q I r h
  obtain ⟨e, h⟩ := h
  subst e
  cases r
  exact assignInOrder_nil ⟨σ, H, I, h⟩
theorem pgs_cons {e : Expr} {es : List Expr} {t : TG} {u : TGs} (h1 : PG X e t) (h2 : PGs X es u)
    (hs : (assignEach (e :: es) X.env).map (·.2) = assign e X.env :: (assignEach es X.env).map (·.2) := by rfl) : PGs X (e :: es) (gCons t u) := by
  intro pins s σ H vs us Q I r h
  obtain ⟨v, vr, e1, h⟩ := h
  subst e1
  cases r with
  | cons r rr =>
    rw [hs]
    refine assignInOrder_cons (thn (h1 pins s σ H _ _ _ I r h) fun _ s1 ⟨σ1, H1, I1, q1⟩ => ?_)
    exact h2 pins s1 σ1 H1 _ _ Q I1 rr q1
def gTup (K : PySem.W.Frag) (n : Nat) (t : TGs) : TG := fun v σ H Q => ∃ a xs, v = .ref a ∧ SqT K H a xs ∧ xs.length = n ∧ t xs σ H Q
theorem pg_tup {es : List Expr} {k : Nat} {t : TGs} {n : Nat} (hc : X.calm = true) (h : PGs X es t)
    (hn : (assignEach es X.env).length = n := by rfl) (hst : (assignEach es X.env).findIdx? (·.1) = none := by rfl) : PG X (.Tuple es k pos) (gTup X.K n t) := by
  intro pins s σ H v u Q I r hw
  obtain ⟨a, xs, e1, hq, hl, hw⟩ := hw
  subst e1
  cases r
  obtain ⟨its, rv, ht, hz⟩ := I.tuple hq
  refine assign_Tuple_tuple (I.ok.hd hc) ht (by simp [hn, ← hl, rv.length]) hst fun h' hx => ?_
  have I1 : Inv X pins σ H { s with heap := h' } := I.kept (t' := s.toks) fun b o e => hx b o (Nat.ne_of_lt (Heap.lt_size e)) e
  exact h pins _ σ H xs _ Q I1 (by simpa using rv) hw
def gSub (to ti : TE) (t : TSet) : TG := fun v σ H Q => to σ H fun o H1 => ti σ H1 fun i H2 => t o i v H2 fun H3 => Q σ H3
def tAsg (te : TE) (g : TG) : TS := fun D σ H => te σ H fun x H1 => g x σ H1 D.nx
theorem ps_set {i : Nat} {x : Str} {e : Expr} {te : TE} {pos' : Pos} (hN : X.N.Nodup) (hi : X.N[i]? = some x) (hx : Loc X.env.scope x) (he : PE X e te) (hs : swapsWith e (some (.Name x pos')) pos.line X.env = pure false := by rfl) (hf : X.fn x = true ∨ X.env.scope.names.lookup x = some .local := by first | exact .inl rfl | exact .inr rfl | assumption) :
    PS X (.Assign [.Name x pos'] e pos) (tAsg te (gName i)) := by
  intro pins s σ H D I h
  refine wpAny_Assign_Name (thn (he pins s σ H _ I h) fun v s1 ⟨y, H1, I1, r1, q1⟩ => ?_) hs
  exact store_ok I1 hN hi hx r1 (fun s2 I2 => ⟨_, H1, I2, q1⟩) hf
def tPar (i j : Nat) (ta : TA) : TS := fun D σ H => ta σ H fun vs H1 => ∃ v w, vs = [v, w] ∧ D.nx ((σ.set i (some v)).set j (some w)) H1
def tAug (i : Nat) (te : TE) (ti : TIp) : TS := fun D σ H => ∃ x, σ[i]? = some (some x) ∧ te σ H fun y H1 => ti x y H1 fun z H2 => D.nx (σ.set i (some z)) H2
def tAugS (to ti te : TE) (tget : V → V → Hp → VK → Prop) (tip : TIp) (tset : TSet) : TS := fun D σ H => to σ H fun o H1 => ti σ H1 fun i H2 => tget o i H2 fun x H3 => te σ H3 fun y H4 => tip x y H4 fun z H5 => tset o i z H5 fun H6 => D.nx σ H6
def PGet (X : Cx) (t : V → V → Hp → VK → Prop) : Prop :=
  ∀ (pins : List (Addr × Obj)) (s : Shared) (σ : St) (H : Hp) (o i : V) (ov iv : Value) (Q : VK), Inv X pins σ H s → RelV o ov → RelV i iv → t o i H Q →
    wpAny (model X.prog X.w) X.A (getItem ov iv) (EP X pins σ Q) X.xe s
def ipI (f : Int → Int → Int) : TIp := fun x y H Q => ∃ i j, x = .int i ∧ y = .int j ∧ Q (.int (f i j)) H
end
section
variable {X : Cx} {pos : Pos}
def tWhile (c : TT) (tb : TS) : TS := fun D σ H => ∃ W : Nat → St → Hp → Prop, (∃ m, W m σ H) ∧ ∀ m σ H, W m σ H →
  c σ H fun b H1 => if b = true then ∃ N : St → Hp → Prop, (∀ σ' H', N σ' H' → ∃ m', m' < m ∧ W m' σ' H') ∧ tb { D with nx := N, ct := N, bk := D.nx } σ H1 else D.nx σ H1
end
structure It where
  go : Nat → Hp → Prop
  yld : Nat → Hp → V → Hp → Prop
  stop : Nat → Hp → Prop
def FpOk (X : Cx) (pins : List (Addr × Obj)) (H : Hp) (b : Addr) : Prop :=
  H b = none ∧ b ≠ X.env.locals ∧ b ∉ X.fs ∧ (b ∈ X.ex ∨ X.s₀.heap.objs.size ≤ b) ∧ (∀ x c, X.env.cells.lookup x = some c → c ≠ b) ∧ ∀ p ∈ X.pn ++ pins, p.1 ≠ b
theorem Inv.fpOk {X : Cx} {pins : List (Addr × Obj)} {σ : St} {H H' : Hp} {s : Shared} {b : Addr} (I : Inv X pins σ H s) (hb : s.heap.objs.size ≤ b) (hn : H' b = none) : FpOk X pins H' b := by
  refine ⟨hn, Nat.ne_of_gt (Nat.lt_of_lt_of_le I.lt hb), I.nofs hb, .inr (Nat.le_trans I.sz hb), fun x c e z => ?_, fun p hp z => ?_⟩
  · obtain ⟨v, q⟩ := I.cell x c e
    exact absurd (Nat.lt_of_lt_of_le q.lt (by rw [z]; exact hb)) (Nat.lt_irrefl _)
  · exact absurd (Nat.lt_of_lt_of_le (Heap.lt_size (I.pin p hp).1) (by rw [z]; exact hb)) (Nat.lt_irrefl _)
structure Turn (P : Program) (w : World) (K : PySem.W.Frag) (tg : Expr) (J : It) (fp : List Addr) (it : Addr) (tn : Nat → Heap → Prop) : Prop where
  mem : it ∈ fp
  obj : ∀ i h, tn i h → ∀ b ∈ fp, ∃ o, h.get? b = some o ∧ ∀ v, o.data ≠ .cell v
  keep : ∀ i h h', tn i h → (∀ b ∈ fp, ∀ o, h.get? b = some o → h'.get? b = some o) → tn i h'
  item : ∀ (X : Cx), X.prog = P → X.w = w → X.K = K → X.calm = true → ∀ (i : Nat) (pins : List (Addr × Obj)) (s : Shared) (σ : St) (H : Hp) (E : Value → Shared → Prop), Inv X pins σ H s → (∀ b ∈ fp, FpOk X pins H b) → tn i s.heap → J.go i H →
    wpAny (model P w) X.A (pyNext (.ref it)) (fun r s1 => ∃ u, r = some u ∧
      wpAny (model P w) X.A (letOwnedTupleGo tg (.ref it) u) (fun _ s2 => ∃ x H', Inv X pins σ H' s2 ∧ RelV x u ∧ J.yld i H x H' ∧ tn (i + 1) s2.heap ∧ ∀ b ∈ fp, H' b = none) E s1) E s
  done : ∀ (X : Cx), X.prog = P → X.w = w → X.K = K → X.calm = true → ∀ (i : Nat) (pins : List (Addr × Obj)) (s : Shared) (σ : St) (H : Hp) (E : Value → Shared → Prop), Inv X pins σ H s → (∀ b ∈ fp, FpOk X pins H b) → tn i s.heap → J.stop i H →
    wpAny (model P w) X.A (pyNext (.ref it)) (fun r s1 => r = none ∧ Inv X pins σ H s1) E s
  self : ∀ (A : Around) (i : Nat) (s : Shared) (Q : Value → Shared → Prop) (E : Value → Shared → Prop), tn i s.heap → Q (.ref it) s → wpAny (model P w) A (pyIter (.ref it)) Q E s
abbrev TI := St → Hp → (It → Hp → Prop) → Prop
def PIE (X : Cx) (pins : List (Addr × Obj)) (σ : St) (tg : Expr) (R : It → Hp → Prop) (itv : Value) (s2 : Shared) : Prop :=
  ∃ (it : Addr) (fp : List Addr) (tn : Nat → Heap → Prop) (J : It) (H' : Hp), itv = .ref it ∧ Inv X pins σ H' s2 ∧ Turn X.prog X.w X.K tg J fp it tn ∧ tn 0 s2.heap ∧ (∀ b ∈ fp, FpOk X pins H' b) ∧ R J H'
def PI (X : Cx) (tg iter : Expr) (wi : TI) : Prop :=
  ∀ (pins : List (Addr × Obj)) (s : Shared) (σ : St) (H : Hp) (R : It → Hp → Prop), Inv X pins σ H s → wi σ H R →
    wpAny (model X.prog X.w) X.A (eval iter X.env) (fun v s1 => wpAny (model X.prog X.w) X.A (pyIter v) (PIE X pins σ tg R) X.xe s1) X.xe s
theorem go_of {M : Model} {A : Around} {E : Value → Shared → Prop} {s : Shared} {tg : Expr} {it : Addr} {u : Value} {o : Obj} {n : String} {vs : Array Value} {Q : Unit → Shared → Prop} (ho : s.heap.get? it = some o) (hc : o.cls = .type n) (hd : o.data = .fields vs)
    (hn : ["enumerate", "zip", "dict_itemiterator", "dict_reverseitemiterator", "odict_iterator", "itertools.zip_longest", "itertools.pairwise"].contains n = false) (hQ : Q () s) : wpAny M A (letOwnedTupleGo tg (.ref it) u) Q E s := by
  unfold letOwnedTupleGo
  cases tg <;> first
    | exact wpAny_pure hQ
    | (cases u <;> first
        | exact wpAny_pure hQ
        | (refine wpAny_bind (wpAny_load ho ?_)
           rw [hc, hd]
           show wpAny M A (if (["enumerate", "zip", "dict_itemiterator", "dict_reverseitemiterator", "odict_iterator", "itertools.zip_longest", "itertools.pairwise"].contains n && vs[0]? == some (rawInt _)) = true then _ else _) Q E s
           rw [if_neg (by intro h; rw [hn, Bool.false_and] at h; cases h)]
           exact wpAny_pure hQ))
def Itl (K : PySem.W.Frag) (a : Addr) : It :=
  ⟨fun i H => ∃ xs x, SqL K H a xs ∧ xs[i]? = some x, fun i H x H' => H' = H ∧ ∀ xs, SqL K H a xs → xs[i]? = some x, fun i H => ∃ xs, SqL K H a xs ∧ xs.length ≤ i⟩
def Itt (K : PySem.W.Frag) (a : Addr) : It :=
  ⟨fun i H => ∃ xs x, SqT K H a xs ∧ xs[i]? = some x, fun i H x H' => H' = H ∧ ∀ xs, SqT K H a xs → xs[i]? = some x, fun i H => ∃ xs, SqT K H a xs ∧ xs.length ≤ i⟩
def Itr (lo : Int) (n : Nat) : It := ⟨fun i _ => i < n, fun i H x H' => H' = H ∧ x = .int (lo + i), fun i _ => n ≤ i⟩
theorem turn_list {P : Program} {w : World} {K : PySem.W.Frag} {tg : Expr} (a it : Addr) : Turn P w K tg (Itl K a) [it] it (fun i h => h.IsListIter it a i) where
  mem := by simp
  obj := fun i h st b hb => by
    have e : b = it := by simpa using hb
    subst e
    obtain ⟨o, e, c, d⟩ := st
    exact ⟨o, e, fun v z => by rw [d] at z; cases z⟩
  keep := fun i h h' st k => st.at fun o e => k it (by simp) o e
  item := by
    intro X hP hw hK hc i pins s σ H E I hf st hg
    subst hP hw hK
    obtain ⟨xs, x, hq, hx⟩ := hg
    obtain ⟨its, rv, p, hz⟩ := I.list hq
    obtain ⟨u, hu, ru⟩ := rv.get hx
    obtain ⟨f0, f1, f2, f3, f4, f5⟩ := hf it (by simp)
    refine wpAny_pyNext_list_item st p.isList (x := u) (by simpa using hu) fun h' st' sb => ?_
    have I1 : Inv X pins σ H { s with heap := h' } := I.turned (t' := s.toks) (fun b o hb e => (sb.2 b hb).trans e) f0 f1 f3 f4 f5
    obtain ⟨o, e, c, d⟩ := id st'
    exact ⟨u, rfl, go_of (s := { s with heap := h' }) e c d (by decide) ⟨x, H, I1, ru, ⟨rfl, fun ys hy => by rw [I.list_inj hy hq]; exact hx⟩, st', fun b hb => (hf b hb).1⟩⟩
  done := by
    intro X hP hw hK hc i pins s σ H E I hf st hg
    subst hP hw hK
    obtain ⟨xs, hq, hx⟩ := hg
    obtain ⟨its, rv, p, hz⟩ := I.list hq
    obtain ⟨f0, f1, f2, f3, f4, f5⟩ := hf it (by simp)
    have hl := rv.length
    exact wpAny_pyNext_list_end (I.ok.hd hc) st p.isList (by simp; (first | lia | omega)) fun h' eb => ⟨rfl, I.turned (t' := s.toks) (fun b o hb e => eb b o hb e) f0 f1 f3 f4 f5⟩
  self := fun _ _ _ _ _ st h => wpAny_pyIter_listiter st h
theorem turn_tuple {P : Program} {w : World} {K : PySem.W.Frag} {tg : Expr} (a it : Addr) : Turn P w K tg (Itt K a) [it] it (fun i h => h.IsTupleIter it a i) where
  mem := by simp
  obj := fun i h st b hb => by
    have e : b = it := by simpa using hb
    subst e
    obtain ⟨o, e, c, d⟩ := st
    exact ⟨o, e, fun v z => by rw [d] at z; cases z⟩
  keep := fun i h h' st k => st.at fun o e => k it (by simp) o e
  item := by
    intro X hP hw hK hc i pins s σ H E I hf st hg
    subst hP hw hK
    obtain ⟨xs, x, hq, hx⟩ := hg
    obtain ⟨its, rv, p, hz⟩ := I.tuple hq
    obtain ⟨u, hu, ru⟩ := rv.get hx
    obtain ⟨f0, f1, f2, f3, f4, f5⟩ := hf it (by simp)
    refine wpAny_pyNext_tuple_item st (show s.heap.IsTuple a its.toArray from p) (x := u) (by simpa using hu) fun h' st' sb => ?_
    have I1 : Inv X pins σ H { s with heap := h' } := I.turned (t' := s.toks) (fun b o hb e => (sb.2 b hb).trans e) f0 f1 f3 f4 f5
    obtain ⟨o, e, c, d⟩ := id st'
    exact ⟨u, rfl, go_of (s := { s with heap := h' }) e c d (by decide) ⟨x, H, I1, ru, ⟨rfl, fun ys hy => by rw [I.tuple_inj hy hq]; exact hx⟩, st', fun b hb => (hf b hb).1⟩⟩
  done := by
    intro X hP hw hK hc i pins s σ H E I hf st hg
    subst hP hw hK
    obtain ⟨xs, hq, hx⟩ := hg
    obtain ⟨its, rv, p, hz⟩ := I.tuple hq
    obtain ⟨f0, f1, f2, f3, f4, f5⟩ := hf it (by simp)
    have hl := rv.length
    exact wpAny_pyNext_tuple_end (I.ok.hd hc) st (show s.heap.IsTuple a its.toArray from p) (by simp; (first | lia | omega)) fun h' eb => ⟨rfl, I.turned (t' := s.toks) (fun b o hb e => eb b o hb e) f0 f1 f3 f4 f5⟩
  self := fun _ _ _ _ _ st h => wpAny_pyIter_tupleiter st h
theorem turn_range {P : Program} {w : World} {K : PySem.W.Frag} {tg : Expr} (it : Addr) (lo : Int) (n : Nat) : Turn P w K tg (Itr lo n) [it] it (fun i h => IsRangeIter h it (lo + (i : Nat) * 1) ((n : Int) - (i : Nat)) 1) where
  mem := by simp
  obj := fun i h st b hb => by
    have e : b = it := by simpa using hb
    subst e
    exact ⟨_, st, fun v z => by
      have z' : Data.fields _ = Data.cell v := z
      cases z'⟩
  keep := fun i h h' st k => k it (by simp) _ st
  item := by
    intro X hP hw hK hc i pins s σ H E I hf st hg
    subst hP hw hK
    obtain ⟨f0, f1, f2, f3, f4, f5⟩ := hf it (by simp)
    have W := Walks.range (prog := X.prog) (w := X.w) (I.ok.hd hc) it lo 1 n
    refine W.item i s _ _ hg st fun v h' tk hv st' kk => ?_
    obtain ⟨t, rfl⟩ := hv
    have I1 : Inv X pins σ H { s with heap := h', toks := tk } := I.turned (fun b o hb e => kk b o (by simpa using hb) e) f0 f1 f3 f4 f5
    refine ⟨_, rfl, go_of (s := { s with heap := h', toks := tk }) (n := "range_iterator") st' rfl rfl (by decide) ⟨.int (lo + i), H, I1, ⟨t, ?_⟩, ⟨rfl, rfl⟩, st', fun b hb => (hf b hb).1⟩⟩
    rw [Int.mul_one]
  done := by
    intro X hP hw hK hc i pins s σ H E I hf st hg
    subst hP hw hK
    obtain ⟨f0, f1, f2, f3, f4, f5⟩ := hf it (by simp)
    exact wpAny_pyNext_range_end (I.ok.hd hc) st (by have : n ≤ i := hg; (first | lia | omega)) fun h' eb => ⟨rfl, I.turned (t' := s.toks) (fun b o hb e => eb b o hb e) f0 f1 f3 f4 f5⟩
  self := fun _ _ _ _ _ st h => wpAny_pyIter_rangeiter st h
end L2
namespace L2
open PySem PySem.Spec PyProof.Rows
section
variable {X : Cx} {tg : Expr}
def iList (K : PySem.W.Frag) (tl : TE) : TI := fun σ H R => tl σ H fun x H1 => ∃ a, x = .ref a ∧ (∃ xs, SqL K H1 a xs) ∧ R (Itl K a) H1
def iTup (K : PySem.W.Frag) (tl : TE) : TI := fun σ H R => tl σ H fun x H1 => ∃ a, x = .ref a ∧ (∃ xs, SqT K H1 a xs) ∧ R (Itt K a) H1
theorem pi_list {l : Expr} {tl : TE} (hl : PE X l tl) : PI X tg l (iList X.K tl) := by
  intro pins s σ H R I h
  refine thn (hl pins s σ H _ I h) fun v s1 ⟨x, H1, I1, r1, q1⟩ => ?_
  obtain ⟨a, e, ⟨xs, hq⟩, q⟩ := q1
  subst e
  cases r1
  obtain ⟨its, rv, p, hz⟩ := I1.list hq
  refine wpAny_pyIter_list p.isList ?_
  refine ⟨s1.heap.objs.size, [s1.heap.objs.size], _, _, H1, rfl, I1.kept (t' := s1.toks) fun b o e => Heap.get?_push_of_some _ e, turn_list a _, ⟨_, Heap.get?_push_size _ rfl, rfl, rfl⟩, fun b hb => ?_, q⟩
  have e : b = s1.heap.objs.size := by simpa using hb
  subst e
  exact I1.fpOk (Nat.le_refl _) (I1.hok.fresh (Nat.le_refl _))
theorem pi_tup {l : Expr} {tl : TE} (hl : PE X l tl) : PI X tg l (iTup X.K tl) := by
  intro pins s σ H R I h
  refine thn (hl pins s σ H _ I h) fun v s1 ⟨x, H1, I1, r1, q1⟩ => ?_
  obtain ⟨a, e, ⟨xs, hq⟩, q⟩ := q1
  subst e
  cases r1
  obtain ⟨its, rv, p, hz⟩ := I1.tuple hq
  refine wpAny_pyIter_tuple (show s1.heap.IsTuple a its.toArray from p) ?_
  refine ⟨s1.heap.objs.size, [s1.heap.objs.size], _, _, H1, rfl, I1.kept (t' := s1.toks) fun b o e => Heap.get?_push_of_some _ e, turn_tuple a _, ⟨_, Heap.get?_push_size _ rfl, rfl, rfl⟩, fun b hb => ?_, q⟩
  have e : b = s1.heap.objs.size := by simpa using hb
  subst e
  exact I1.fpOk (Nat.le_refl _) (I1.hok.fresh (Nat.le_refl _))
theorem range_it {pins : List (Addr × Obj)} {σ : St} {H : Hp} {s : Shared} {R : It → Hp → Prop} {E : Value → Shared → Prop} {lo hi : Int} {t u v : Tok} {tk : Nat} (I : Inv X pins σ H s) (h1 : -(2 ^ 62) ≤ lo) (h2 : lo < 2 ^ 62) (h3 : -(2 ^ 62) ≤ hi) (h4 : hi < 2 ^ 62)
    (q : R (Itr lo (hi - lo).toNat) H) : wpAny (model X.prog X.w) X.A (pyIter (.ref s.heap.objs.size)) (PIE X pins σ tg R) E { s with heap := s.heap.push { cls := .type "range", data := .fields #[.int lo t, .int hi u, .int 1 v] }, toks := tk } := by
  refine wpAny_pyIter_range (IsRange.new ..) (small_one h1 h2 h3 h4) ?_
  have I1 : Inv X pins σ H { s with heap := s.heap.push { cls := .type "range", data := .fields #[.int lo t, .int hi u, .int 1 v] }, toks := tk } := I.kept fun b o e => Heap.get?_push_of_some _ e
  refine ⟨(s.heap.push { cls := .type "range", data := .fields #[.int lo t, .int hi u, .int 1 v] }).objs.size, [(s.heap.push { cls := .type "range", data := .fields #[.int lo t, .int hi u, .int 1 v] }).objs.size], _, _, H, rfl,
    I1.kept (t' := tk) fun b o e => Heap.get?_push_of_some _ e, turn_range _ lo (hi - lo).toNat, ?_, fun b hb => ?_, q⟩
  · have e1 : lo + ((0 : Nat) : Int) * 1 = lo := by simp
    have e2 : (((hi - lo).toNat : Nat) : Int) - ((0 : Nat) : Int) = Builtin.Range.rangeSize lo hi 1 := by rw [rangeSize_one]; split <;> (first | lia | omega)
    show IsRangeIter _ _ (lo + ((0 : Nat) : Int) * 1) ((((hi - lo).toNat : Nat) : Int) - ((0 : Nat) : Int)) 1
    rw [e1, e2]
    exact Heap.get?_push_size _ rfl
  · have e : b = (s.heap.push { cls := .type "range", data := .fields #[.int lo t, .int hi u, .int 1 v] }).objs.size := by simpa using hb
    subst e
    exact I1.fpOk (Nat.le_refl _) (I1.hok.fresh (Nat.le_refl _))
def iRng1 (ta : TA) : TI := fun σ H R => ta σ H fun vs H1 => ∃ j : Int, vs = [.int j] ∧ -(2 ^ 62) ≤ j ∧ j < 2 ^ 62 ∧ R (Itr 0 j.toNat) H1
def iRng2 (ta : TA) : TI := fun σ H R => ta σ H fun vs H1 => ∃ i j : Int, vs = [.int i, .int j] ∧ (-(2 ^ 62) ≤ i ∧ i < 2 ^ 62 ∧ -(2 ^ 62) ≤ j ∧ j < 2 ^ 62) ∧ R (Itr i (j - i).toNat) H1
theorem pi_range1 {a : Expr} {ta : TA} {p pos : Pos} (hg : Gl X "range") (hm : X.mg "range" = none) (ha : PA X [a] ta) (hs : starEach [a] X.env = [(false, eval a X.env)] := by rfl) : PI X tg (.Call (.Name "range" p) [a] [] pos) (iRng1 ta) := by
  intro pins s σ H R I h
  refine Call_ (ld_blt I hg hm boot_range (PyProof.Rows.callWith_type1 (thn (ha pos pins s σ H _ I h) fun us s1 ⟨vs, H1, I1, r1, q1⟩ => ?_) hs rfl))
  obtain ⟨j, e, q1, q2, q⟩ := q1
  subst e
  cases r1 with
  | cons r rr =>
    cases rr
    obtain ⟨t, rfl⟩ := r
    exact call_range_1 (range_it I1 (by (first | lia | omega)) (by (first | lia | omega)) q1 q2 (by simpa using q))
theorem pi_range2 {a b : Expr} {ta : TA} {p pos : Pos} (hg : Gl X "range") (hm : X.mg "range" = none) (ha : PA X [a, b] ta) (hs : starEach [a, b] X.env = [(false, eval a X.env), (false, eval b X.env)] := by rfl) (hs2 : starEach [b] X.env = [(false, eval b X.env)] := by rfl) :
    PI X tg (.Call (.Name "range" p) [a, b] [] pos) (iRng2 ta) := by
  intro pins s σ H R I h
  refine Call_ (ld_blt I hg hm boot_range (PyProof.Rows.callWith_type1 (thn (ha pos pins s σ H _ I h) fun us s1 ⟨vs, H1, I1, r1, q1⟩ => ?_) (by rw [hs, hs2]) (by rw [hs2]; rfl)))
  obtain ⟨i, j, e, ⟨q1, q2, q3, q4⟩, q⟩ := q1
  subst e
  cases r1 with
  | cons r rr =>
    cases rr with
    | cons r' rr =>
      cases rr
      obtain ⟨t, rfl⟩ := r
      obtain ⟨t', rfl⟩ := r'
      exact call_range_2 (range_it I1 q1 q2 q3 q4 q)
def tFor (wi : TI) (g : TG) (tb : TS) : TS := fun D σ H => wi σ H fun J H1 => ∃ W : Nat → Nat → St → Hp → Prop, (∃ m, W 0 m σ H1) ∧ ∀ i m σ H, W i m σ H →
  (J.stop i H ∧ D.nx σ H) ∨ (J.go i H ∧ ∃ N : St → Hp → Prop, (∀ σ' H', N σ' H' → ∃ m', m' < m ∧ W (i + 1) m' σ' H') ∧ ∀ x H', J.yld i H x H' → g x σ H' fun σ2 H2 => tb { D with nx := N, ct := N, bk := D.nx } σ2 H2)
def pinsAt (fp : List Addr) (h : Heap) : List (Addr × Obj) := fp.filterMap fun b => (h.get? b).map fun o => (b, o)
theorem mem_pinsAt {fp : List Addr} {h : Heap} {b : Addr} {o : Obj} (hb : b ∈ fp) (e : h.get? b = some o) : (b, o) ∈ pinsAt fp h := List.mem_filterMap.mpr ⟨b, hb, by rw [e]; rfl⟩
theorem of_pinsAt {fp : List Addr} {h : Heap} {p : Addr × Obj} (hp : p ∈ pinsAt fp h) : p.1 ∈ fp ∧ h.get? p.1 = some p.2 := by
  obtain ⟨b, hb, e⟩ := List.mem_filterMap.mp hp
  cases q : h.get? b with
  | none => rw [q] at e; cases e
  | some o =>
    rw [q] at e
    have e' : (b, o) = p := Option.some.inj e
    subst e'
    exact ⟨hb, q⟩
theorem Inv.pinned {pins : List (Addr × Obj)} {σ : St} {H : Hp} {s : Shared} {fp : List Addr} (I : Inv X pins σ H s) (hf : ∀ b ∈ fp, FpOk X pins H b) (ho : ∀ b ∈ fp, ∃ o, s.heap.get? b = some o ∧ ∀ v, o.data ≠ .cell v) : Inv X (pins ++ pinsAt fp s.heap) σ H s :=
  I.pins_of fun p hp => (List.mem_append.mp hp).elim (fun z => I.pin p (List.mem_append_right _ z)) fun z => by
    obtain ⟨hb, e⟩ := of_pinsAt z
    obtain ⟨f0, f1, f2, _⟩ := hf p.1 hb
    obtain ⟨o, e', d⟩ := ho p.1 hb
    rw [e] at e'; cases e'
    exact ⟨e, f0, f1, f2, d⟩
theorem Inv.unpinned {pins pl : List (Addr × Obj)} {σ : St} {H : Hp} {s : Shared} (I : Inv X (pins ++ pl) σ H s) : Inv X pins σ H s := I.pins_of fun p hp => I.pin p (List.mem_append_right _ (List.mem_append_left _ hp))
theorem ps_for {iter : Expr} {body : List Stmt} {wi : TI} {g : TG} {tb : TS} {pos : Pos} (hp : PassesOwn (model X.prog X.w) X.A X.env X.xe) (hc : X.calm = true) (hi : PI X tg iter wi) (hg : PG X tg g) (hb : PSs X body tb)
    (hs : ∀ x, foldedSetIterable iter X.env x = pure x := by intro _; rfl) : PS X (.For tg iter body [] pos) (tFor wi g tb) := by
  intro pins s σ H D I h
  refine wpAny_For (thn (hi pins s σ H _ I h) fun v s1 h1 => thn h1 fun itv s2 h2 => ?_) hs
  obtain ⟨it, fp, tn, J, H2, e, I2, T, st2, f2, W, ⟨m0, w0⟩, turn⟩ := h2
  subst e
  have stat : ∀ {H' : Hp}, (∀ b ∈ fp, H' b = none) → ∀ b ∈ fp, FpOk X pins H' b := fun hn b hb => ⟨hn b hb, (f2 b hb).2⟩
  refine codeAny_forLoop_any (fun n s' => ∃ i σ' H', Inv X pins σ' H' s' ∧ tn i s'.heap ∧ (∀ b ∈ fp, H' b = none) ∧ W i n σ' H') ?_ m0 ⟨0, σ, H2, I2, st2, fun b hb => (f2 b hb).1, w0⟩
  rintro n s3 ⟨i, σ3, H3, I3, st3, fr3, w3⟩
  rcases turn i n σ3 H3 w3 with ⟨stop, qn⟩ | ⟨go, N, hN, step⟩
  · refine wpAny_passesOwn hp (thn (T.done X rfl rfl rfl hc i pins s3 σ3 H3 X.xe I3 (stat fr3) st3 stop) fun r s4 ⟨hr, I4⟩ => ?_)
    subst hr
    exact wpAny_execs_nil ⟨σ3, H3, I4, qn⟩
  · refine wpAny_passesOwn hp (thn (T.item X rfl rfl rfl hc i pins s3 σ3 H3 X.xe I3 (stat fr3) st3 go) fun r s4 ⟨u, hr, h4⟩ => ?_)
    subst hr
    refine wpAny_passesOwn hp (thn h4 fun _ s5 ⟨x, H5, I5, r5, y5, st5, fr5⟩ => ?_)
    have I5' := I5.pinned (stat fr5) (T.obj _ _ st5)
    refine wpAny_passesOwn hp (thn (hg _ s5 σ3 H5 x u _ I5' r5 (step x H5 y5)) fun _ s6 ⟨σ6, H6, I6, q6⟩ => ?_)
    refine wpAny_passesOwn hp (thn (hb _ s6 σ6 H6 _ I6 q6) fun f s7 q7 => ?_)
    have again : ∀ {σ7 : St} {H7 : Hp}, Inv X (pins ++ pinsAt fp s5.heap) σ7 H7 s7 → N σ7 H7 → ∃ m, m < n ∧ ∃ i σ' H', Inv X pins σ' H' s7 ∧ tn i s7.heap ∧ (∀ b ∈ fp, H' b = none) ∧ W i m σ' H' := fun {σ7 H7} I7 n7 => by
      obtain ⟨m', hm, w7⟩ := hN σ7 H7 n7
      refine ⟨m', hm, i + 1, σ7, H7, I7.unpinned, T.keep _ _ _ st5 fun b hb o e => (I7.pin (b, o) (List.mem_append_right _ (List.mem_append_right _ (mem_pinsAt hb e)))).1, fun b hb => ?_, w7⟩
      obtain ⟨o, e, d⟩ := T.obj _ _ st5 b hb
      exact (I7.pin (b, o) (List.mem_append_right _ (List.mem_append_right _ (mem_pinsAt hb e)))).2.1
    cases f with
    | next => obtain ⟨σ7, H7, I7, n7⟩ := q7; exact again I7 n7
    | cont => obtain ⟨σ7, H7, I7, n7⟩ := q7; exact again I7 n7
    | brk => obtain ⟨σ7, H7, I7, q7⟩ := q7; exact ⟨σ7, H7, I7.unpinned, q7⟩
    | ret v => obtain ⟨x7, σ7, H7, I7, r7, q7⟩ := q7; exact ⟨x7, σ7, H7, I7.unpinned, r7, q7⟩
end
theorem for_list {K : PySem.W.Frag} {a : Addr} {xs : List V} {g : TG} {tb : TS} {D : Ends} {σ : St} {H : Hp} (Pv : Nat → St → Hp → Prop) (h0 : Pv 0 σ H) (hl : ∀ i σ H, i ≤ xs.length → Pv i σ H → SqL K H a xs)
    (hs : ∀ i x σ H, xs[i]? = some x → Pv i σ H → g x σ H fun σ2 H2 => tb { D with nx := Pv (i + 1), ct := Pv (i + 1), bk := D.nx } σ2 H2) (hd : ∀ σ H, Pv xs.length σ H → D.nx σ H) :
    ∃ W : Nat → Nat → St → Hp → Prop, (∃ m, W 0 m σ H) ∧ ∀ i m σ H, W i m σ H →
      ((Itl K a).stop i H ∧ D.nx σ H) ∨ ((Itl K a).go i H ∧ ∃ N : St → Hp → Prop, (∀ σ' H', N σ' H' → ∃ m', m' < m ∧ W (i + 1) m' σ' H') ∧ ∀ x H', (Itl K a).yld i H x H' → g x σ H' fun σ2 H2 => tb { D with nx := N, ct := N, bk := D.nx } σ2 H2) := by
  refine ⟨fun i m σ H => m = xs.length - i ∧ i ≤ xs.length ∧ Pv i σ H, ⟨xs.length, by simp, Nat.zero_le _, h0⟩, ?_⟩
  rintro i m σ H ⟨rfl, hi, p⟩
  have q := hl i σ H hi p
  by_cases hlt : i < xs.length
  · refine .inr ⟨⟨xs, xs[i], q, by simp [hlt]⟩, Pv (i + 1), fun σ' H' p' => ⟨xs.length - (i + 1), by (first | lia | omega), rfl, hlt, p'⟩, fun x H' y => ?_⟩
    obtain ⟨e, y⟩ := y
    subst e
    exact hs i x σ _ (y xs q) p
  · have e : i = xs.length := by (first | lia | omega)
    subst e
    exact .inl ⟨⟨xs, q, Nat.le_refl _⟩, hd σ H p⟩
theorem for_tup {K : PySem.W.Frag} {a : Addr} {xs : List V} {g : TG} {tb : TS} {D : Ends} {σ : St} {H : Hp} (Pv : Nat → St → Hp → Prop) (h0 : Pv 0 σ H) (hl : ∀ i σ H, i ≤ xs.length → Pv i σ H → SqT K H a xs)
    (hs : ∀ i x σ H, xs[i]? = some x → Pv i σ H → g x σ H fun σ2 H2 => tb { D with nx := Pv (i + 1), ct := Pv (i + 1), bk := D.nx } σ2 H2) (hd : ∀ σ H, Pv xs.length σ H → D.nx σ H) :
    ∃ W : Nat → Nat → St → Hp → Prop, (∃ m, W 0 m σ H) ∧ ∀ i m σ H, W i m σ H →
      ((Itt K a).stop i H ∧ D.nx σ H) ∨ ((Itt K a).go i H ∧ ∃ N : St → Hp → Prop, (∀ σ' H', N σ' H' → ∃ m', m' < m ∧ W (i + 1) m' σ' H') ∧ ∀ x H', (Itt K a).yld i H x H' → g x σ H' fun σ2 H2 => tb { D with nx := N, ct := N, bk := D.nx } σ2 H2) := by
  refine ⟨fun i m σ H => m = xs.length - i ∧ i ≤ xs.length ∧ Pv i σ H, ⟨xs.length, by simp, Nat.zero_le _, h0⟩, ?_⟩
  rintro i m σ H ⟨rfl, hi, p⟩
  have q := hl i σ H hi p
  by_cases hlt : i < xs.length
  · refine .inr ⟨⟨xs, xs[i], q, by simp [hlt]⟩, Pv (i + 1), fun σ' H' p' => ⟨xs.length - (i + 1), by (first | lia | omega), rfl, hlt, p'⟩, fun x H' y => ?_⟩
    obtain ⟨e, y⟩ := y
    subst e
    exact hs i x σ _ (y xs q) p
  · have e : i = xs.length := by (first | lia | omega)
    subst e
    exact .inl ⟨⟨xs, q, Nat.le_refl _⟩, hd σ H p⟩
theorem for_range {lo : Int} {n : Nat} {g : TG} {tb : TS} {D : Ends} {σ : St} {H : Hp} (Pv : Nat → St → Hp → Prop) (h0 : Pv 0 σ H)
    (hs : ∀ i σ H, i < n → Pv i σ H → g (.int (lo + i)) σ H fun σ2 H2 => tb { D with nx := Pv (i + 1), ct := Pv (i + 1), bk := D.nx } σ2 H2) (hd : ∀ σ H, Pv n σ H → D.nx σ H) :
    ∃ W : Nat → Nat → St → Hp → Prop, (∃ m, W 0 m σ H) ∧ ∀ i m σ H, W i m σ H →
      ((Itr lo n).stop i H ∧ D.nx σ H) ∨ ((Itr lo n).go i H ∧ ∃ N : St → Hp → Prop, (∀ σ' H', N σ' H' → ∃ m', m' < m ∧ W (i + 1) m' σ' H') ∧ ∀ x H', (Itr lo n).yld i H x H' → g x σ H' fun σ2 H2 => tb { D with nx := N, ct := N, bk := D.nx } σ2 H2) := by
  refine ⟨fun i m σ H => m = n - i ∧ i ≤ n ∧ Pv i σ H, ⟨n, by simp, Nat.zero_le _, h0⟩, ?_⟩
  rintro i m σ H ⟨rfl, hi, p⟩
  by_cases hlt : i < n
  · refine .inr ⟨hlt, Pv (i + 1), fun σ' H' p' => ⟨n - (i + 1), by (first | lia | omega), rfl, hlt, p'⟩, fun x H' y => ?_⟩
    obtain ⟨e, y⟩ := y
    subst e y
    exact hs i σ _ hlt p
  · have e : i = n := by (first | lia | omega)
    subst e
    exact .inl ⟨Nat.le_refl _, hd σ H p⟩
end L2
namespace L2
open PySem PySem.Spec PyProof.Rows
abbrev R2 := V → V → Hp → VK → Prop
def OpR (X : Cx) (f : Value → Value → Sem Value) (r : R2) : Prop :=
  ∀ (pins : List (Addr × Obj)) (s : Shared) (σ : St) (H : Hp) (x y : V) (v u : Value) (Q : VK), Inv X pins σ H s → RelV x v → RelV y u → r x y H Q →
    wpAny (model X.prog X.w) X.A (f v u) (EP X pins σ Q) X.xe s
def UnR (X : Cx) (f : Value → Sem Value) (r : V → Hp → VK → Prop) : Prop :=
  ∀ (pins : List (Addr × Obj)) (s : Shared) (σ : St) (H : Hp) (x : V) (v : Value) (Q : VK), Inv X pins σ H s → RelV x v → r x H Q →
    wpAny (model X.prog X.w) X.A (f v) (EP X pins σ Q) X.xe s
def CallR (X : Cx) (f : Value) (r : List V → Hp → VK → Prop) : Prop :=
  ∀ (pins : List (Addr × Obj)) (s : Shared) (σ : St) (H : Hp) (xs : List V) (us : List Value) (Q : VK), Inv X pins σ H s → Vals xs us → r xs H Q →
    wpAny (model X.prog X.w) X.A (call f us) (EP X pins σ Q) X.xe s
def TruR (X : Cx) (r : V → Hp → (Bool → Hp → Prop) → Prop) : Prop :=
  ∀ (pins : List (Addr × Obj)) (s : Shared) (σ : St) (H : Hp) (x : V) (v : Value) (Q : Bool → Hp → Prop), Inv X pins σ H s → RelV x v → r x H Q →
    wpAny (model X.prog X.w) X.A (truthy v) (TP X pins σ Q) X.xe s
def tOp (r : R2) (ta tb : TE) : TE := fun σ H Q => ta σ H fun x H1 => tb σ H1 fun y H2 => r x y H2 Q
def tUn (r : V → Hp → VK → Prop) (ta : TE) : TE := fun σ H Q => ta σ H fun x H1 => r x H1 Q
def rI (C : Int → Int → Prop) (g : Int → Int → V) : R2 := fun x y H Q => ∃ i j, x = .int i ∧ y = .int j ∧ C i j ∧ Q (g i j) H
def rI0 (g : Int → Int → V) : R2 := fun x y H Q => ∃ i j, x = .int i ∧ y = .int j ∧ Q (g i j) H
def rU (g : Int → V) : V → Hp → VK → Prop := fun x H Q => ∃ i, x = .int i ∧ Q (g i) H
section
variable {X : Cx} {a b c : Expr} {ta tb tc : TE} {pos : Pos}
theorem binT (ha : PE X a ta) (hb : PE X b tb) {pins : List (Addr × Obj)} {s : Shared} {σ : St} {H : Hp} {R : V → V → Hp → Prop} (I : Inv X pins σ H s)
    (h : ta σ H fun x H1 => tb σ H1 fun y H2 => R x y H2) {Q : Value → Shared → Prop} {f : Value → Value → Sem Value}
    (hf : ∀ v u s2 x y H2, Inv X pins σ H2 s2 → RelV x v → RelV y u → R x y H2 → wpAny (model X.prog X.w) X.A (f v u) Q X.xe s2) :
    wpAny (model X.prog X.w) X.A (eval a X.env) (fun v s₁ => wpAny (model X.prog X.w) X.A (eval b X.env) (fun u s₂ => wpAny (model X.prog X.w) X.A (f v u) Q X.xe s₂) X.xe s₁) X.xe s := by
  refine thn (ha pins s σ H _ I h) fun v s1 ⟨x, H1, I1, r1, q1⟩ => ?_
  refine thn (hb pins s1 σ H1 _ I1 q1) fun u s2 ⟨y, H2, I2, r2, q2⟩ => ?_
  exact hf v u s2 x y H2 I2 r1 r2 q2
theorem pe_op {op : Operator} {r : R2} (ho : OpR X (binaryOp op) r) (ha : PE X a ta) (hb : PE X b tb) : PE X (.BinOp a op b pos) (tOp r ta tb) := by
  intro pins s σ H Q I h
  exact wpAny_BinOp (binT ha hb I h fun v u s2 x y H2 I2 rx ry q => ho pins s2 σ H2 x y v u Q I2 rx ry q)
theorem pe_un {op : UnaryOp} {r : V → Hp → VK → Prop} (ho : UnR X (unaryOp op) r) (ha : PE X a ta) : PE X (.UnaryOp op a pos) (tUn r ta) := by
  intro pins s σ H Q I h
  exact UnaryOp_ (thn (ha pins s σ H _ I h) fun v s1 ⟨x, H1, I1, r1, q1⟩ => ho pins s1 σ H1 x v Q I1 r1 q1)
theorem opI {f : Value → Value → Sem Value} {C : Int → Int → Prop} {g : Int → Int → Int}
    (rule : ∀ (i j : Int) (t u : Tok) (s : Shared) (Q : Value → Shared → Prop) (E : Value → Shared → Prop), C i j → Q (.int (g i j) s.toks) { s with toks := s.toks + 1 } → wpAny (model X.prog X.w) X.A (f (.int i t) (.int j u)) Q E s) :
    OpR X f (rI C fun i j => .int (g i j)) := by
  intro pins s σ H x y v u Q I rx ry h
  obtain ⟨i, j, rfl, rfl, hc, q⟩ := h
  obtain ⟨t, rfl⟩ := rx
  obtain ⟨t', rfl⟩ := ry
  exact rule i j t t' s _ _ hc ⟨.int (g i j), H, I.tok _, ⟨_, rfl⟩, q⟩
theorem opI0 {f : Value → Value → Sem Value} {g : Int → Int → Int}
    (rule : ∀ (i j : Int) (t u : Tok) (s : Shared) (Q : Value → Shared → Prop) (E : Value → Shared → Prop), Q (.int (g i j) s.toks) { s with toks := s.toks + 1 } → wpAny (model X.prog X.w) X.A (f (.int i t) (.int j u)) Q E s) :
    OpR X f (rI0 fun i j => .int (g i j)) := by
  intro pins s σ H x y v u Q I rx ry h
  obtain ⟨i, j, rfl, rfl, q⟩ := h
  obtain ⟨t, rfl⟩ := rx
  obtain ⟨t', rfl⟩ := ry
  exact rule i j t t' s _ _ ⟨.int (g i j), H, I.tok _, ⟨_, rfl⟩, q⟩
theorem opB0 {f : Value → Value → Sem Value} {g : Int → Int → Bool}
    (rule : ∀ (i j : Int) (t u : Tok) (s : Shared) (Q : Value → Shared → Prop) (E : Value → Shared → Prop), Q (.bool (g i j)) s → wpAny (model X.prog X.w) X.A (f (.int i t) (.int j u)) Q E s) :
    OpR X f (rI0 fun i j => .bl (g i j)) := by
  intro pins s σ H x y v u Q I rx ry h
  obtain ⟨i, j, rfl, rfl, q⟩ := h
  obtain ⟨t, rfl⟩ := rx
  obtain ⟨t', rfl⟩ := ry
  exact rule i j t t' s _ _ ⟨.bl (g i j), H, I, rfl, q⟩
def CDiv (i j : Int) : Prop := 0 < j ∧ j < 1073741824
def CDivN (i j : Int) : Prop := j ≠ 0 ∧ j.natAbs < 1073741824
def CPow (i j : Int) : Prop := 0 ≤ j ∧ j ≤ 1000000 ∧ i.natAbs < 2 ^ 64
def CMul (i j : Int) : Prop := (-(2 ^ 64) < i ∧ i < 2 ^ 64) ∨ (-(2 ^ 64) < j ∧ j < 2 ^ 64)
theorem CMul.ok {i j : Int} (h : CMul i j) : IntMulOk i j := by
  rcases h with ⟨h1, h2⟩ | ⟨h1, h2⟩
  · exact .of_left (intBits_le_64 h1 h2)
  · exact .of_right (intBits_le_64 h1 h2)
theorem op_add : OpR X (binaryOp .Add) (rI0 fun i j => .int (i + j)) := opI0 fun _ _ _ _ _ _ _ q => add_int q
theorem op_sub : OpR X (binaryOp .Sub) (rI0 fun i j => .int (i - j)) := opI0 fun _ _ _ _ _ _ _ q => sub_int q
theorem op_mul : OpR X (binaryOp .Mult) (rI CMul fun i j => .int (i * j)) := opI fun _ _ _ _ _ _ _ hc q => mul_int q hc.ok
theorem op_fdiv : OpR X (binaryOp .FloorDiv) (rI CDiv fun i j => .int (i / j)) := opI fun i j _ _ _ _ _ hc q => by
  have h1 : (0 : Int) < j := hc.1
  have h2 : j < 1073741824 := hc.2
  exact floordiv_int (by (first | lia | omega)) (by rw [Int.fdiv_eq_ediv_of_nonneg i (by (first | lia | omega))]; exact q) (.inl (PyProof.noPylong_small (by (first | lia | omega))))
theorem op_mod : OpR X (binaryOp .Mod) (rI (fun _ j => 0 < j) fun i j => .int (i % j)) := opI fun i j _ _ _ _ _ hc q => by
  have h1 : (0 : Int) < j := hc
  exact mod_int' (by (first | lia | omega)) (by rw [Int.fmod_eq_emod_of_nonneg i (by (first | lia | omega))]; exact q)
theorem op_pow : OpR X (binaryOp .Pow) (rI CPow fun i j => .int (i ^ j.toNat)) := opI fun _ _ _ _ _ _ _ hc q => pow_int_small hc.1 hc.2.1 hc.2.2 q
theorem unI {f : Value → Sem Value} {g : Int → Int}
    (rule : ∀ (i : Int) (t : Tok) (s : Shared) (Q : Value → Shared → Prop) (E : Value → Shared → Prop), Q (.int (g i) s.toks) { s with toks := s.toks + 1 } → wpAny (model X.prog X.w) X.A (f (.int i t)) Q E s) :
    UnR X f (rU fun i => .int (g i)) := by
  intro pins s σ H x v Q I rx h
  obtain ⟨i, rfl, q⟩ := h
  obtain ⟨t, rfl⟩ := rx
  exact rule i t s _ _ ⟨.int (g i), H, I.tok _, ⟨_, rfl⟩, q⟩
theorem un_neg : UnR X (unaryOp .USub) (rU fun i => .int (-i)) := unI fun _ _ _ _ _ q => neg_int q
end
def scal : V → V → Bool
  | .non, .non => true | .non, .int _ => true | .int _, .non => true | .non, .bl _ => true | .bl _, .non => true | .non, .str _ => true | .str _, .non => true
  | .int _, .int _ => true | .bl _, .bl _ => true | .str _, .str _ => true | .byt _, .byt _ => true
  | .int _, .str _ => true | .str _, .int _ => true | .bl _, .str _ => true | .str _, .bl _ => true
  | _, _ => false
def rEq : R2 := fun x y H Q => scal x y = true ∧ Q (.bl (decide (x = y))) H
def rNe : R2 := fun x y H Q => scal x y = true ∧ Q (.bl (!decide (x = y))) H
theorem dec_int {i j : Int} : decide (V.int i = V.int j) = (i == j) := by
  rw [Bool.eq_iff_iff]
  simp
theorem dec_bl {i j : Bool} : decide (V.bl i = V.bl j) = (i == j) := by
  rw [Bool.eq_iff_iff]
  simp
theorem dec_str {i j : Str} : decide (V.str i = V.str j) = (i == j) := by
  rw [Bool.eq_iff_iff]
  simp
theorem dec_byt {i j : Array UInt8} : decide (V.byt i = V.byt j) = (i.toList == j.toList) := by
  rw [Bool.eq_iff_iff]
  cases i
  cases j
  simp
section
variable {X : Cx} {a b c : Expr} {ta tb tc : TE} {pos : Pos}
theorem fin_bl {pins : List (Addr × Obj)} {σ : St} {H : Hp} {s : Shared} {Q : VK} {k k' : Bool} (I : Inv X pins σ H s) (q : Q (.bl k) H) (e : k = k') : EP X pins σ Q (.bool k') s := by
  subst e
  exact ⟨.bl k, H, I, rfl, q⟩
theorem op_eq : OpR X (compareOp .Eq) rEq := by
  intro pins s σ H x y v u Q I rx ry h
  obtain ⟨hs, q⟩ := h
  cases x with
  | non =>
    cases rx
    cases y with
    | non => cases ry; exact PySem.EqNone.eq_none_none (fin_bl I q (by simp))
    | bl j => cases ry; exact PySem.EqNone.eq_none_bool (fin_bl I q (by simp))
    | int j => obtain ⟨t', rfl⟩ := ry; exact PySem.EqNone.eq_none_int (fin_bl I q (by simp))
    | str j => obtain ⟨t', rfl⟩ := ry; exact PySem.EqNone.eq_none_str (fin_bl I q (by simp))
    | _ => exact absurd (show false = true from hs) Bool.false_ne_true
  | bl i =>
    cases rx
    cases y with
    | non => cases ry; exact PySem.EqNone.eq_bool_none (fin_bl I q (by simp))
    | bl j => cases ry; exact eq_bool (fin_bl I q dec_bl)
    | str j => obtain ⟨t', rfl⟩ := ry; exact PySem.EqMixed.eq_bool_str (fin_bl I q (by simp))
    | _ => exact absurd (show false = true from hs) Bool.false_ne_true
  | int i =>
    obtain ⟨t, rfl⟩ := rx
    cases y with
    | non => cases ry; exact PySem.EqNone.eq_int_none (fin_bl I q (by simp))
    | int j => obtain ⟨t', rfl⟩ := ry; exact eq_int (fin_bl I q dec_int)
    | str j => obtain ⟨t', rfl⟩ := ry; exact PySem.EqMixed.eq_int_str (fin_bl I q (by simp))
    | _ => exact absurd (show false = true from hs) Bool.false_ne_true
  | str i =>
    obtain ⟨t, rfl⟩ := rx
    cases y with
    | non => cases ry; exact PySem.EqNone.eq_str_none (fin_bl I q (by simp))
    | bl j => cases ry; exact PySem.EqMixed.eq_str_bool (fin_bl I q (by simp))
    | int j => obtain ⟨t', rfl⟩ := ry; exact PySem.EqMixed.eq_str_int (fin_bl I q (by simp))
    | str j => obtain ⟨t', rfl⟩ := ry; exact eq_str (fin_bl I q dec_str)
    | _ => exact absurd (show false = true from hs) Bool.false_ne_true
  | byt i =>
    obtain ⟨t, rfl⟩ := rx
    cases y with
    | byt j => obtain ⟨t', rfl⟩ := ry; exact PySem.W.eq_bytes (fin_bl I q dec_byt)
    | _ => exact absurd (show false = true from hs) Bool.false_ne_true
  | _ => cases y <;> exact absurd (show false = true from hs) Bool.false_ne_true
theorem op_ne : OpR X (compareOp .NotEq) rNe := by
  intro pins s σ H x y v u Q I rx ry h
  obtain ⟨hs, q⟩ := h
  cases x with
  | non =>
    cases rx
    cases y with
    | non => cases ry; exact PySem.EqNone.ne_none_none (fin_bl I q (by simp))
    | bl j => cases ry; exact PySem.EqNone.ne_none_bool (fin_bl I q (by simp))
    | int j => obtain ⟨t', rfl⟩ := ry; exact PySem.EqNone.ne_none_int (fin_bl I q (by simp))
    | str j => obtain ⟨t', rfl⟩ := ry; exact PySem.EqNone.ne_none_str (fin_bl I q (by simp))
    | _ => exact absurd (show false = true from hs) Bool.false_ne_true
  | bl i =>
    cases rx
    cases y with
    | non => cases ry; exact PySem.EqNone.ne_bool_none (fin_bl I q (by simp))
    | bl j => cases ry; exact ne_bool (fin_bl I q (congrArg not dec_bl))
    | str j => obtain ⟨t', rfl⟩ := ry; exact PySem.EqMixed.ne_bool_str (fin_bl I q (by simp))
    | _ => exact absurd (show false = true from hs) Bool.false_ne_true
  | int i =>
    obtain ⟨t, rfl⟩ := rx
    cases y with
    | non => cases ry; exact PySem.EqNone.ne_int_none (fin_bl I q (by simp))
    | int j => obtain ⟨t', rfl⟩ := ry; exact ne_int (fin_bl I q (congrArg not dec_int))
    | str j => obtain ⟨t', rfl⟩ := ry; exact PySem.EqMixed.ne_int_str (fin_bl I q (by simp))
    | _ => exact absurd (show false = true from hs) Bool.false_ne_true
  | str i =>
    obtain ⟨t, rfl⟩ := rx
    cases y with
    | non => cases ry; exact PySem.EqNone.ne_str_none (fin_bl I q (by simp))
    | bl j => cases ry; exact PySem.EqMixed.ne_str_bool (fin_bl I q (by simp))
    | int j => obtain ⟨t', rfl⟩ := ry; exact PySem.EqMixed.ne_str_int (fin_bl I q (by simp))
    | str j => obtain ⟨t', rfl⟩ := ry; exact ne_str (fin_bl I q (congrArg not dec_str))
    | _ => exact absurd (show false = true from hs) Bool.false_ne_true
  | byt i =>
    obtain ⟨t, rfl⟩ := rx
    cases y with
    | byt j => obtain ⟨t', rfl⟩ := ry; exact PySem.W.ne_bytes (fin_bl I q (congrArg not dec_byt))
    | _ => exact absurd (show false = true from hs) Bool.false_ne_true
  | _ => cases y <;> exact absurd (show false = true from hs) Bool.false_ne_true
theorem op_lt : OpR X (compareOp .Lt) (rI0 fun i j => .bl (decide (i < j))) := opB0 fun _ _ _ _ _ _ _ q => lt_int q
theorem op_le : OpR X (compareOp .LtE) (rI0 fun i j => .bl (decide (i ≤ j))) := opB0 fun _ _ _ _ _ _ _ q => le_int q
theorem op_gt : OpR X (compareOp .Gt) (rI0 fun i j => .bl (decide (j < i))) := opB0 fun _ _ _ _ _ _ _ q => gt_int q
theorem op_ge : OpR X (compareOp .GtE) (rI0 fun i j => .bl (decide (j ≤ i))) := opB0 fun _ _ _ _ _ _ _ q => ge_int q
theorem op_isN : OpR X (compareOp .Is) (fun x y H Q => y = .non ∧ Q (.bl (decide (x = .non))) H) := by
  intro pins s σ H x y v u Q I rx ry h
  obtain ⟨rfl, q⟩ := h
  cases ry
  refine is_none_gen (fin_bl I q ?_)
  cases x <;> first
    | (cases rx; rfl)
    | (obtain ⟨t, rfl⟩ := rx; rfl)
theorem op_notN : OpR X (compareOp .IsNot) (fun x y H Q => y = .non ∧ Q (.bl (!decide (x = .non))) H) := by
  intro pins s σ H x y v u Q I rx ry h
  obtain ⟨rfl, q⟩ := h
  cases ry
  refine isnot_none_gen (fin_bl I q ?_)
  cases x <;> first
    | (cases rx; rfl)
    | (obtain ⟨t, rfl⟩ := rx; rfl)
def isObj : HO → Bool
  | .lst _ => true
  | .ins _ _ _ => true
  | _ => false
theorem OpR.or {f : Value → Value → Sem Value} {r r' : R2} (h : OpR X f r) (h' : OpR X f r') : OpR X f (fun x y H Q => r x y H Q ∨ r' x y H Q) := by
  intro pins s σ H x y v u Q I rx ry q
  rcases q with q | q
  · exact h pins s σ H x y v u Q I rx ry q
  · exact h' pins s σ H x y v u Q I rx ry q
theorem nomark (b : Expr) {op : CmpOp} (h : op ≠ .In := by decide) (h2 : op ≠ .NotIn := by decide) : behindInMarks op b = false := by
  have e1 : (op == CmpOp.In) = false := by cases op <;> first | rfl | exact absurd rfl h
  have e2 : (op == CmpOp.NotIn) = false := by cases op <;> first | rfl | exact absurd rfl h2
  cases b <;> simp [behindInMarks, e1, e2]
theorem pe_cmpR {op : CmpOp} {r : R2} (ho : OpR X (compareOp op) r) (ha : PE X a ta) (hb : PE X b tb) (hm : behindInMarks op b = false) : PE X (.Compare a [op] [b] pos) (tOp r ta tb) := by
  intro pins s σ H Q I h
  exact wpAny_Compare1 (binT ha hb I h fun v u s2 x y H2 I2 rx ry q => ho pins s2 σ H2 x y v u Q I2 rx ry q) hm
def tTest (t : TE) : TT := fun σ H Q => t σ H fun x H' => ∃ k, x = .bl k ∧ Q k H'
theorem pt_cmpR {op : CmpOp} {r : R2} (ho : OpR X (compareOp op) r) (ha : PE X a ta) (hb : PE X b tb) (hm : behindInMarks op b = false) : PT X (.Compare a [op] [b] pos) (tTest (tOp r ta tb)) := by
  intro pins s σ H Q I h
  refine wpAny_isTrue_Compare1 (thn (ha pins s σ H _ I h) fun v s1 ⟨x, H1, I1, r1, q1⟩ => thn (hb pins s1 σ H1 _ I1 q1) fun u s2 ⟨y, H2, I2, r2, q2⟩ =>
    thn (ho pins s2 σ H2 x y v u _ I2 r1 r2 q2) fun c s3 ⟨z, H3, I3, r3, k, e, q3⟩ => ?_) hm
  subst e
  cases r3
  exact wpAny_truthy_bool ⟨H3, I3, q3⟩
def tChain (r r' : R2) (ta tb tc : TE) : TE := fun σ H Q => ta σ H fun x H1 => tb σ H1 fun y H2 => r x y H2 fun z H3 => ∃ k, z = .bl k ∧
  (if k = true then tc σ H3 fun w' H4 => r' y w' H4 Q else Q (.bl false) H3)
theorem pe_chain {op op' : CmpOp} {r r' : R2} (ho : OpR X (compareOp op) r) (ho' : OpR X (compareOp op') r') (ha : PE X a ta) (hb : PE X b tb) (hc : PE X c tc)
    (hm : lastMarks [op, op'] [b, c] = false := by with_unfolding_all rfl) : PE X (.Compare a [op, op'] [b, c] pos) (tChain r r' ta tb tc) := by
  intro pins s σ H Q I h
  refine Compare_chain (thn (ha pins s σ H _ I h) fun v s1 ⟨x, H1, I1, r1, q1⟩ => chain_link (thn (hb pins s1 σ H1 _ I1 q1) fun u s2 ⟨y, H2, I2, r2, q2⟩ =>
    thn (ho pins s2 σ H2 x y v u _ I2 r1 r2 q2) fun d s3 ⟨z, H3, I3, r3, k, e, q3⟩ => ?_)) hm
  subst e
  cases r3
  refine wpAny_truthy_bool ?_
  cases k with
  | false => exact ite_ff ⟨.bl false, H3, I3, rfl, q3⟩
  | true => exact ite_tt (chain_last (thn (hc pins s3 σ H3 _ I3 q3) fun w' s4 ⟨z', H4, I4, r4, q4⟩ => ho' pins s4 σ H4 y z' u w' Q I4 r2 r4 q4))
theorem pt_chain {op op' : CmpOp} {r r' : R2} (ho : OpR X (compareOp op) r) (ho' : OpR X (compareOp op') r') (ha : PE X a ta) (hb : PE X b tb) (hc : PE X c tc)
    (hm : lastMarks [op, op'] [b, c] = false := by with_unfolding_all rfl) : PT X (.Compare a [op, op'] [b, c] pos) (tTest (tChain r r' ta tb tc)) := by
  intro pins s σ H Q I h
  refine isTrue_chain (thn (ha pins s σ H _ I h) fun v s1 ⟨x, H1, I1, r1, q1⟩ => test_link (thn (hb pins s1 σ H1 _ I1 q1) fun u s2 ⟨y, H2, I2, r2, q2⟩ =>
    thn (ho pins s2 σ H2 x y v u _ I2 r1 r2 q2) fun d s3 ⟨z, H3, I3, r3, k, e, q3⟩ => ?_)) hm
  subst e
  cases r3
  refine wpAny_truthy_bool ?_
  cases k with
  | false =>
    obtain ⟨k', e', q'⟩ := q3
    cases e'
    exact ite_ff ⟨H3, I3, q'⟩
  | true =>
    refine ite_tt (test_last (thn (hc pins s3 σ H3 _ I3 q3) fun w' s4 ⟨z', H4, I4, r4, q4⟩ => thn (ho' pins s4 σ H4 y z' u w' _ I4 r2 r4 q4) fun d' s5 ⟨z2, H5, I5, r5, k2, e2, q5⟩ => ?_))
    subst e2
    cases r5
    exact wpAny_truthy_bool ⟨H5, I5, q5⟩
def TruV (K : PySem.W.Frag) (x : V) (H : Hp) (k : Bool) : Prop :=
  match x with
  | .non => k = false
  | .bl b => k = b
  | .int i => k = (i != 0)
  | .str y => y.length ≤ sizeLine ∧ k = ((y.length : Int) != 0)
  | .byt y => y.size ≤ sizeLine ∧ k = ((y.size : Int) != 0)
  | .ref p => (∃ xs, SqL K H p xs ∧ k = !xs.isEmpty) ∨ (∃ xs, SqT K H p xs ∧ k = !xs.isEmpty) ∨ ∃ kvs, H p = some (.dK kvs) ∧ k = !kvs.isEmpty
  | _ => False
theorem line63 : (sizeLine : Nat) < 2 ^ 63 := by rw [sizeLine_eq]; decide
def PlainIxT (b : Expr) : Prop := ∀ o i, subscripted b false o i = operate [o, i] (getItem o i)
theorem vals1 {x : V} {us : List Value} (r : Vals [x] us) : ∃ u, us = [u] ∧ RelV x u := by
  cases r with
  | cons r1 r2 => cases r2; exact ⟨_, rfl, r1⟩
theorem vals2 {x y : V} {us : List Value} (r : Vals [x, y] us) : ∃ u w', us = [u, w'] ∧ RelV x u ∧ RelV y w' := by
  cases r with
  | cons r1 r2 =>
    cases r2 with
    | cons r3 r4 => cases r4; exact ⟨_, _, rfl, r1, r3⟩
theorem call_abs : CallR X (.builtin "abs") (fun xs H Q => ∃ i, xs = [.int i] ∧ Q (.int (if i < 0 then -i else i)) H) := by
  intro pins s σ H xs us Q I r h
  obtain ⟨i, rfl, q⟩ := h
  obtain ⟨u, rfl, t, rfl⟩ := vals1 r
  exact call_abs_int fun u tk => ⟨.int (if i < 0 then -i else i), H, I.tok _, ⟨_, rfl⟩, q⟩
theorem call_max2 (hc : X.calm = true) : CallR X (.builtin "max") (fun xs H Q => ∃ i j, xs = [.int i, .int j] ∧ Q (.int (if j > i then j else i)) H) := by
  intro pins s σ H xs us Q I r h
  obtain ⟨i, j, rfl, q⟩ := h
  obtain ⟨u, w', rfl, ⟨t, rfl⟩, ⟨t', rfl⟩⟩ := vals2 r
  refine max_two_ints (I.ok.hd hc) fun h' tk k => ⟨_, H, I.kept k, ?_, q⟩
  by_cases hj : j > i
  · rw [if_pos hj, if_pos hj]; exact ⟨_, rfl⟩
  · rw [if_neg hj, if_neg hj]; exact ⟨_, rfl⟩
def LenV (K : PySem.W.Frag) (x : V) (H : Hp) (n : Nat) : Prop :=
  match x with
  | .str y => y.length ≤ sizeLine ∧ n = y.length
  | .byt y => y.size ≤ sizeLine ∧ n = y.size
  | .ref p => (∃ xs, SqL K H p xs ∧ n = xs.length) ∨ ∃ xs, SqT K H p xs ∧ n = xs.length
  | _ => False
end
end L2
namespace L2
open PySem PySem.Spec PyProof.Rows
structure ObjM (h : Heap) (x dx C : Addr) (mA : Str → Option Value) : Prop where
  obj : h.get? x = some (PySem.W.instObj C dx)
  ns : h.Ns1 dx mA
  ne : dx ≠ x
theorem lookIn_ns {h : Heap} {dx : Addr} {mA : Str → Option Value} (n : h.Ns1 dx mA) : ∃ od, h.get? dx = some od ∧ ∀ name, PySem.W.lookIn name od = some (mA name) := by
  obtain ⟨o, es, ep, ho, hd, hk, _, hm⟩ := n
  refine ⟨o, ho, fun name => ?_⟩
  have e := hm name
  unfold nsFind findBy at e
  rw [← Array.find?_toList] at e
  unfold PySem.W.lookIn
  rw [hd]
  dsimp only
  split
  · rename_i y q
    rw [q] at e
    exact congrArg some e
  · rename_i q
    rw [q] at e
    have a : es.toList.any (·.refKey) = false := by
      rw [List.any_eq_false]
      intro y hy
      obtain ⟨z, t, hkey⟩ := hk y (Array.mem_toList_iff.mp hy)
      simp [DictEntry.refKey, hkey]
    have a' : ¬ es.toList.any (·.refKey) = true := by rw [a]; exact Bool.false_ne_true
    rw [if_neg a']
    exact congrArg some e
theorem ObjM.look {h : Heap} {x dx C : Addr} {mA : Str → Option Value} (I : ObjM h x dx C mA) : ∃ od, PySem.W.InstAt h x (PySem.W.instObj C dx) C (some od) ∧ ∀ name, PySem.W.lookIn name od = some (mA name) :=
  let ⟨od, ho, hl⟩ := lookIn_ns I.ns
  ⟨od, ⟨I.obj, rfl, rfl, ho⟩, hl⟩
section
variable {prog : Program} {w : World} {A : Around} {E : Value → Shared → Prop} {s : Shared} {K : PySem.W.Frag} {x dx C f : Addr} {mA : Str → Option Value} {name : Str} {v : Value}
end
def putF (f : Str) (v : V) : List (Str × V) → List (Str × V)
  | [] => [(f, v)]
  | (g, x) :: r => if g = f then (g, v) :: r else (g, x) :: putF f v r
theorem RelO.some_of {v : V} {o : Option Value} (r : RelO (some v) o) : ∃ u, o = some u ∧ RelV v u := by
  cases o with
  | none => exact (show False from r).elim
  | some u => exact ⟨u, rfl, r⟩
section
variable {P : Program} {w : World} {H H' : Hp} {h h' : Heap} {a C dx : Addr} {fs fs' : List (Str × V)}
theorem ins_get (hok : HOk P w H h) (e : H a = some (.ins C dx fs)) : ∃ mA, ObjM h a dx C mA ∧ (∀ f, RelO (fs.lookup f) (mA f)) ∧ PySem.Within mA (fs.map (·.1)) ∧ fs.length ≤ 1000 ∧ H dx = some (.own a) := by
  obtain ⟨d, z, ne, ob, mA, n, r, q⟩ := (show ObjOk P w H h a (.ins C dx fs) from hok a _ e)
  exact ⟨mA, ⟨ob, n, ne⟩, r, q, z, d⟩
end
structure Cls (K : PySem.W.Frag) (C : Addr) : Prop where
  pg : PySem.W.plainGet K C Str.empty = true
  hd : PySem.W.hasDictIn K C = true
  po : PySem.W.plainOver K C = true
  sa : PySem.W.findIn K (.ref C) "__setattr__" = some (some (.builtin "object.__setattr__"))
theorem Cls.get {K : PySem.W.Frag} {C : Addr} (c : Cls K C) (f : Str) : PySem.W.plainGet K C f = true := c.pg
def NoAttr (K : PySem.W.Frag) (C : Addr) (f : Str) : Prop := PySem.W.findIn K (.ref C) f = some none
structure Con (K : PySem.W.Frag) (C : Addr) (f : Str) (v : V) (u : Value) : Prop where
  at_ : PySem.W.findIn K (.ref C) f = some (some u)
  rel : RelV v u
  get : PySem.W.specialIn K u "__get__" = some none
  cp : PySem.W.copiedNames.contains f = false
structure Meth (K : PySem.W.Frag) (C : Addr) (m : Str) (f : Addr) : Prop where
  at_ : PySem.W.findIn K (.ref C) m = some (some (.ref f))
  fn : PySem.W.isFn K (.ref f) = true
  kp : PySem.W.keepIn K (.ref f) = true
section
variable {X : Cx} {pins : List (Addr × Obj)} {σ : St} {H : Hp} {s : Shared} {a C dx : Addr} {fs : List (Str × V)} {f : Str} {v : V} {A : Around} {E : Value → Shared → Prop}
theorem Inv.made (I : Inv X pins σ H s) : Inv X pins σ (upd (upd H s.heap.objs.size (.own (s.heap.objs.size + 1))) (s.heap.objs.size + 1) (.ins C s.heap.objs.size []))
    { s with heap := (s.heap.push PySem.W.emptyDict).push (PySem.W.instObj C s.heap.objs.size) } := by
  have e1 : (s.heap.push PySem.W.emptyDict).get? s.heap.objs.size = some PySem.W.emptyDict := Heap.get?_push_size s.heap rfl
  have e2 : ((s.heap.push PySem.W.emptyDict).push (PySem.W.instObj C s.heap.objs.size)).get? (s.heap.objs.size + 1) = some (PySem.W.instObj C s.heap.objs.size) := by
    have := Heap.get?_push_size (s.heap.push PySem.W.emptyDict) (o := PySem.W.instObj C s.heap.objs.size) rfl
    rwa [Heap.size_push] at this
  have e3 : (s.heap.push PySem.W.emptyDict).Ns s.heap.objs.size (fun _ => none) := ⟨PySem.W.emptyDict, #[], _, e1, rfl, (fun e he => absurd he (by simp)), fun _ => rfl⟩
  have I1 := I.laid (a := s.heap.objs.size) (o := .own (s.heap.objs.size + 1)) (h' := s.heap.push PySem.W.emptyDict) (t' := s.toks) (fun b u q => Heap.get?_push_of_some _ q) (Nat.le_refl _) ⟨_, e1⟩
  refine I1.laid (a := s.heap.objs.size + 1) (o := .ins C s.heap.objs.size []) (t' := s.toks) (fun b u q => Heap.get?_push_of_some _ q) (Nat.le_of_eq (Heap.size_push _ _)) ?_
  have ne : s.heap.objs.size ≠ s.heap.objs.size + 1 := Nat.ne_of_lt (Nat.lt_succ_self _)
  refine ⟨by rw [upd_ne ne, upd_same], Nat.zero_le _, ne, e2, fun _ => none, (Heap.Ns1.of_empty e3).at fun o q => Heap.get?_push_of_some _ q, fun _ => True.intro, fun y hy => absurd rfl hy⟩
end
def tFld (K : PySem.W.Frag) (ta : TE) (f : Str) : TE := fun σ H Q => ta σ H fun x H1 => ∃ a C dx fs v, x = .ref a ∧ H1 a = some (.ins C dx fs) ∧ Cls K C ∧ NoAttr K C f ∧ fs.lookup f = some v ∧ Q v H1
def tCon (K : PySem.W.Frag) (ta : TE) (f : Str) : TE := fun σ H Q => ta σ H fun x H1 => ∃ a C dx fs v u, x = .ref a ∧ H1 a = some (.ins C dx fs) ∧ Cls K C ∧ Con K C f v u ∧ fs.lookup f = none ∧ Q v H1
def sFld (K : PySem.W.Frag) (ta tv : TE) (f : Str) : TS := fun D σ H => tv σ H fun y H1 => ta σ H1 fun x H2 => ∃ a C dx fs, x = .ref a ∧ H2 a = some (.ins C dx fs) ∧ Cls K C ∧ NoAttr K C f ∧ fs.length < 1000 ∧
  D.nx σ (upd H2 a (.ins C dx (putF f y fs)))
def InOp (X : Cx) (op : Operator) (rd : V → V → Hp → VK → Prop) : Prop :=
  ∀ (pins : List (Addr × Obj)) (s : Shared) (σ : St) (H : Hp) (x y : V) (u v : Value) (Q : VK), Inv X pins σ H s → RelV x u → RelV y v → rd x y H Q → wpAny (model X.prog X.w) X.A (inplaceOp op u v) (EP X pins σ Q) X.xe s
def sFldAug (K : PySem.W.Frag) (ta tv : TE) (rd : V → V → Hp → VK → Prop) (f : Str) : TS := fun D σ H => ta σ H fun x H1 => ∃ a C dx fs v, x = .ref a ∧ H1 a = some (.ins C dx fs) ∧ Cls K C ∧ NoAttr K C f ∧ fs.lookup f = some v ∧
  tv σ H1 fun y H2 => rd v y H2 fun z H3 => ∃ dx' fs', H3 a = some (.ins C dx' fs') ∧ fs'.length < 1000 ∧ D.nx σ (upd H3 a (.ins C dx' (putF f z fs')))
section
variable {X : Cx} {o e value : Expr} {f : Str} {pos pos' tpos : Pos} {ta tv : TE}
def rAdd : V → V → Hp → VK → Prop := fun x y H Q => ∃ i j, x = .int i ∧ y = .int j ∧ Q (.int (i + j)) H
def rSub : V → V → Hp → VK → Prop := fun x y H Q => ∃ i j, x = .int i ∧ y = .int j ∧ Q (.int (i - j)) H
end
section
variable {X : Cx} {pins : List (Addr × Obj)} {σ : St} {H : Hp} {s : Shared} {A : Around} {E : Value → Shared → Prop} {Q : Value → Shared → Prop} {c : Value} {b : Bool}
inductive TyOf (K : PySem.W.Frag) (H : Hp) : V → Value → Prop where
  | non : TyOf K H .non (.type "NoneType")
  | bl (x : Bool) : TyOf K H (.bl x) (.type "bool")
  | int (i : Int) : TyOf K H (.int i) (.type "int")
  | str (x : Str) : TyOf K H (.str x) (.type "str")
  | flt (x : UInt64) : TyOf K H (.flt x) (.type "float")
  | lst {a : Addr} {xs : List V} (e : H a = some (.lst xs)) : TyOf K H (.ref a) (.type "list")
  | frz {a : Addr} {o : Obj} {xs : List V} (e : H a = some (.frz o (.lst xs))) : TyOf K H (.ref a) (.type "list")
  | tup {a : Addr} {xs : List V} (e : H a = some (.tup xs)) : TyOf K H (.ref a) (.type "tuple")
  | dK {a : Addr} {kvs : List (Key × V)} (e : H a = some (.dK kvs)) : TyOf K H (.ref a) (.type "dict")
  | dT {a : Addr} {kvs : List (List Key × V)} (e : H a = some (.dT kvs)) : TyOf K H (.ref a) (.type "dict")
  | ins {a C dx : Addr} {fs : List (Str × V)} (e : H a = some (.ins C dx fs)) (cl : Cls K C) (ha : PySem.W.findIn K (.ref C) "__class__" = some (some (.builtin "object.__class__")))
      (hn : PySem.W.specialIn K (.builtin "object.__class__") "__get__" = some (some (.builtin "getset_descriptor.__get__"))) (htk : PySem.W.takesIn K (.builtin "object.__class__") = some true)
      (hm : PySem.W.mroIn K C (.type "object") = some true) : TyOf K H (.ref a) (.ref C)
theorem isinst_ok {x : V} {u t : Value} (I : Inv X pins σ H s) (rx : RelV x u) (ty : TyOf X.K H x t) (e : PySem.W.kitOne X.K t c = some b) (h : ∀ tk, Q (.bool b) { s with toks := tk }) :
    wpAny (model X.prog X.w) A (call (.builtin "isinstance") [u, c]) Q E s := by
  cases ty with
  | non => cases (show u = Value.none from rx); exact PySem.W.kia_one PySem.W.kitx_none I.kIn True.intro e (fun z => nomatch z) h
  | bl y => cases (show u = Value.bool y from rx); exact PySem.W.kia_one PySem.W.kitx_bool I.kIn True.intro e (fun z => nomatch z) h
  | int i => obtain ⟨t, q⟩ := (show ∃ t, u = Value.int i t from rx); cases q; exact PySem.W.kia_one PySem.W.kitx_int I.kIn True.intro e (fun z => nomatch z) h
  | str y => obtain ⟨t, q⟩ := (show ∃ t, u = Value.str y t from rx); cases q; exact PySem.W.kia_one PySem.W.kitx_str I.kIn True.intro e (fun z => nomatch z) h
  | flt y => obtain ⟨t, q⟩ := (show ∃ t, u = Value.float y t from rx); cases q; exact PySem.W.kia_one PySem.W.kitx_float I.kIn True.intro e (fun z => nomatch z) h
  | @lst a xs ea =>
    cases (show u = Value.ref a from rx)
    obtain ⟨_, _, n, _, h1⟩ := (show ObjOk X.prog X.w H s.heap a (.lst xs) from I.hok a _ ea)
    exact PySem.W.kia_one PySem.W.kitx_list I.kIn ⟨_, h1, rfl⟩ e (fun z => nomatch z) h
  | @frz a ob xs ea =>
    cases (show u = Value.ref a from rx)
    obtain ⟨_, _, _, n, _, h1⟩ := (show ObjOk X.prog X.w H s.heap a (.frz ob (.lst xs)) from I.hok a _ ea)
    exact PySem.W.kia_one PySem.W.kitx_list I.kIn ⟨_, h1, rfl⟩ e (fun z => nomatch z) h
  | @tup a xs ea =>
    cases (show u = Value.ref a from rx)
    obtain ⟨_, _, _, p⟩ := (show ObjOk X.prog X.w H s.heap a (.tup xs) from I.hok a _ ea)
    obtain ⟨o, h1, h2, _⟩ := p
    exact PySem.W.kia_one PySem.W.kitx_tuple I.kIn ⟨o, h1, h2⟩ e (fun z => nomatch z) h
  | @dK a kvs ea =>
    cases (show u = Value.ref a from rx)
    obtain ⟨_, _, vs, _, p⟩ := (show ObjOk X.prog X.w H s.heap a (.dK kvs) from I.hok a _ ea)
    obtain ⟨o, es, ep, h1, h2, _⟩ := p
    exact PySem.W.kia_one PySem.W.kitx_dict I.kIn ⟨o, h1, h2.1⟩ e (fun z => nomatch z) h
  | @dT a kvs ea =>
    cases (show u = Value.ref a from rx)
    obtain ⟨_, _, xs, _, o, es, ep, h1, h2, _⟩ := (show ObjOk X.prog X.w H s.heap a (.dT kvs) from I.hok a _ ea)
    exact PySem.W.kia_one PySem.W.kitx_dict I.kIn ⟨o, h1, h2.1⟩ e (fun z => nomatch z) h
  | @ins a C dx fs ea cl ha hn htk hm =>
    cases (show u = Value.ref a from rx)
    obtain ⟨mA, O, _⟩ := ins_get I.hok ea
    obtain ⟨od, J, _⟩ := O.look
    exact PySem.W.kia_one (PySem.W.kitx_own (cl.get _) cl.hd ha hn htk hm) I.kIn J e (fun z => nomatch z) h
end
end L2
namespace L2
open PySem PySem.Spec PyProof.Rows
structure Room (k : Nat) (A : Around) : Prop where
  hd : A.handled = none
  dp : A.depth + 3 * k + 5 < recursionLimit
  un : A.units + 16 * k + 200 < cLine
  gd : A.guards = some []
theorem Room.mono {j k : Nat} {A : Around} (r : Room k A) (h : j ≤ k) : Room j A := ⟨r.hd, by have := r.dp; (first | lia | omega), by have := r.un; (first | lia | omega), r.gd⟩
theorem Room.deeper {k : Nat} {A : Around} (r : Room (k + 1) A) (env : Env) : Room k (A.deeper env) :=
  ⟨r.hd, by have := r.dp; show A.depth + 1 + 3 * k + 5 < _; (first | lia | omega), by have := r.un; show A.units + 3 + 16 * k + 200 < _; (first | lia | omega), r.gd⟩
theorem Room.in1 {k : Nat} {A : Around} (r : Room (k + 1) A) : Room k A.in1 :=
  ⟨r.hd, by have := r.dp; show A.depth + 3 * k + 5 < _; (first | lia | omega), by have := r.un; show A.units + 1 + 16 * k + 200 < _; (first | lia | omega), r.gd⟩
theorem Room.depth {k : Nat} {A : Around} (r : Room k A) : A.depth < recursionLimit := by have := r.dp; (first | lia | omega)
theorem Room.units {k : Nat} {A : Around} (r : Room k A) : A.units + 64 < cLine := by have := r.un; (first | lia | omega)
def tNil : TA := fun _ H Q => Q [] H
def tCons (ta : TE) (tr : TA) : TA := fun σ H Q => ta σ H fun x H1 => tr σ H1 fun xs H2 => Q (x :: xs) H2
section
variable {X : Cx} {e : Expr} {es : List Expr} {te : TE} {t : TA} {pos : Pos}
theorem pa_nil : PA X [] tNil := fun _ _ _ _ H Q I h => Calls.spliced_nil ⟨[], H, I, .nil, h⟩
theorem pa_cons (ha : PE X e te) (hr : PA X es t) (hs : starEach (e :: es) X.env = (false, eval e X.env) :: starEach es X.env := by rfl) : PA X (e :: es) (tCons te t) := by
  intro pos pins s σ H Q I h
  rw [hs]
  show wpAny _ _ (spliced ((false, eval e X.env) :: backTo pos (starEach es X.env))) _ _ s
  refine Calls.spliced_cons (thn (ha pins s σ H _ I h) fun u s1 ⟨x, H1, I1, r1, q1⟩ => ?_)
  exact thn (hr pos pins s1 σ H1 _ I1 q1) fun us s2 ⟨xs, H2, I2, r2, q2⟩ => ⟨x :: xs, H2, I2, .cons r1 r2, q2⟩
def tTup (t : TA) : TE := fun σ H Q => t σ H fun xs H1 => xs.length ≤ sizeLine ∧ ∀ p, H1 p = none → Q (.ref p) (upd H1 p (.tup xs))
def tLst (t : TA) : TE := fun σ H Q => t σ H fun xs H1 => xs.length ≤ sizeLine ∧ ∀ p, H1 p = none → Q (.ref p) (upd H1 p (.lst xs))
theorem pe_tup {x1} (h : PA X es t) : PE X (.Tuple es x1 pos) (tTup t) := by
  intro pins s σ H Q I hq
  refine wpAny_Tuple_spliced (thn (h pos pins s σ H _ I hq) fun us s1 ⟨xs, H1, I1, r, z, q⟩ => ⟨by rw [← r.length]; exact z, ?_⟩)
  have hf : H1 s1.heap.objs.size = none := I1.hok.fresh (Nat.le_refl _)
  refine ⟨.ref s1.heap.objs.size, upd H1 s1.heap.objs.size (.tup xs), I1.laid (t' := s1.toks) (fun b u e => Heap.get?_push_of_some _ e) (Nat.le_refl _) ?_, rfl, q _ hf⟩
  exact ⟨z, us, r, ⟨_, Heap.get?_push_size _ rfl, rfl, _, rfl⟩⟩
theorem pe_lst (h : PA X es t) : PE X (.List es pos) (tLst t) := by
  intro pins s σ H Q I hq
  refine wpAny_List_spliced (thn (h pos pins s σ H _ I hq) fun us s1 ⟨xs, H1, I1, r, z, q⟩ => ⟨by rw [← r.length]; exact z, ?_⟩)
  have hf : H1 s1.heap.objs.size = none := I1.hok.fresh (Nat.le_refl _)
  refine ⟨.ref s1.heap.objs.size, upd H1 s1.heap.objs.size (.lst xs), I1.laid (t' := s1.toks) (fun b u e => Heap.get?_push_of_some _ e) (Nat.le_refl _) ?_, rfl, q _ hf⟩
  exact ⟨z, us, 0, r, Heap.get?_push_size _ rfl⟩
end
abbrev Sp := List V → Hp → VK → XK → Prop
abbrev CXT := List Env → Hp → Shared → XK → Value → Shared → Prop
structure Env0 (P : Program) (w : World) (K : PySem.W.Frag) (mg : Str → Option Value) (base : Heap) (A : Around) (outer : List Env) (s : Shared) (H : Hp) : Prop where
  frames : A.frames = some outer
  mod : Mod K mg base
  bs : ∀ b o, base.get? b = some o → s.heap.get? b = some o ∧ H b = none
  bsz : base.objs.size ≤ s.heap.objs.size
  funs : s.heap.FunFrames base outer
  frf : ∀ b ∈ frs outer, H b = none
  hok : HOk P w H s.heap
  bare : AllBare s.gens
def CE (outer : List Env) (P : Program) (w : World) (H : Hp) (s : Shared) (Q : VK) (u : Value) (s' : Shared) : Prop :=
  ∃ v H', s'.os = s.os ∧ AllBare s'.gens ∧ Un (frs outer) [] H H' s.heap s'.heap ∧ HOk P w H' s'.heap ∧ RelV v u ∧ Q v H'
def CR (CX : CXT) (outer : List Env) (P : Program) (w : World) (H : Hp) (s : Shared) (Q : VK) (E : XK) (r : Result) (s' : Shared) : Prop :=
  match r with
  | .ok (.ret u) => CE outer P w H s Q u s'
  | .ok _ => False
  | .error e => CX outer H s E e s'
structure FnOk (P : Program) (w : World) (K : PySem.W.Frag) (mg : Str → Option Value) (base : Heap) (CX : CXT) (k : Nat) (f : Addr) (fd : FuncData) (ps : List Str) (sp : Sp) : Prop where
  len : ∀ vs H Q E, sp vs H Q E → vs.length = ps.length
  run : ∀ (A : Around) (outer : List Env) (s : Shared) (H : Hp) (args : Args) (us : List Value) (vs : List V) (Q : VK) (E : XK), Room k A → Env0 P w K mg base A outer s H → BindsTo s fd args (ps.zip us) → Vals vs us → sp vs H Q E →
    codeAny (model P w) A (.call (.ref f) args) (CR CX outer P w H s Q E) s
theorem FnOk.mono {P : Program} {w : World} {K : PySem.W.Frag} {mg : Str → Option Value} {base : Heap} {CX : CXT} {j k : Nat} {f : Addr} {fd : FuncData} {ps : List Str} {sp : Sp} (F : FnOk P w K mg base CX j f fd ps sp) (h : j ≤ k) :
    FnOk P w K mg base CX k f fd ps sp := ⟨F.len, fun A outer s H args us vs Q E hr => F.run A outer s H args us vs Q E (hr.mono h)⟩
theorem FnOk.imp {P : Program} {w : World} {K : PySem.W.Frag} {mg : Str → Option Value} {base : Heap} {CX : CXT} {k : Nat} {f : Addr} {fd : FuncData} {ps : List Str} {sp sp' : Sp} (F : FnOk P w K mg base CX k f fd ps sp)
    (h : ∀ vs H Q E, sp' vs H Q E → sp vs H Q E) : FnOk P w K mg base CX k f fd ps sp' :=
  ⟨fun vs H Q E q => F.len vs H Q E (h _ _ _ _ q), fun A outer s H args us vs Q E hr he hb hv hs => F.run A outer s H args us vs Q E hr he hb hv (h _ _ _ _ hs)⟩
theorem Env0.in1 {P : Program} {w : World} {K : PySem.W.Frag} {mg : Str → Option Value} {base : Heap} {A : Around} {outer : List Env} {s : Shared} {H : Hp} (e : Env0 P w K mg base A outer s H) :
    Env0 P w K mg base A.in1 outer s H := ⟨e.frames, e.mod, e.bs, e.bsz, e.funs, e.frf, e.hok, e.bare⟩
section
variable {X : Cx} {pins : List (Addr × Obj)} {σ : St} {H : Hp} {s s' : Shared}
theorem Inv.env0 (I : Inv X pins σ H s) : Env0 X.prog X.w X.K X.mg X.base X.A X.stack s H :=
  ⟨I.ok.frames, I.ok.mod, I.bs, Nat.le_trans I.ok.bsz I.sz, I.stack, I.stkFree, I.hok, I.bare⟩
theorem Inv.after {Q : VK} {u : Value} (I : Inv X pins σ H s) (h : CE X.stack X.prog X.w H s Q u s') : EP X pins σ Q u s' := by
  obtain ⟨v, H', os, bare, un, hok, r, q⟩ := h
  obtain ⟨hh, g, d, t, os'⟩ := s'
  obtain rfl : os' = s.os := os
  exact ⟨v, H', I.call (h' := hh) (g' := g) (d' := d) (t' := t) (ch := []) un hok bare (fun b z => absurd z (by simp)), r, q⟩
end
def tCall (sp : Sp) (dvs : List V) (E : XK) (t : TA) : TE := fun σ H Q => t σ H fun vs H1 => sp (vs ++ dvs) H1 Q E
def tMeth (C : Addr) (m : Str) (sp : Sp) (dvs : List V) (E : XK) (ta : TE) (t : TA) : TE := fun σ H Q => ta σ H fun x H1 => ∃ a dx fs, x = .ref a ∧ H1 a = some (.ins C dx fs) ∧ fs.lookup m = none ∧
  t σ H1 fun vs H2 => sp (x :: (vs ++ dvs)) H2 Q E
def tMake (C : Addr) (sp : Sp) (dvs : List V) (E : XK) (t : TA) : TE := fun σ H Q => t σ H fun vs H1 => ∀ x dx, H1 x = none → H1 dx = none → dx ≠ x →
  sp (.ref x :: (vs ++ dvs)) (upd (upd H1 dx (.own x)) x (.ins C dx [])) (fun v H2 => v = .non ∧ Q (.ref x) H2) E
def Binds (K : PySem.W.Frag) (fd : FuncData) (ps : List Str) (ds : List Value) : Prop :=
  ∀ (s : Shared) (us : List Value), K.In s.heap → (us ++ ds).length = ps.length → BindsTo s fd ⟨us, []⟩ (ps.zip (us ++ ds))
theorem Binds.all {K : PySem.W.Frag} {fd : FuncData} {ps : List Str} (h : ∀ us : List Value, us.length = ps.length → bindArgs fd ⟨us, []⟩ = pure (ps.zip us)) : Binds K fd ps [] := fun s us _ hl => by
  rw [List.append_nil] at hl ⊢
  exact .of_eq (h us hl)
def Passes (CX : CXT) (X : Cx) (E : XK) : Prop := ∀ (pins : List (Addr × Obj)) (σ : St) (H : Hp) (s : Shared) (e : Value) (s' : Shared), Inv X pins σ H s → CX X.stack H s E e s' → X.xe e s'
section
variable {X : Cx} {CX : CXT} {k : Nat} {f C : Addr} {fd : FuncData} {ps : List Str} {sp : Sp} {dvs : List V} {ds : List Value} {E : XK} {x m : Str} {p pos apos : Pos} {e o : Expr} {es : List Expr} {ta : TE} {t : TA}
theorem run_fn {pins : List (Addr × Obj)} {σ : St} {H : Hp} {s : Shared} {Q : VK} {us : List Value} {vs : List V} (F : FnOk X.prog X.w X.K X.mg X.base CX k f fd ps sp) (hr : Room k X.A) (hb : Binds X.K fd ps ds) (hd : Vals dvs ds) (hx : Passes CX X E)
    (I : Inv X pins σ H s) (r : Vals vs us) (h : sp (vs ++ dvs) H Q E) : wpAny (model X.prog X.w) X.A (call (.ref f) us) (EP X pins σ Q) X.xe s := by
  have r2 : Vals (vs ++ dvs) (us ++ ds) := r.append hd
  have hl : (us ++ ds).length = ps.length := by rw [← r2.length]; exact F.len _ _ _ _ h
  refine wpAny_call (codeAny_mono (F.run X.A X.stack s H ⟨us, []⟩ (us ++ ds) (vs ++ dvs) Q E hr I.env0 (hb s us I.kIn hl) r2 h) fun r s' hq => ?_)
  cases r with
  | error e => exact hx pins σ H s e s' I hq
  | ok fl =>
    cases fl with
    | ret u => exact I.after hq
    | next => exact False.elim hq
    | brk => exact False.elim hq
    | cont => exact False.elim hq
theorem pe_call (F : FnOk X.prog X.w X.K X.mg X.base CX k f fd ps sp) (hr : Room k X.A) (hg : Gl X x) (hm : X.mg x = some (.ref f)) (hk : PySem.W.keepIn X.K (.ref f) = true) (hb : Binds X.K fd ps ds) (hd : Vals dvs ds) (hx : Passes CX X E)
    (ha : PA X (e :: es) t) (hdb : (x == ("__debug__" : Str)) = false := by decide) (he : starEach (e :: es) X.env = (false, eval e X.env) :: starEach es X.env := by rfl) (hpl : (backTo pos (starEach es X.env)).any (·.1) = false := by rfl) :
    PE X (.Call (.Name x p) (e :: es) [] pos) (tCall sp dvs E t) := by
  intro pins s σ H Q I h
  refine wpAny_Call_Name_kw (ld_glob I hg hm ?_ hdb)
  refine PySem.W.callWith_K (h₀ := X.base) I.ok.mod.kin hk (thn (ha pos pins s σ H _ I h) fun us s1 ⟨vs, H1, I1, r, q⟩ => ⟨I1.kIn, ?_⟩) he hpl
  exact run_fn F hr hb hd hx I1 r q
structure Mk (K : PySem.W.Frag) (C f : Addr) : Prop where
  makes : PySem.W.makesIn K C = true
  init : PySem.W.findIn K (.ref C) "__init__" = some (some (.ref f))
  fn : PySem.W.isFn K (.ref f) = true
  kp : PySem.W.keepIn K (.ref C) = true
end
def PK (X : Cx) (kws : List Keyword) (t : TA) : Prop :=
  ∀ (pos : Pos) (pins : List (Addr × Obj)) (s : Shared) (σ : St) (H : Hp) (Q : List V → Hp → Prop), Inv X pins σ H s → t σ H Q → wpAny (model X.prog X.w) X.A (evalAll ((backToKw pos (keywordEach kws X.env)).map (·.2))) (AP X pins σ Q) X.xe s
section
variable {X : Cx} {CX : CXT} {k : Nat} {f C : Addr} {fd : FuncData} {ps ks : List Str} {sp : Sp} {E : XK} {x m : Str} {p pos apos kpos : Pos} {e o : Expr} {es : List Expr} {kws : List Keyword} {te ta : TE} {t tk : TA} {nm : Option Str}
structure KBinds (K : PySem.W.Frag) (fd : FuncData) (ps ks : List Str) (g : List Value → List Value → List Value) (gV : List V → List V → List V) : Prop where
  to : ∀ (s : Shared) (us ws : List Value), K.In s.heap → (g us ws).length = ps.length → BindsTo s fd ⟨us, ks.zip ws⟩ (ps.zip (g us ws))
  rel : ∀ {vs : List V} {us : List Value} {zs : List V} {ws : List Value}, Vals vs us → Vals zs ws → Vals (gV vs zs) (g us ws)
def tCallK (sp : Sp) (gV : List V → List V → List V) (E : XK) (t tk : TA) : TE := fun σ H Q => t σ H fun vs H1 => tk σ H1 fun zs H2 => sp (gV vs zs) H2 Q E
variable {g : List Value → List Value → List Value} {gV : List V → List V → List V}
end
structure FnScope (N P : List Str) (sc : Scope) : Prop where
  kind : sc.kind = .function
  co : sc.isCoroutine = false
  gen : sc.isGenerator = false
  nd : N.Nodup
  pre : N.take P.length = P
  par : ∀ x ∈ P, sc.names.lookup x = some .local ∨ sc.names.lookup x = some .cell
  nofree : ∀ y ∈ sc.names, y.2 ≠ .free
theorem bindL_out {kindOf : Str → Option NameKind} {x : Str} : ∀ {binds : List (Str × Value)} {m : Str → Option Value}, (∀ v, (x, v) ∉ binds) → bindL kindOf binds m x = m x
  | [], _, _ => rfl
  | (n, v) :: r, m, h => by
    unfold bindL
    rw [bindL_out fun w hw => h w (List.mem_cons_of_mem _ hw)]
    split
    · have : x ≠ n := by rintro rfl; exact h v List.mem_cons_self
      simp [this]
    · rfl
theorem bindC_out {kindOf : Str → Option NameKind} {x : Str} : ∀ {binds : List (Str × Value)} {m : Str → Option Value}, (∀ v, (x, v) ∉ binds) → bindC kindOf binds m x = m x
  | [], _, _ => rfl
  | (n, v) :: r, m, h => by
    unfold bindC
    rw [bindC_out fun w hw => h w (List.mem_cons_of_mem _ hw)]
    split
    · rfl
    · have : x ≠ n := by rintro rfl; exact h v List.mem_cons_self
      simp [this]
theorem bindL_get {kindOf : Str → Option NameKind} {x : Str} {v : Value} : ∀ {P : List Str} {vs : List Value} {i : Nat} {m : Str → Option Value}, P.Nodup → P[i]? = some x → vs[i]? = some v → kindOf x = some .local →
    bindL kindOf (P.zip vs) m x = some v
  | [], _, _, _, _, h, _, _ => by simp at h
  | _ :: _, [], _, _, _, _, h, _ => by simp at h
  | p :: P, w :: vs, 0, m, nd, h1, h2, hk => by
    simp at h1 h2; subst h1; subst h2
    show bindL kindOf ((p, w) :: P.zip vs) m p = _
    unfold bindL
    rw [bindL_out fun v hv => (List.nodup_cons.mp nd).1 (List.of_mem_zip hv).1, if_pos hk]
    simp
  | p :: P, w :: vs, i + 1, m, nd, h1, h2, hk => by
    show bindL kindOf ((p, w) :: P.zip vs) m x = _
    unfold bindL
    exact bindL_get (i := i) (List.nodup_cons.mp nd).2 (by simpa using h1) (by simpa using h2) hk
theorem bindC_get {kindOf : Str → Option NameKind} {x : Str} {v : Value} : ∀ {P : List Str} {vs : List Value} {i : Nat} {m : Str → Option Value}, P.Nodup → P[i]? = some x → vs[i]? = some v → kindOf x ≠ some .local →
    bindC kindOf (P.zip vs) m x = some v
  | [], _, _, _, _, h, _, _ => by simp at h
  | _ :: _, [], _, _, _, _, h, _ => by simp at h
  | p :: P, w :: vs, 0, m, nd, h1, h2, hk => by
    simp at h1 h2; subst h1; subst h2
    show bindC kindOf ((p, w) :: P.zip vs) m p = _
    unfold bindC
    rw [bindC_out fun v hv => (List.nodup_cons.mp nd).1 (List.of_mem_zip hv).1, if_neg hk]
    simp
  | p :: P, w :: vs, i + 1, m, nd, h1, h2, hk => by
    show bindC kindOf ((p, w) :: P.zip vs) m x = _
    unfold bindC
    exact bindC_get (i := i) (List.nodup_cons.mp nd).2 (by simpa using h1) (by simpa using h2) hk
def start (N : List Str) (vs : List V) : St := vs.map some ++ List.replicate (N.length - vs.length) none
def cxOf (CX : CXT) (P : Program) (w : World) (K : PySem.W.Frag) (mg : Str → Option Value) (base : Heap) (N : List Str) (qual : Str) (scope : Scope) (f : Addr) (cd : Value) (A : Around) (outer : List Env) (s : Shared) (H : Hp) (E : XK) : Cx where
  prog := P
  w := w
  K := K
  mg := mg
  base := base
  A := A.deeper (envOfC qual scope s.heap.objs.size f cd)
  N := N
  s₀ := s
  H₀ := H
  env := envOfC qual scope s.heap.objs.size f cd
  outer := outer
  stack := envOfC qual scope s.heap.objs.size f cd :: outer
  ex := []
  calm := true
  fn := fun _ => true
  pn := []
  xe := fun e s' => wpAny (model P w) (A.deeper (envOfC qual scope s.heap.objs.size f cd)) (leaving (envOfC qual scope s.heap.objs.size f cd) e) (fun _ s'' => CX outer H s E e s'') (fun e' s'' => CX outer H s E e' s'') s'
theorem cell_has {sc : Scope} {n : Nat} {x : Str} (h : sc.names.lookup x = some .cell) : ∃ c, (cellsFrom n sc.names []).lookup x = some c := by
  have q := PySem.W.cellsFrom_some sc.names n [] (.inl h)
  exact Option.isSome_iff_exists.mp q
theorem inv_start {CX : CXT} {P : Program} {w : World} {K : PySem.W.Frag} {mg : Str → Option Value} {base : Heap} {N ps : List Str} {qual : Str} {scope : Scope} {f : Addr} {cd : Value} {A : Around} {outer : List Env} {s s1 : Shared} {H : Hp} {E : XK} {us : List Value} {vs : List V}
    (S : FnScope N ps scope) (hd : A.handled = none) (e0 : Env0 P w K mg base A outer s H) (hl : vs.length = ps.length) (r : Vals vs us)
    (x : InCallC s s.heap.objs.size (bindL (envOfC qual scope s.heap.objs.size f cd).kindOf (ps.zip us) fun _ => none) (cellsFrom (s.heap.objs.size + 1) scope.names []) (bindC (envOfC qual scope s.heap.objs.size f cd).kindOf (ps.zip us) fun _ => none) s1) :
    Inv (cxOf CX P w K mg base N qual scope f cd A outer s H E) [] (start N vs) H s1 := by
  have hpl : ps.length ≤ N.length := by have := congrArg List.length S.pre; rw [List.length_take] at this; (first | lia | omega)
  obtain ⟨h1, tk, rfl, hk⟩ := x.done
  have noA : ∀ b : Addr, b ∉ (cxOf CX P w K mg base N qual scope f cd A outer s H E).ex := fun b z => absurd (show b ∈ ([] : List Addr) from z) (by simp)
  refine ⟨⟨e0.mod, S.kind, rfl, rfl, Nat.le_refl _, fun y z c h1 h2 => ?_, fun y hy => ?_, fun y c _ h => ?_, fun _ => hd, Around.frames_deeper e0.frames, .inr ⟨rfl, rfl⟩, fun b z => absurd z (noA b), e0.bs, e0.bsz, fun b _ _ => noA b, fun b z => absurd z (noA b), e0.funs, e0.frf⟩,
    rfl, e0.bare, Un.kept hk, ⟨_, x.toInCall.ns, fun i y v h1 h2 h3 => ?_⟩, fun y c h => ⟨_, x.cell y c h⟩, e0.hok.fresh (Nat.le_refl _), fun y c h => ?_, fun p hp => absurd (show p ∈ ([] : List (Addr × Obj)) from hp) (by simp), e0.hok.kept hk, ?_⟩
  · exact name_of_addr x.apart (PySem.mem_of_lookup h1) (PySem.mem_of_lookup h2)
  · have hy : scope.names.lookup y = some .cell ∨ scope.names.lookup y = some .free := hy
    rcases hy with hy | hy
    · exact cell_has hy
    · exact absurd rfl (S.nofree _ (PySem.mem_of_lookup hy))
  · exact Nat.le_of_lt (x.above y c (PySem.mem_of_lookup h))
  · have hi : i < vs.length := by
      unfold start at h2
      by_cases hi : i < vs.length
      · exact hi
      · rw [List.getElem?_append_right (by simpa using hi)] at h2
        rw [List.getElem?_replicate] at h2
        split at h2 <;> cases h2
    have ha : vs[i]? = some v := by
      unfold start at h2
      rw [List.getElem?_append_left (by simpa using hi), List.getElem?_map] at h2
      cases e : vs[i]? with
      | none => rw [e] at h2; cases h2
      | some a => rw [e] at h2; cases h2; rfl
    obtain ⟨u, hu, rv⟩ := r.get ha
    have hp : ps[i]? = some y := by
      rw [← S.pre, List.getElem?_take_of_lt (by (first | lia | omega))]; exact h1
    have ndP : ps.Nodup := by rw [← S.pre]; exact S.nd.sublist (List.take_sublist _ _)
    refine ⟨u, rv, ?_⟩
    rcases S.par y (List.mem_of_getElem? hp) with k | k
    · exact .inl ⟨k, bindL_get ndP hp hu k⟩
    · obtain ⟨c, e⟩ := cell_has (n := s.heap.objs.size + 1) k
      refine .inr ⟨.inl k, c, e, ?_⟩
      have q := x.cell y c e
      rw [bindC_get ndP hp hu (by show scope.names.lookup y ≠ _; rw [k]; decide)] at q
      exact q
  · exact e0.hok.fresh (Nat.le_of_lt (x.above y c (PySem.mem_of_lookup h)))
  · unfold start
    show _ = N.length
    rw [List.length_append, List.length_map, List.length_replicate]
    (first | lia | omega)
theorem fn_of {CX : CXT} {P : Program} {w : World} {K : PySem.W.Frag} {mg : Str → Option Value} {base : Heap} {k : Nat} {f : Addr} {name qual : Str} {params : Arguments} {body : List Stmt} {scope : Scope} {dV kV doc pm cdv ct oc : Value} {an od : Option Addr}
    {osl : Array (Option Value)} {N ps : List Str} {sp : Sp} (lk : K.lookup f = some ⟨oc, od, .func (PySem.W.fnOf name qual params body scope dV kV doc pm an cdv ct), osl⟩) (hcd : PySem.W.codeIn K cdv qual = true) (S : FnScope N ps scope)
    (len : ∀ vs H Q E, sp vs H Q E → vs.length = ps.length)
    (hbody : ∀ (A : Around) (outer : List Env) (s : Shared) (H : Hp) (vs : List V) (Q : VK) (E : XK), Room k (A.deeper (envOfC qual scope s.heap.objs.size f cdv)) → sp vs H Q E →
      ∃ t, PSs (cxOf CX P w K mg base N qual scope f cdv A outer s H E) body t ∧ t { nx := fun _ H' => Q .non H', rt := Q } (start N vs) H) :
    FnOk P w K mg base CX (k + 1) f (PySem.W.fnOf name qual params body scope dV kV doc pm an cdv ct) ps sp := by
  refine ⟨len, fun A outer s H args us vs Q E hr e0 hb r hsp => ?_⟩
  have hl := len _ _ _ _ hsp
  have KX : K.In s.heap := e0.mod.kin.keeps fun b o e => (e0.bs b o e).1
  have lim : s.heap.NoLimit := e0.mod.nolimit.keeps fun b o e => (e0.bs b o e).1
  have hkind : ∀ y ∈ ps.zip us, scope.names.lookup y.1 = some .local ∨ (scope.names.lookup y.1 = some .cell ∧ ((cellsFrom (s.heap.objs.size + 1) scope.names []).lookup y.1).isSome = true) := fun ⟨n, v⟩ hy => by
    rcases S.par n (List.of_mem_zip hy).1 with q | q
    · exact .inl q
    · exact .inr ⟨q, PySem.W.cellsFrom_some _ _ _ (.inl q)⟩
  refine codeAny_call_function hr.depth (KX _ _ lk) rfl S.co S.gen rfl (PySem.W.codeRec_of KX hcd) (hb _ _ _ _ ?_)
  refine wpAny_newFunctionEnv_cells S.kind hkind fun env he s1 x => ?_
  subst he
  refine ⟨lim.keeps x.toInCall.keep, codeAny_func ?_⟩
  obtain ⟨t, ht, hq⟩ := hbody A outer s H vs Q E (hr.deeper _) hsp
  have I : Inv (cxOf CX P w K mg base N qual scope f cdv A outer s H E) [] (start N vs) H s1 := inv_start S hr.hd e0 hl r x
  refine wpAny_mono (ht [] s1 (start N vs) H _ I hq) (fun fl s' hs => ?_) fun e s' hs => hs
  have fin : ∀ {σ' : St} {H' : Hp} {v : V} {u : Value}, Inv (cxOf CX P w K mg base N qual scope f cdv A outer s H E) [] σ' H' s' → RelV v u → Q v H' → CE outer P w H s Q u s' :=
    fun {σ' H' v u} J rv q => ⟨v, H', J.os, J.bare, J.base, J.hok, rv, q⟩
  cases fl with
  | ret u =>
    obtain ⟨v, σ', H', J, rv, q⟩ := hs
    exact fin J rv q
  | next =>
    obtain ⟨σ', H', J, q⟩ := hs
    exact fin (v := V.non) (u := Value.none) J rfl q
  | brk =>
    obtain ⟨_, _, _, q⟩ := hs
    exact False.elim q
  | cont =>
    obtain ⟨_, _, _, q⟩ := hs
    exact False.elim q
end L2
namespace L2
open PySem PySem.Spec PyProof.Rows
section
variable {X : Cx} {x : Str} {p pos : Pos} {e : Expr} {es : List Expr} {t : TA} {id T : String} {r : List V → Hp → VK → Prop}
def tCB (r : List V → Hp → VK → Prop) (t : TA) : TE := fun σ H Q => t σ H fun vs H1 => r vs H1 Q
theorem pe_callB (hc : CallR X (.builtin id) r) (hg : Gl X x) (hm : X.mg x = none) (hv : bootBuiltins x = some (.builtin id)) (ha : PA X (e :: es) t) (hn : x ≠ "__name__" := by decide) (hdb : (x == ("__debug__" : Str)) = false := by decide)
    (he : starEach (e :: es) X.env = (false, eval e X.env) :: starEach es X.env := by rfl) (hpl : (backTo pos (starEach es X.env)).any (·.1) = false := by rfl) : PE X (.Call (.Name x p) (e :: es) [] pos) (tCB r t) := by
  intro pins s σ H Q I h
  refine wpAny_Call_Name_kw (ld_blt I hg hm hv ?_ hn hdb)
  exact PyProof.Rows.callWith_builtin1 (thn (ha pos pins s σ H _ I h) fun us s1 ⟨vs, H1, I1, r1, q1⟩ => hc pins s1 σ H1 vs us Q I1 r1 q1) he hpl
theorem pe_callTy (hc : CallR X (.type T) r) (hg : Gl X x) (hm : X.mg x = none) (hv : bootBuiltins x = some (.type T)) (ha : PA X (e :: es) t) (hn : x ≠ "__name__" := by decide) (hdb : (x == ("__debug__" : Str)) = false := by decide)
    (he : starEach (e :: es) X.env = (false, eval e X.env) :: starEach es X.env := by rfl) (hpl : (backTo pos (starEach es X.env)).any (·.1) = false := by rfl) : PE X (.Call (.Name x p) (e :: es) [] pos) (tCB r t) := by
  intro pins s σ H Q I h
  refine wpAny_Call_Name_kw (ld_blt I hg hm hv ?_ hn hdb)
  exact PyProof.Rows.callWith_type1 (thn (ha pos pins s σ H _ I h) fun us s1 ⟨vs, H1, I1, r1, q1⟩ => hc pins s1 σ H1 vs us Q I1 r1 q1) he hpl
end
end L2
namespace HT
open PySem PyProof.Rows
def lexLt : List Int → List Int → Bool
  | [], [] => false
  | [], _ :: _ => true
  | _ :: _, [] => false
  | x :: xs, y :: ys => if x = y then lexLt xs ys else decide (x < y)
section
open PySem.SeqAt
open PySem.AutoSeq1 (wpAny_loadPart')
open PySem.MeetsSeq PySem.MeetsSeq2 PySem.MeetsSeq3
end
section
variable {prog : Program} {w : World} {A : Around} {E : Value → Shared → Prop} {s : Shared}
theorem cat_tup {t b : Addr} {vs ws : List Value} {Q : Value → Shared → Prop} (ht : IsTup s.heap t vs.toArray) (hb : IsTup s.heap b ws.toArray) (hv : vs ≠ [])
    (h1 : ws = [] → Q (.ref t) s) (h2 : ws ≠ [] → Q (.ref s.heap.objs.size) { s with heap := s.heap.push { cls := .type "tuple", data := .seq (vs ++ ws).toArray } })
    (hsz : vs.length + ws.length ≤ sizeLine) : wpAny (model prog w) A (binaryOp .Add (.ref t) (.ref b)) Q E s := by
  obtain ⟨⟨cls, dd, data, sl⟩, ho, hc, n, hd⟩ := id ht
  obtain ⟨⟨cls2, dd2, data2, sl2⟩, ho2, hc2, n2, hd2⟩ := id hb
  simp only at hc hd hc2 hd2
  subst hc hd hc2 hd2
  have e : vs.toArray ++ ws.toArray = (vs ++ ws).toArray := by simp
  by_cases hw : ws = []
  · exact concat_meets ⟨_, ho, rfl⟩ ⟨_, ho2, rfl⟩ noFill_tuple_add seq_tuple_add PySem.F.slot_tuple_add PySem.F.entry_tuple_add (PySem.F.args_tuple_add_2 _ _)
      (tuple_addW1 t b vs.toArray ws.toArray n n2 dd dd2 sl sl2 (by simpa using hv) (by simp [hw])) ⟨ho, ho2, h1 hw⟩
  · refine concat_meets ⟨_, ho, rfl⟩ ⟨_, ho2, rfl⟩ noFill_tuple_add seq_tuple_add PySem.F.slot_tuple_add PySem.F.entry_tuple_add (PySem.F.args_tuple_add_2 _ _)
      (tuple_addW2 t b vs.toArray ws.toArray n n2 dd dd2 sl sl2 (by simpa using hv) (by simpa using hw) (by rw [List.size_toArray, List.size_toArray]; exact hsz)) ⟨ho, ho2, ?_⟩
    rw [e]
    exact h2 hw
def sIx (n d : Nat) : Option Int → Nat
  | none => d
  | some v => if v < 0 then (v + (n : Int)).toNat else min v.toNat n
theorem sIx_nat (n d k : Nat) : sIx n d (some (k : Int)) = min k n := by
  show (if (k : Int) < 0 then ((k : Int) + (n : Int)).toNat else min (k : Int).toNat n) = min k n
  rw [if_neg (by (first | lia | omega)), Int.toNat_natCast]
theorem sIx_le (n d : Nat) (hd : d ≤ n) (o : Option Int) : sIx n d o ≤ n := by
  cases o with
  | none => exact hd
  | some v =>
    show (if v < 0 then (v + (n : Int)).toNat else min v.toNat n) ≤ n
    by_cases hv : v < 0
    · rw [if_pos hv]; (first | lia | omega)
    · rw [if_neg hv]; exact Nat.min_le_right _ _
theorem clip_eq (v : Int) (n d : Nat) : (if v < 0 then max (v + (n : Int)) 0 else min v (n : Int)) = ((sIx n d (some v) : Nat) : Int) := by
  show (if v < 0 then max (v + (n : Int)) 0 else min v (n : Int)) = (((if v < 0 then (v + (n : Int)).toNat else min v.toNat n) : Nat) : Int)
  by_cases hv : v < 0
  · simp only [if_pos hv]; (first | lia | omega)
  · simp only [if_neg hv]; (first | lia | omega)
theorem adjust_gen (lo hi : Option Int) (n : Nat) : Builtin.Slice.sliceAdjust lo hi 1 (n : Int) = (((sIx n 0 lo : Nat) : Int), ((sIx n n hi : Nat) : Int)) := by
  have h1 : ¬ ((1 : Int) < 0) := by (first | lia | omega)
  unfold Builtin.Slice.sliceAdjust
  simp only [h1, if_false]
  refine Prod.ext ?_ ?_
  · cases lo with
    | none => rfl
    | some v => exact clip_eq v n 0
  · cases hi with
    | none => rfl
    | some v => exact clip_eq v n n
theorem places_gen (i j : Nat) : Builtin.Slice.slicePlaces (i : Int) (j : Int) 1 = j - i := by
  unfold Builtin.Slice.slicePlaces
  have h1 : (1 : Int) > 0 := by (first | lia | omega)
  simp only [h1, if_true, Int.ediv_one]
  split <;> (first | lia | omega)
theorem slicePart_ {v : Value} {o : Option Int} {Q : Option Int → Shared → Prop} (p : IsPart v o) (h : Q o s) : wpAny (model prog w) A (Builtin.Slice.slicePartIndex v) Q E s := by
  cases p with
  | none => exact slicePart_none h
  | int i t => exact slicePart_int h
theorem sliceApplied_gen {sl : Addr} {vl vu : Value} {lo hi : Option Int} {n : Nat} {Q : Int × Int × Nat → Shared → Prop} (hs : s.heap.IsSliceOf sl vl vu .none) (pl : IsPart vl lo) (pu : IsPart vu hi)
    (h : Q (((sIx n 0 lo : Nat) : Int), 1, sIx n n hi - sIx n 0 lo) s) : wpAny (model prog w) A (Builtin.Slice.sliceApplied (.ref sl) (pure (n : Int))) Q E s := by
  obtain ⟨os, hos, hcs, hds⟩ := id hs
  unfold Builtin.Slice.sliceApplied Builtin.Slice.sliceFields
  refine wpAny_bind (wpAny_bind (wpAny_field hos hds (x := vl) rfl (wpAny_bind (wpAny_field hos hds (x := vu) rfl (wpAny_bind (wpAny_field hos hds (x := .none) rfl (wpAny_pure ?_)))))))
  refine wpAny_bind (slicePart_none ?_)
  show wpAny _ _ (if ((1 : Int) == 0) = true then _ else _) _ _ s
  rw [if_neg (by decide)]
  refine wpAny_bind (slicePart_ pl (wpAny_bind (slicePart_ pu (wpAny_bind (wpAny_pure ?_)))))
  show wpAny _ _ (match Builtin.Slice.sliceAdjust lo hi 1 (n : Int) with | (lo, hi) => pure (lo, (1 : Int), Builtin.Slice.slicePlaces lo hi 1)) _ _ s
  rw [adjust_gen lo hi n]
  show wpAny _ _ (pure (((sIx n 0 lo : Nat) : Int), (1 : Int), Builtin.Slice.slicePlaces ((sIx n 0 lo : Nat) : Int) ((sIx n n hi : Nat) : Int) 1)) _ _ s
  rw [places_gen]
  exact wpAny_pure h
theorem pick_gen (xs : Array Value) (i k : Nat) : ((List.range k).filterMap fun (m : Nat) => xs[((i : Int) + (m : Int) * 1).toNat]?).toArray = ((xs.toList.drop i).take k).toArray := by
  have e : (fun (m : Nat) => xs[((i : Int) + (m : Int) * 1).toNat]?) = fun m => xs[i + m]? := by
    funext m
    have : ((i : Int) + (m : Int) * 1).toNat = i + m := by (first | lia | omega)
    rw [this]
  rw [e]
  have := pick_run xs i k
  rw [List.filterMap_map] at this
  have e2 : ((fun x => xs[x]?) ∘ fun x => i + x) = fun m => xs[i + m]? := rfl
  rw [e2] at this
  rw [this]
theorem getItem_tuple_cut {t sl : Addr} {items : Array Value} {vl vu : Value} {lo hi : Option Int} {Q : Value → Shared → Prop} (ht : IsTup s.heap t items) (hs : s.heap.IsSliceOf sl vl vu .none) (pl : IsPart vl lo) (pu : IsPart vu hi)
    (hw : ¬ (sIx items.size 0 lo = 0 ∧ sIx items.size items.size hi = items.size))
    (h : Q (.ref s.heap.objs.size) { s with heap := s.heap.push { cls := .type "tuple", data := .seq ((items.toList.drop (sIx items.size 0 lo)).take (sIx items.size items.size hi - sIx items.size 0 lo)).toArray } })
    (hsz : items.size ≤ sizeLine) : wpAny (model prog w) A (getItem (.ref t) (.ref sl)) Q E s := by
  have htake : sizeOk (.seq ((items.toList.drop (sIx items.size 0 lo)).take (sIx items.size items.size hi - sIx items.size 0 lo)).toArray) := by
    show ((items.toList.drop (sIx items.size 0 lo)).take (sIx items.size items.size hi - sIx items.size 0 lo)).toArray.size ≤ sizeLine
    rw [List.size_toArray, List.length_take, List.length_drop, Array.length_toList]
    (first | lia | omega)
  have hj : sIx items.size items.size hi ≤ items.size := sIx_le _ _ (Nat.le_refl _) hi
  obtain ⟨os, hos, hcs, hds⟩ := id hs
  have hTs : s.TypeIs (.ref sl) "slice" := ⟨os, hos, hcs⟩
  unfold getItem
  try with_reducible refine wpAny_holding ?_
  first | refine wpAny_bind (wpAny_pure ?_) | skip
  refine wpAny_bind (wpAny_sequenceKey ht.typeIs (by decide) ?_)
  refine wpAny_bind (wpAny_callSpecial?_slot (name := Str.ofString "__getitem__") ht.typeIs PyProof.Rows.slot_tuple_getitem
    (wpAny_call_entry PyProof.Rows.slot_tuple_getitem ht.typeIs entry_tuple_getitem ?_ (args_tuple_getitem _ _)))
  show wpAny _ _ (Builtin.Tuple.tupleItemsOf (.ref t) >>= _) _ _ s
  refine wpAny_bind (tupleItemsOf_ ht ?_)
  refine wpAny_bind (wpAny_typeOf hTs ?_)
  rw [if_pos (by decide)]
  refine wpAny_bind (sliceApplied_gen hs pl pu ?_)
  have hno : ¬ ((((sIx items.size 0 lo : Nat) : Int) == 0 && (1 : Int) == 1 && (sIx items.size items.size hi - sIx items.size 0 lo) == items.size) = true) := by
    intro q
    rw [Bool.and_eq_true, Bool.and_eq_true] at q
    have q1 : ((sIx items.size 0 lo : Nat) : Int) = 0 := eq_of_beq q.1.1
    have q2 : sIx items.size items.size hi - sIx items.size 0 lo = items.size := eq_of_beq q.2
    exact hw ⟨by (first | lia | omega), by (first | lia | omega)⟩
  show wpAny _ _ (if (((sIx items.size 0 lo : Nat) : Int) == 0 && (1 : Int) == 1 && (sIx items.size items.size hi - sIx items.size 0 lo) == items.size) = true then _ else _) _ _ s
  rw [if_neg hno, pick_gen]
  first
    | exact wpAny_bind (m := Builtin.Tuple.tupleExact _) (wpAny_newObj_type (wpAny_pure ⟨_, rfl, wpAny_pure h⟩) htake)
    | exact wpAny_bind (m := Builtin.Tuple.tupleExact _) (wpAny_newObj_type (wpAny_bind (wpAny_pure (wpAny_pure ⟨_, rfl, wpAny_pure h⟩))) htake)
    | exact wpAny_bind (wpAny_bind (m := Builtin.Tuple.tupleExact _) (wpAny_newObj_type (wpAny_pure (wpAny_pure ⟨_, rfl, wpAny_pure h⟩)) htake))
    | exact wpAny_bind (wpAny_bind (m := Builtin.Tuple.tupleExact _) (wpAny_newObj_type (wpAny_pure ⟨_, rfl, wpAny_pure h⟩) htake))
end
end HT
namespace L2
open PySem PySem.Spec PyProof.Rows
abbrev TO := St → Hp → (Option Int → Hp → Prop) → Prop
def PO (X : Cx) (e : Option Expr) (t : TO) : Prop :=
  ∀ (pins : List (Addr × Obj)) (s : Shared) (σ : St) (H : Hp) (Q : Option Int → Hp → Prop), Inv X pins σ H s → t σ H Q →
    wpAny (model X.prog X.w) X.A (evalPart e X.env) (fun u s' => ∃ o H', Inv X pins σ H' s' ∧ IsPart u o ∧ Q o H') X.xe s
def tNoPart : TO := fun _ H Q => Q none H
def tPart (t : TE) : TO := fun σ H Q => t σ H fun x H1 => ∃ i, x = .int i ∧ Q (some i) H1
section
variable {X : Cx} {e : Expr} {te : TE} {lo hi : Option Expr} {tl th : TO} {pos p2 : Pos}
theorem po_none : PO X none tNoPart := by
  intro pins s σ H Q I h
  rw [evalPart_none]
  exact wpAny_pure ⟨none, H, I, .none, h⟩
theorem po_some (h : PE X e te) : PO X (some e) (tPart te) := by
  intro pins s σ H Q I hw
  rw [evalPart_some]
  refine thn (h pins s σ H _ I hw) fun u s1 ⟨x, H1, I1, r1, q1⟩ => ?_
  obtain ⟨i, rfl, q⟩ := q1
  obtain ⟨t, rfl⟩ := r1
  exact ⟨some i, H1, I1, .int i t, q⟩
def SlR (X : Cx) (r : V → Option Int → Option Int → Hp → VK → Prop) : Prop :=
  ∀ (pins : List (Addr × Obj)) (s : Shared) (σ : St) (H : Hp) (x : V) (v vl vu : Value) (lo hi : Option Int) (sl : Addr) (Q : VK), Inv X pins σ H s → RelV x v → s.heap.IsSliceOf sl vl vu .none → IsPart vl lo → IsPart vu hi → r x lo hi H Q →
    ∃ T id, typeLookup (.type T) "__getitem__" = pure (some (.builtin id)) ∧ s.TypeIs v T ∧ wpAny (model X.prog X.w) X.A (getItem v (.ref sl)) (EP X pins σ Q) X.xe s
theorem SlR.or {r r' : V → Option Int → Option Int → Hp → VK → Prop} (h : SlR X r) (h' : SlR X r') : SlR X (fun x lo hi H Q => r x lo hi H Q ∨ r' x lo hi H Q) := by
  intro pins s σ H x v vl vu lo hi sl Q I rx hs pl pu q
  rcases q with q | q
  · exact h pins s σ H x v vl vu lo hi sl Q I rx hs pl pu q
  · exact h' pins s σ H x v vl vu lo hi sl Q I rx hs pl pu q
def tSl (r : V → Option Int → Option Int → Hp → VK → Prop) (te : TE) (tl th : TO) : TE := fun σ H Q => te σ H fun x H1 => tl σ H1 fun l H2 => th σ H2 fun u H3 => r x l u H3 Q
theorem pe_slice {r : V → Option Int → Option Int → Hp → VK → Prop} (hr : SlR X r) (he : PE X e te) (hl : PO X lo tl) (hu : PO X hi th) : PE X (.Subscript e (.Slice lo hi none p2) pos) (tSl r te tl th) := by
  intro pins s σ H Q I h
  refine Subscript_ (thn (he pins s σ H _ I h) fun v s1 ⟨x, H1, I1, r1, q1⟩ => ?_)
  refine wpAny_Slice (thn (hl pins s1 σ H1 _ I1 q1) fun vl s2 ⟨l, H2, I2, pl, q2⟩ => thn (hu pins s2 σ H2 _ I2 q2) fun vu s3 ⟨u, H3, I3, pu, q3⟩ => ?_)
  rw [evalPart_none]
  refine wpAny_pure ?_
  have I4 : Inv X pins σ H3 { s3 with heap := s3.heap.push { cls := .type "slice", data := .fields #[vl, vu, .none] } } := I3.kept (t' := s3.toks) fun b ob q => Heap.get?_push_of_some _ q
  obtain ⟨T, id, hT, ht, hg⟩ := hr pins { s3 with heap := s3.heap.push { cls := .type "slice", data := .fields #[vl, vu, .none] } } σ H3 x v vl vu l u s3.heap.objs.size Q I4 r1 (Heap.IsSliceOf.new ..) pl pu q3
  show wpAny (model X.prog X.w) X.A (subscriptTail e (.Slice lo hi none p2) v (.ref s3.heap.objs.size)) (EP X pins σ Q) X.xe { s3 with heap := s3.heap.push { cls := .type "slice", data := .fields #[vl, vu, .none] } }
  exact tail_any (ops := [.ref s3.heap.objs.size, v]) ht hT hg (by with_unfolding_all rfl)
def cutV (xs : List V) (lo hi : Option Int) : List V := (xs.drop (HT.sIx xs.length 0 lo)).take (HT.sIx xs.length xs.length hi - HT.sIx xs.length 0 lo)
theorem cutV_length (xs : List V) (lo hi : Option Int) : (cutV xs lo hi).length ≤ xs.length := by
  unfold cutV
  rw [List.length_take, List.length_drop]
  (first | lia | omega)
def rSlT (K : PySem.W.Frag) : V → Option Int → Option Int → Hp → VK → Prop := fun x lo hi H Q => ∃ a xs, x = .ref a ∧ SqT K H a xs ∧
  ¬ (HT.sIx xs.length 0 lo = 0 ∧ HT.sIx xs.length xs.length hi = xs.length) ∧ ∀ p, H p = none → Q (.ref p) (upd H p (.tup (cutV xs lo hi)))
theorem sl_tup : SlR X (rSlT X.K) := by
  intro pins s σ H x v vl vu lo hi sl Q I rx hs pl pu h
  obtain ⟨a, xs, rfl, hx, hw, q⟩ := h
  cases rx
  obtain ⟨its, r, ht, hz⟩ := I.tuple hx
  have hlen : its.toArray.size = xs.length := by rw [List.size_toArray]; exact r.length.symm
  refine ⟨"tuple", _, PyProof.Rows.slot_tuple_getitem.lookup, ht.typeIs, ?_⟩
  refine HT.getItem_tuple_cut ht hs pl pu (by rw [hlen]; exact hw) ?_ (by rw [hlen]; exact hz)
  rw [hlen]
  refine ⟨.ref s.heap.objs.size, _, I.laid (t' := s.toks) (o := .tup (cutV xs lo hi)) (fun b ob q => Heap.get?_push_of_some _ q) (Nat.le_refl _) ?_, rfl, q _ (I.hok.fresh (Nat.le_refl _))⟩
  exact ⟨Nat.le_trans (cutV_length xs lo hi) hz, _, (r.drop (HT.sIx xs.length 0 lo)).take (HT.sIx xs.length xs.length hi - HT.sIx xs.length 0 lo), IsTup.new _ _⟩
def rLtT (K : PySem.W.Frag) : R2 := fun x y H Q => ∃ a b ns ms, x = .ref a ∧ y = .ref b ∧ SqT K H a (ns.map V.int) ∧ SqT K H b (ms.map V.int) ∧ Q (.bl (HT.lexLt ns ms)) H
def rCatT (K : PySem.W.Frag) : R2 := fun x y H Q => ∃ a b xs ys, x = .ref a ∧ y = .ref b ∧ SqT K H a xs ∧ SqT K H b ys ∧ xs ≠ [] ∧ xs.length + ys.length ≤ sizeLine ∧
  (ys = [] → Q (.ref a) H) ∧ (ys ≠ [] → ∀ p, H p = none → Q (.ref p) (upd H p (.tup (xs ++ ys))))
theorem Vals.nil_iff {xs : List V} {us : List Value} (r : Vals xs us) : us = [] ↔ xs = [] := by
  cases r with
  | nil => simp
  | cons _ _ => simp
theorem op_catT : OpR X (binaryOp .Add) (rCatT X.K) := by
  intro pins s σ H x y v u Q I rx ry h
  obtain ⟨a, b, xs, ys, rfl, rfl, ha, hb, hx, hz, q1, q2⟩ := h
  cases rx
  cases ry
  obtain ⟨its, r1, p1, _⟩ := I.tuple ha
  obtain ⟨its2, r2, p2, _⟩ := I.tuple hb
  refine HT.cat_tup p1 p2 (fun z => hx (r1.nil_iff.mp z)) (fun z => ⟨.ref a, H, I, rfl, q1 (r2.nil_iff.mp z)⟩) (fun z => ?_) (by rw [← r1.length, ← r2.length]; exact hz)
  refine ⟨.ref s.heap.objs.size, _, I.laid (t' := s.toks) (o := .tup (xs ++ ys)) (fun b ob q => Heap.get?_push_of_some _ q) (Nat.le_refl _) ?_, rfl, q2 (fun w => z (r2.nil_iff.mpr w)) _ (I.hok.fresh (Nat.le_refl _))⟩
  exact ⟨by rw [List.length_append]; exact hz, _, r1.append r2, IsTup.new _ _⟩
end
end L2
namespace L2
open PySem PySem.Spec PyProof.Rows
def ixN (n : Nat) (i : Int) : Option Nat := if 0 ≤ i then (if i < n then some i.toNat else none) else if -(n : Int) ≤ i then some (i + n).toNat else none
def atI {α : Type} (xs : List α) (i : Int) : Option α := (ixN xs.length i).bind fun j => xs[j]?
theorem ixN_seq {n : Nat} {i : Int} {j : Nat} (h : ixN n i = some j) : seqIndex? i n = some j ∧ j < n ∧ -(n : Int) ≤ i ∧ i < n := by
  unfold ixN at h
  by_cases h0 : 0 ≤ i
  · rw [if_pos h0] at h
    by_cases h1 : i < n
    · rw [if_pos h1] at h
      have e : i.toNat = j := Option.some.inj h
      exact ⟨by rw [seqIndex_of h0 h1, e], by (first | lia | omega), by (first | lia | omega), h1⟩
    · rw [if_neg h1] at h; cases h
  · rw [if_neg h0] at h
    by_cases h1 : -(n : Int) ≤ i
    · rw [if_pos h1] at h
      have e : (i + n).toNat = j := Option.some.inj h
      exact ⟨by rw [seqIndex_neg (by (first | lia | omega)) h1, e], by (first | lia | omega), h1, by (first | lia | omega)⟩
    · rw [if_neg h1] at h; cases h
theorem atI_get {α : Type} {xs : List α} {i : Int} {v : α} (h : atI xs i = some v) : ∃ j, seqIndex? i xs.length = some j ∧ xs[j]? = some v ∧ j < xs.length ∧ -(xs.length : Int) ≤ i ∧ i < xs.length := by
  unfold atI at h
  cases e : ixN xs.length i with
  | none => rw [e] at h; cases h
  | some j =>
    rw [e] at h
    obtain ⟨h1, h2, h3, h4⟩ := ixN_seq e
    exact ⟨j, h1, h, h2, h3, h4⟩
theorem atI_nat {α : Type} {xs : List α} {j : Nat} {v : α} (h : xs[j]? = some v) : atI xs (j : Int) = some v := by
  have hj : j < xs.length := (List.getElem?_eq_some_iff.mp h).1
  have e : ixN xs.length (j : Int) = some j := by
    unfold ixN
    rw [if_pos (by (first | lia | omega)), if_pos (by (first | lia | omega))]; simp
  unfold atI; rw [e]; exact h
def PlainIx (b : Expr) : Prop := ∀ o i, subscripted b false o i = operate [o, i] (getItem o i)
def IxR (X : Cx) (r : R2) : Prop :=
  ∀ (value slice : Expr) (pins : List (Addr × Obj)) (s : Shared) (σ : St) (H : Hp) (x y : V) (v u : Value) (Q : VK), Inv X pins σ H s → RelV x v → RelV y u → r x y H Q →
    subscripted slice false v u = operate [v, u] (getItem v u) → wpAny (model X.prog X.w) X.A (subscriptTail value slice v u) (EP X pins σ Q) X.xe s
def MtR (X : Cx) (id : String) (r : V → List V → Hp → VK → Prop) : Prop :=
  ∀ (pins : List (Addr × Obj)) (s : Shared) (σ : St) (H : Hp) (x : V) (xs : List V) (v : Value) (us : List Value) (Q : VK), Inv X pins σ H s → RelV x v → Vals xs us → r x xs H Q →
    wpAny (model X.prog X.w) X.A (call (.builtin id) (v :: us)) (EP X pins σ Q) X.xe s
section
variable {X : Cx} {a b : Expr} {ta tb : TE} {pos : Pos}
theorem IxR.or {r r' : R2} (h : IxR X r) (h' : IxR X r') : IxR X (fun x y H Q => r x y H Q ∨ r' x y H Q) := by
  intro value slice pins s σ H x y v u Q I rx ry q hs
  rcases q with q | q
  · exact h value slice pins s σ H x y v u Q I rx ry q hs
  · exact h' value slice pins s σ H x y v u Q I rx ry q hs
theorem MtR.or {id : String} {r r' : V → List V → Hp → VK → Prop} (h : MtR X id r) (h' : MtR X id r') : MtR X id (fun x xs H Q => r x xs H Q ∨ r' x xs H Q) := by
  intro pins s σ H x xs v us Q I rx rs q
  rcases q with q | q
  · exact h pins s σ H x xs v us Q I rx rs q
  · exact h' pins s σ H x xs v us Q I rx rs q
theorem pe_ix {r : R2} (hr : IxR X r) (ha : PE X a ta) (hb : PE X b tb) (hs : PlainIx b) : PE X (.Subscript a b pos) (tOp r ta tb) := by
  intro pins s σ H Q I h
  exact Subscript_ (binT ha hb I h fun v u s2 x y H2 I2 rx ry q => hr a b pins s2 σ H2 x y v u Q I2 rx ry q (hs _ _))
def rIxL (K : PySem.W.Frag) : R2 := fun x y H Q => ∃ p xs i v, x = .ref p ∧ y = .int i ∧ SqL K H p xs ∧ atI xs i = some v ∧ Q v H
def rIxT (K : PySem.W.Frag) : R2 := fun x y H Q => ∃ p xs i v, x = .ref p ∧ y = .int i ∧ SqT K H p xs ∧ atI xs i = some v ∧ Q v H
def rIxS : R2 := fun x y H Q => ∃ z i c, x = .str z ∧ y = .int i ∧ z.length ≤ sizeLine ∧ atI z.cps.toList i = some c ∧ Q (.str ⟨#[c]⟩) H
theorem ix_list : IxR X (rIxL X.K) := by
  intro value slice pins s σ H x y v u Q I rx ry h hs
  obtain ⟨p, xs, i, z, rfl, rfl, hq, he, q⟩ := h
  cases rx
  obtain ⟨t, rfl⟩ := ry
  obtain ⟨its, r, pl, hz⟩ := I.list hq
  obtain ⟨j, h1, h2, h3, h4, h5⟩ := atI_get he
  obtain ⟨w, ew, rw'⟩ := r.get h2
  have hl := r.length
  have hn := line63
  have fin : EP X pins σ Q w s := ⟨z, H, I, rw', q⟩
  by_cases h0 : 0 ≤ i
  · have hj : i.toNat = j := by
      rw [seqIndex_of h0 h5] at h1
      exact Option.some.inj h1
    exact item_listR pl.isList h0 (by (first | lia | omega)) (by rw [hj]; simpa using ew) fin hs
  · have hj : (i + (its.toArray.size : Int)).toNat = j := by
      rw [seqIndex_neg (by (first | lia | omega)) h4] at h1
      rw [List.size_toArray, ← hl]
      exact Option.some.inj h1
    exact subscriptTail_builtinR (x := w) pl.isList.typeIs slot_list_getitem.lookup
      (wpAny_getItem_list_neg (Q := fun r s' => r = w ∧ EP X pins σ Q r s') pl.isList (by (first | lia | omega)) (by rw [List.size_toArray] <;> (first | lia | omega)) (by (first | lia | omega)) (by rw [hj]; simpa using ew) ⟨rfl, fin⟩) hs
theorem ix_tup : IxR X (rIxT X.K) := by
  intro value slice pins s σ H x y v u Q I rx ry h hs
  obtain ⟨p, xs, i, z, rfl, rfl, hq, he, q⟩ := h
  cases rx
  obtain ⟨t, rfl⟩ := ry
  obtain ⟨its, r, pl, hz⟩ := I.tuple hq
  obtain ⟨j, h1, h2, h3, h4, h5⟩ := atI_get he
  obtain ⟨w, ew, rw'⟩ := r.get h2
  have hl := r.length
  have hn := line63
  have fin : EP X pins σ Q w s := ⟨z, H, I, rw', q⟩
  exact subscriptTail_builtinR (x := w) pl.typeIs slot_tuple_getitem.lookup
    (getItem_tuple (j := j) (Q := fun r s' => r = w ∧ EP X pins σ Q r s') pl (by (first | lia | omega)) (by (first | lia | omega)) (by rw [List.size_toArray, ← hl]; exact h1) (by simpa using ew) ⟨rfl, fin⟩) hs
def rIx (K : PySem.W.Frag) : R2 := fun x y H Q => rIxL K x y H Q ∨ rIxT K x y H Q ∨ rIxS x y H Q
theorem Inv.lst {pins : List (Addr × Obj)} {σ : St} {H : Hp} {s : Shared} {p : Addr} {xs : List V} (I : Inv X pins σ H s) (h : H p = some (.lst xs)) :
    ∃ (its : List Value) (n : Nat), Vals xs its ∧ s.heap.get? p = some { cls := .type "list", data := .seq its.toArray n } ∧ xs.length ≤ sizeLine := by
  obtain ⟨z, its, n, r, e⟩ := I.hok p _ h
  exact ⟨its, n, r, e, z⟩
def rSetL : V → V → V → Hp → (Hp → Prop) → Prop := fun o i v H Q => ∃ p xs k j, o = .ref p ∧ i = .int k ∧ H p = some (.lst xs) ∧ ixN xs.length k = some j ∧ Q (upd H p (.lst (xs.set j v)))
theorem slice_bounds (lo hi : Option Int) (n : Nat) : (sliceBounds lo hi none n).1 = ((HT.sIx n 0 lo : Nat) : Int) ∧ (sliceBounds lo hi none n).2.1 = ((HT.sIx n n hi : Nat) : Int) ∧ (sliceBounds lo hi none n).2.2 = 1 := by
  refine ⟨?_, ?_, rfl⟩
  · cases lo with
    | none => simp [sliceBounds, HT.sIx]
    | some i =>
      simp only [sliceBounds, HT.sIx, Option.getD_none, show (1 : Int) > 0 by decide, if_true]
      by_cases h : i < 0
      · simp only [h, if_true] <;> (first | lia | omega)
      · simp only [h, if_false] <;> (first | lia | omega)
  · cases hi with
    | none => simp [sliceBounds, HT.sIx]
    | some i =>
      simp only [sliceBounds, HT.sIx, Option.getD_none, show (1 : Int) > 0 by decide, if_true]
      by_cases h : i < 0
      · simp only [h, if_true] <;> (first | lia | omega)
      · simp only [h, if_false] <;> (first | lia | omega)
theorem slicePick_cut (its : List Value) (lo hi : Option Int) : slicePick its.toArray lo hi none = ((its.drop (HT.sIx its.length 0 lo)).take (HT.sIx its.length its.length hi - HT.sIx its.length 0 lo)).toArray := by
  obtain ⟨h1, h2, h3⟩ := slice_bounds lo hi its.toArray.size
  unfold slicePick
  rw [h1, h2, h3]
  simp only [sliceRange_one, pick_run, List.size_toArray] <;> rfl
def rSlL (K : PySem.W.Frag) : V → Option Int → Option Int → Hp → VK → Prop := fun x lo hi H Q => ∃ a xs, x = .ref a ∧ SqL K H a xs ∧ ∀ p, H p = none → Q (.ref p) (upd H p (.lst (cutV xs lo hi)))
theorem sl_list : SlR X (rSlL X.K) := by
  intro pins s σ H x v vl vu lo hi sl Q I rx hs pl pu h
  obtain ⟨a, xs, rfl, hx, q⟩ := h
  cases rx
  obtain ⟨its, r, ht, hz⟩ := I.list hx
  have hlen := r.length
  refine ⟨"list", _, slot_list_getitem.lookup, ht.isList.typeIs, ?_⟩
  refine wpAny_getItem_list_slice ht.isList hs pl pu .none (by simp) ?_ (by rw [List.size_toArray] <;> (first | lia | omega))
  rw [slicePick_cut, ← hlen]
  refine ⟨.ref s.heap.objs.size, _, I.laid (t' := s.toks) (o := .lst (cutV xs lo hi)) (fun b ob q => Heap.get?_push_of_some _ q) (Nat.le_refl _) ?_, rfl, q _ (I.hok.fresh (Nat.le_refl _))⟩
  exact ⟨Nat.le_trans (cutV_length xs lo hi) hz, _, 0, (r.drop (HT.sIx xs.length 0 lo)).take (HT.sIx xs.length xs.length hi - HT.sIx xs.length 0 lo), Heap.get?_push_size _ rfl⟩
def flatV : V → Bool
  | .non => true
  | .bl _ => true
  | .int _ => true
  | .str _ => true
  | _ => false
def eqV : V → V → Bool
  | .non, .non => true
  | .bl a, .bl b => a == b
  | .bl a, .int b => (if a then 1 else 0) == b
  | .int a, .bl b => a == (if b then 1 else 0)
  | .int a, .int b => a == b
  | .str a, .str b => a == b
  | _, _ => false
def eqU (x : V) (u : Value) : Bool := match u with
  | .none => eqV .non x
  | .bool b => eqV (.bl b) x
  | .int i _ => eqV (.int i) x
  | .str z _ => eqV (.str z) x
  | _ => false
def inV (x : V) (xs : List V) : Bool := xs.any fun y => eqV y x
def rIn (K : PySem.W.Frag) (neg : Bool) : R2 := fun x y H Q => ∃ p xs, y = .ref p ∧ (SqL K H p xs ∨ SqT K H p xs) ∧ flatV x = true ∧ xs.all flatV = true ∧ Q (.bl (if neg then !inV x xs else inV x xs)) H
theorem call_len_seq : CallR X (.builtin "len") (fun xs H Q => ∃ p ys, xs = [.ref p] ∧ (SqL X.K H p ys ∨ SqT X.K H p ys) ∧ Q (.int ys.length) H) := by
  intro pins s σ H xs us Q I r h
  obtain ⟨p, ys, rfl, hq, q⟩ := h
  obtain ⟨u, rfl, rx⟩ := vals1 r
  cases rx
  have hn := line63
  rcases hq with hq | hq
  · obtain ⟨its, r', pl, hz⟩ := I.list hq
    have hlen := r'.length
    exact Calls.call_len_list pl.isList (by simp only [List.size_toArray] <;> (first | lia | omega)) ⟨.int ys.length, H, I.tok _, ⟨s.toks + 1, by rw [List.size_toArray, hlen]⟩, q⟩
  · obtain ⟨its, r', pl, hz⟩ := I.tuple hq
    have hlen := r'.length
    exact len_tuple pl (by simp only [List.size_toArray] <;> (first | lia | omega)) ⟨.int ys.length, H, I.tok _, ⟨s.toks + 1, by rw [List.size_toArray, hlen]⟩, q⟩
theorem CallR.or {f : Value} {r r' : List V → Hp → VK → Prop} (h : CallR X f r) (h' : CallR X f r') : CallR X f (fun xs H Q => r xs H Q ∨ r' xs H Q) := by
  intro pins s σ H xs us Q I rs q
  rcases q with q | q
  · exact h pins s σ H xs us Q I rs q
  · exact h' pins s σ H xs us Q I rs q
theorem call_tuple_of : CallR X (.type "tuple") (fun xs H Q => ∃ p ys, xs = [.ref p] ∧ ((SqL X.K H p ys ∧ ∀ l, H l = none → Q (.ref l) (upd H l (.tup ys))) ∨ (SqT X.K H p ys ∧ Q (.ref p) H))) := by
  intro pins s σ H xs us Q I r h
  obtain ⟨p, ys, rfl, h⟩ := h
  obtain ⟨u, rfl, rx⟩ := vals1 r
  cases rx
  rcases h with ⟨hq, q⟩ | ⟨hq, q⟩
  · obtain ⟨its, r', pl, hz⟩ := I.list hq
    have hlen := r'.length
    refine call_tuple_list pl.isList (fun h' kp => ?_) (by simp only [List.size_toArray] <;> (first | lia | omega))
    have I1 : Inv X pins σ H { s with heap := h' } := I.kept (t' := s.toks) kp
    have I2 : Inv X pins σ (upd H h'.objs.size (.tup ys)) { s with heap := h'.push { cls := .type "tuple", data := .seq its.toArray } } :=
      I1.laid (t' := s.toks) (fun b o e => Heap.get?_push_of_some _ e) (Nat.le_refl _) (show ObjOk X.prog X.w _ _ _ (.tup ys) from ⟨hz, its, r', IsTup.new _ _⟩)
    exact ⟨.ref h'.objs.size, _, I2, rfl, q _ (I1.hok.fresh (Nat.le_refl _))⟩
  · obtain ⟨its, r', pl, hz⟩ := I.tuple hq
    exact call_tuple_same pl ⟨.ref p, H, I, rfl, q⟩
def tyV (K : PySem.W.Frag) (T : String) (x : V) (H : Hp) : Prop := match x with
  | .str _ => T = "str"
  | .int _ => T = "int"
  | .ref p => (T = "list" ∧ ∃ xs, SqL K H p xs) ∨ (T = "tuple" ∧ ∃ o, K.lookup p = some o ∧ o.cls = .type "tuple" ∧ o.dict = none) ∨
      (T = "dict" ∧ ((∃ kvs, H p = some (.dK kvs)) ∨ ∃ kvs, H p = some (.dT kvs))) ∨ (T = "set" ∧ ∃ S n, H p = some (.set S n))
  | _ => False
theorem tyV_is {pins : List (Addr × Obj)} {σ : St} {H : Hp} {s : Shared} {T : String} {x : V} {v : Value} (I : Inv X pins σ H s) (r : RelV x v) (ty : tyV X.K T x H) :
    s.TypeIs v T ∧ ∀ a, v = .ref a → ∃ ob, s.heap.get? a = some ob ∧ ob.dict = none := by
  cases x with
  | str z =>
    obtain ⟨t, rfl⟩ := r
    cases (show T = "str" from ty)
    exact ⟨typeIs_str s z t, fun _ e => nomatch e⟩
  | int i =>
    obtain ⟨t, rfl⟩ := r
    cases (show T = "int" from ty)
    exact ⟨typeIs_int s i t, fun _ e => nomatch e⟩
  | ref p =>
    cases r
    rcases ty with ⟨rfl, xs, hq⟩ | ⟨rfl, o, hk, hc, hd⟩ | ⟨rfl, hk⟩ | ⟨rfl, S, n, hk⟩
    · obtain ⟨its, _, pl, _⟩ := I.list hq
      refine ⟨pl.isList.typeIs, fun a e => ?_⟩
      cases e
      obtain ⟨o, n, e, c, hd, _⟩ := pl
      exact ⟨o, e, hd⟩
    · refine ⟨⟨o, I.kIn p o hk, hc⟩, fun a e => ?_⟩
      cases e
      exact ⟨o, I.kIn _ o hk, hd⟩
    · have z : ∃ o, s.heap.get? p = some o ∧ o.ExactDict := by
        rcases hk with ⟨kvs, hk⟩ | ⟨kvs, hk⟩
        · obtain ⟨_, _, _, _, o, _, _, e, ex, _⟩ := I.hok p _ hk
          exact ⟨o, e, ex⟩
        · obtain ⟨_, _, _, _, o, _, _, e, ex, _⟩ := I.hok p _ hk
          exact ⟨o, e, ex⟩
      obtain ⟨o, e, ex⟩ := z
      refine ⟨⟨o, e, ex.1⟩, fun a e2 => ?_⟩
      cases e2
      exact ⟨o, e, ex.2.1⟩
    · obtain ⟨o, _, _, _, e, ex, _⟩ := I.hok p _ hk
      refine ⟨⟨o, e, ex.1⟩, fun a e2 => ?_⟩
      cases e2
      exact ⟨o, e, ex.2.1⟩
  | _ => exact False.elim ty
def tBM0 (K : PySem.W.Frag) (T : String) (r : V → List V → Hp → VK → Prop) (to : TE) : TE := fun σ H Q => to σ H fun x H1 => tyV K T x H1 ∧ r x [] H1 Q
def tBM (K : PySem.W.Frag) (T : String) (r : V → List V → Hp → VK → Prop) (to : TE) (t : TA) : TE := fun σ H Q => to σ H fun x H1 => tyV K T x H1 ∧ t σ H1 fun xs H2 => r x xs H2 Q
variable {o e : Expr} {es : List Expr} {to : TE} {t : TA} {name : Str} {apos cpos : Pos} {T id : String} {r : V → List V → Hp → VK → Prop}
theorem pe_bm (pa : PlainAttrs T) (slot : Slot T name id) (hty : typeOf (.builtin id) = pure (.type "method_descriptor")) (hm : MtR X id r) (ho : PE X o to) (ha : PA X (e :: es) t)
    (hbase : attributeBase o name X.env (eval o X.env) = eval o X.env := by rfl)
    (hfew : ((backTo cpos (starEach (e :: es) X.env)).all (fun x => !x.1) && (backToKw cpos (keywordEach [] X.env)).all (fun x => x.1.isSome)
      && decide ((e :: es).length + ([] : List Keyword).length + (if ([] : List Keyword).isEmpty then 0 else 1) < 30)) = true := by rfl)
    (hline : (apos.endLine == cpos.line) = true := by rfl) (hs : starEach (e :: es) X.env = (false, eval e X.env) :: starEach es X.env := by rfl) (hplain : (backTo cpos (starEach es X.env)).any (·.1) = false := by rfl) :
    PE X (.Call (.Attribute o name apos) (e :: es) [] cpos) (tBM X.K T r to t) := by
  intro pins s σ H Q I h
  refine wpAny_Call_method_late hbase hfew hline rfl (thn (ho pins s σ H _ I h) fun v s1 ⟨x, H1, I1, r1, ty, q1⟩ => ?_)
  obtain ⟨h1, h2⟩ := tyV_is I1 r1 ty
  refine ⟨T, id, pa, slot, hty, h1, h2, ?_⟩
  have hA := ha cpos pins s1 σ H1 _ I1 q1
  rw [hs] at hA ⊢
  refine Calls.callWith_builtin (by show (false || (backTo cpos (starEach es X.env)).any (·.1)) = false; rw [hplain] <;> rfl) (Calls.evalArgs_plain ?_)
  exact thn hA fun us s2 ⟨vs, H2, I2, r2, q2⟩ => hm pins s2 σ H2 x vs v us Q I2 r1 r2 q2
end
end L2
namespace L2
open PySem PySem.Spec PyProof.Rows
def MtM (X : Cx) (id : String) (r : V → List V → Hp → VK → Prop) : Prop :=
  ∀ (pins : List (Addr × Obj)) (s : Shared) (σ : St) (H : Hp) (x : V) (xs : List V) (v : Value) (us : List Value) (Q : VK), Inv X pins σ H s → RelV x v → Vals xs us → r x xs H Q →
    wpAny (model X.prog X.w) X.A (call (.builtin id) (v :: us)) (EP X pins σ Q) X.xe s
theorem Vals.one : ∀ {x : V} {us : List Value}, Vals [x] us → ∃ u, us = [u] ∧ RelV x u
  | _, _, .cons r .nil => ⟨_, rfl, r⟩
theorem Vals.zero : ∀ {us : List Value}, Vals [] us → us = []
  | _, .nil => rfl
theorem Vals.dropLast {xs : List V} {us : List Value} (h : Vals xs us) : Vals xs.dropLast us.dropLast := by
  induction h with
  | nil => exact .nil
  | cons r t ih =>
    cases t with
    | nil => exact .nil
    | cons q t' => exact .cons r ih
theorem Vals.eraseIdx : ∀ {xs : List V} {us : List Value} (i : Nat), Vals xs us → Vals (xs.eraseIdx i) (us.eraseIdx i)
  | _, _, _, .nil => .nil
  | _, _, 0, .cons _ t => t
  | _, _, i + 1, .cons r t => .cons r (Vals.eraseIdx i t)
theorem Vals.reverse {xs : List V} {us : List Value} (h : Vals xs us) : Vals xs.reverse us.reverse := by
  induction h with
  | nil => exact .nil
  | cons r t ih => rw [List.reverse_cons, List.reverse_cons]; exact Vals.append ih (.cons r .nil)
section
variable {X : Cx} {pins : List (Addr × Obj)} {σ : St} {H : Hp} {s : Shared} {l b : Addr} {xs ys zs : List V}
theorem Inv.lset {its its' : List Value} {n : Nat} {f : Array Value → Array Value} {t' : Nat} (I : Inv X pins σ H s) (hH : H l = some (.lst xs))
    (e : s.heap.get? l = some { cls := .type "list", data := .seq its.toArray n }) (hf : f its.toArray = its'.toArray) (hv : Vals ys its') (hz : ys.length ≤ sizeLine) :
    Inv X pins σ (upd H l (.lst ys)) { s with heap := s.heap.update l (Obj.mapSeq f), toks := t' } := by
  have q := PySem.IsL.update e f
  rw [hf] at q
  refine I.write (x := l) (e := l) (by rw [hH]; exact trivial) (.inl rfl) (fun b' u hb hu => (Heap.get?_update_other s.heap (Obj.mapSeq f) (Ne.symm hb)).trans hu) ⟨_, q⟩ ?_
  exact ⟨hz, its', _, hv, q⟩
theorem Inv.lnew {its : List Value} {t' : Nat} (I : Inv X pins σ H s) (hv : Vals ys its) (hz : ys.length ≤ sizeLine) :
    Inv X pins σ (upd H s.heap.objs.size (.lst ys)) { s with heap := s.heap.push { cls := .type "list", data := .seq its.toArray }, toks := t' } :=
  I.laid (fun _ _ q => Heap.get?_push_of_some _ q) (Nat.le_refl _) ⟨hz, its, 0, hv, Heap.get?_push_size _ rfl⟩
theorem Inv.fresh (I : Inv X pins σ H s) : H s.heap.objs.size = none := I.hok.fresh (Nat.le_refl _)
theorem Inv.lstM (I : Inv X pins σ H s) (hH : H l = some (.lst xs)) : xs.length ≤ sizeLine ∧ ∃ (its : List Value) (n : Nat), Vals xs its ∧ xs.length = its.length ∧ s.heap.get? l = some { cls := .type "list", data := .seq its.toArray n } := by
  obtain ⟨z, its, n, r, e⟩ := I.hok l _ hH
  exact ⟨z, its, n, r, r.length, e⟩
end
section
variable {X : Cx}
def rAppend : V → List V → Hp → VK → Prop := fun x vs H Q => ∃ l xs y, x = .ref l ∧ vs = [y] ∧ H l = some (.lst xs) ∧ xs.length < sizeLine ∧ Q .non (upd H l (.lst (xs ++ [y])))
theorem mt_append : MtM X "list.append" rAppend := by
  intro pins s σ H x vs v us Q I rx rv h
  obtain ⟨l, xs, y, rfl, rfl, hH, hz, q⟩ := h
  cases rx
  obtain ⟨u, rfl, ru⟩ := rv.one
  obtain ⟨z, its, n, r, hl, e⟩ := I.lstM hH
  refine call_meets F.slot_list_append ⟨_, e, rfl⟩ F.entry_list_append (F.args_list_append_2 _ _) (PySem.list_append l its.toArray n u (by rw [List.size_toArray]; (first | lia | omega))) ⟨e, ?_⟩
  refine ⟨.non, _, I.lset (its' := its ++ [u]) hH e (by simp) (r.append (.cons ru .nil)) ?_, rfl, q⟩
  rw [List.length_append, List.length_singleton]
  (first | lia | omega)
def rExtend : V → List V → Hp → VK → Prop := fun x vs H Q => ∃ l b xs zs, x = .ref l ∧ vs = [.ref b] ∧ H l = some (.lst xs) ∧ H b = some (.lst zs) ∧ xs.length + zs.length ≤ sizeLine ∧ Q .non (upd H l (.lst (xs ++ zs)))
def rPop : V → List V → Hp → VK → Prop := fun x vs H Q => ∃ l xs y, x = .ref l ∧ vs = [] ∧ H l = some (.lst xs) ∧ xs[xs.length - 1]? = some y ∧ Q y (upd H l (.lst xs.dropLast))
def rPopAt : V → List V → Hp → VK → Prop := fun x vs H Q => ∃ l xs i k y, x = .ref l ∧ vs = [.int i] ∧ H l = some (.lst xs) ∧ -(2 ^ 63) ≤ i ∧ i < 2 ^ 63 ∧ seqIndex? i xs.length = some k ∧ xs[k]? = some y ∧ Q y (upd H l (.lst (xs.eraseIdx k)))
def rReverse : V → List V → Hp → VK → Prop := fun x vs H Q => ∃ l xs, x = .ref l ∧ vs = [] ∧ H l = some (.lst xs) ∧ Q .non (upd H l (.lst xs.reverse))
def rClear : V → List V → Hp → VK → Prop := fun x vs H Q => ∃ l xs, x = .ref l ∧ vs = [] ∧ H l = some (.lst xs) ∧ Q .non (upd H l (.lst []))
def rCat : R2 := fun x y H Q => ∃ l b xs zs, x = .ref l ∧ y = .ref b ∧ H l = some (.lst xs) ∧ H b = some (.lst zs) ∧ xs.length + zs.length ≤ sizeLine ∧ ∀ p, H p = none → Q (.ref p) (upd H p (.lst (xs ++ zs)))
theorem op_cat : OpR X (binaryOp .Add) rCat := by
  intro pins s σ H x y v u Q I rx ry h
  obtain ⟨l, b, xs, zs, rfl, rfl, hH, hB, hz, q⟩ := h
  cases rx
  cases ry
  obtain ⟨z, its, n, r, hl, e⟩ := I.lstM hH
  obtain ⟨z2, its2, n2, r2, hl2, e2⟩ := I.lstM hB
  refine PySem.P.add_list e e2 ?_ (by rw [List.size_toArray, List.size_toArray]; (first | lia | omega))
  have ea : its.toArray ++ its2.toArray = (its ++ its2).toArray := by simp
  rw [ea]
  exact ⟨.ref _, _, I.lnew (t' := s.toks) (r.append r2) (by rw [List.length_append]; (first | lia | omega)), rfl, q _ I.fresh⟩
def rRep : R2 := fun x y H Q => ∃ l k xs, x = .ref l ∧ y = .int k ∧ H l = some (.lst xs) ∧ -(2 ^ 63) ≤ k ∧ k < 2 ^ 63 ∧ xs.length * k.toNat ≤ sizeLine ∧
  ∀ p, H p = none → Q (.ref p) (upd H p (.lst (List.replicate k.toNat xs).flatten))
end
section
variable {prog : Program} {w : World} {A : Around} {E : Value → Shared → Prop} {s : Shared}
end
section
variable {X : Cx}
end
end L2
namespace L2
open PySem PySem.Spec PyProof.Rows
section
variable {κ : Type} [DecidableEq κ]
def valV (kvs : List (κ × V)) (k : κ) : Option V := (kvs.find? fun kv => decide (kv.1 = k)).map (·.2)
def putK (kvs : List (κ × V)) (k : κ) (v : V) : List (κ × V) :=
  if (kvs.any fun kv => decide (kv.1 = k)) = true then kvs.map (fun kv => if kv.1 = k then (kv.1, v) else kv) else kvs ++ [(k, v)]
def dropK (kvs : List (κ × V)) (k : κ) : List (κ × V) := kvs.filter fun kv => decide (kv.1 ≠ k)
theorem valV_pos {p : κ × V} {r : List (κ × V)} {k : κ} (e : p.1 = k) : valV (p :: r) k = some p.2 := by simp [valV, List.find?_cons, e]
theorem valV_neg {p : κ × V} {r : List (κ × V)} {k : κ} (e : ¬ p.1 = k) : valV (p :: r) k = valV r k := by simp [valV, List.find?_cons, e]
theorem valV_any (k : κ) : ∀ kvs : List (κ × V), (kvs.any fun kv => decide (kv.1 = k)) = (valV kvs k).isSome
  | [] => rfl
  | p :: r => by
    rw [List.any_cons]
    by_cases e : p.1 = k
    · simp only [valV_pos e, decide_eq_true e, Bool.true_or, Option.isSome_some]
    · rw [valV_neg e, decide_eq_false e, Bool.false_or]; exact valV_any k r
theorem length_putK (kvs : List (κ × V)) (k : κ) (v : V) : (putK kvs k v).length ≤ kvs.length + 1 := by
  unfold putK
  split
  · rw [List.length_map]; (first | lia | omega)
  · rw [List.length_append, List.length_cons, List.length_nil]; (first | lia | omega)
theorem putK_new {kvs : List (κ × V)} {k : κ} (v : V) (h : valV kvs k = none) : putK kvs k v = kvs ++ [(k, v)] := by
  unfold putK
  rw [valV_any, h]
  exact if_neg (by decide)
theorem RelO.isSome_eq {o : Option V} {u : Option Value} (r : RelO o u) : o.isSome = u.isSome := by
  cases o with
  | none => cases u with
    | none => rfl
    | some _ => exact (show False from r).elim
  | some _ => cases u with
    | none => exact (show False from r).elim
    | some _ => rfl
theorem RelO.getD {o : Option V} {u : Option Value} {d : V} {d' : Value} (r : RelO o u) (rd : RelV d d') : RelV (o.getD d) (u.getD d') := by
  cases o with
  | none => cases u with
    | none => exact rd
    | some _ => exact (show False from r).elim
  | some _ => cases u with
    | none => exact (show False from r).elim
    | some _ => exact r
theorem KV.val {kvs : List (κ × V)} {vs : List (κ × Value)} (r : KV kvs vs) (k : κ) : RelO (valV kvs k) (valueAt vs k) := by
  unfold KV at r
  induction r with
  | nil => exact True.intro
  | @cons p q ps qs h t ih =>
    obtain ⟨h1, h2⟩ := h
    by_cases e : p.1 = k
    · have e' : q.1 = k := h1.symm.trans e
      have b : valueAt (q :: qs) k = some q.2 := by simp [valueAt, List.find?_cons, e']
      rw [valV_pos e, b]; exact h2
    · have e' : ¬ q.1 = k := fun z => e (h1.trans z)
      have b : valueAt (q :: qs) k = valueAt qs k := by simp [valueAt, List.find?_cons, e']
      rw [valV_neg e, b]; exact ih
theorem KV.any {kvs : List (κ × V)} {vs : List (κ × Value)} (r : KV kvs vs) (k : κ) : (kvs.any fun kv => decide (kv.1 = k)) = vs.any fun kv => decide (kv.1 = k) := by
  unfold KV at r
  induction r with
  | nil => rfl
  | cons h t ih => rw [List.any_cons, List.any_cons, ih, h.1]
theorem KV.repl {kvs : List (κ × V)} {vs : List (κ × Value)} (r : KV kvs vs) (k : κ) {y : V} {u : Value} (ry : RelV y u) :
    KV (kvs.map fun kv => if kv.1 = k then (kv.1, y) else kv) (vs.map fun kv => if kv.1 = k then (kv.1, u) else kv) := by
  unfold KV at r ⊢
  induction r with
  | nil => exact .nil
  | @cons p q ps qs h t ih =>
    rw [List.map_cons, List.map_cons]
    refine .cons ?_ ih
    obtain ⟨h1, h2⟩ := h
    by_cases e : p.1 = k
    · rw [if_pos e, if_pos (h1.symm.trans e)]; exact ⟨h1, ry⟩
    · rw [if_neg e, if_neg (fun z => e (h1.trans z))]; exact ⟨h1, h2⟩
theorem KV.put {kvs : List (κ × V)} {vs : List (κ × Value)} (r : KV kvs vs) (k : κ) {y : V} {u : Value} (ry : RelV y u) : KV (putK kvs k y) (stored vs k u) := by
  unfold putK stored
  rw [r.any k]
  by_cases e : (vs.any fun kv => decide (kv.1 = k)) = true
  · rw [if_pos e, if_pos e]; exact r.repl k ry
  · rw [if_neg e, if_neg e]; exact Paired.snoc r ⟨rfl, ry⟩
theorem KV.drop {kvs : List (κ × V)} {vs : List (κ × Value)} (r : KV kvs vs) (k : κ) : KV (dropK kvs k) (without vs k) := by
  unfold KV at r ⊢
  unfold dropK without
  induction r with
  | nil => exact .nil
  | @cons p q ps qs h t ih =>
    obtain ⟨h1, h2⟩ := h
    rw [List.filter_cons, List.filter_cons]
    by_cases e : p.1 = k
    · have a : ¬ decide (p.1 ≠ k) = true := by simp [e]
      have b : ¬ decide (q.1 ≠ k) = true := by simp [h1.symm.trans e]
      rw [if_neg a, if_neg b]; exact ih
    · have e' : ¬ q.1 = k := fun z => e (h1.trans z)
      have a : decide (p.1 ≠ k) = true := by simp [e]
      have b : decide (q.1 ≠ k) = true := by simp [e']
      rw [if_pos a, if_pos b]; exact .cons ⟨h1, h2⟩ ih
theorem KV.keys {kvs : List (κ × V)} {vs : List (κ × Value)} (r : KV kvs vs) : kvs.map (·.1) = vs.map (·.1) := by
  unfold KV at r
  induction r with
  | nil => rfl
  | cons h t ih => rw [List.map_cons, List.map_cons, ih, h.1]
theorem KV.length {kvs : List (κ × V)} {vs : List (κ × Value)} (r : KV kvs vs) : kvs.length = vs.length := Paired.length r
end
theorem kV_is {P : Program} {w : World} {k : Key} {u : Value} (r : RelV (kV k) u) : (mixKind P w).is k u = true := by
  cases k with
  | inl i => obtain ⟨t, e⟩ := (show ∃ t, u = Value.int i t from r); subst e; exact mixKind_int P w i t
  | inr x => obtain ⟨t, e⟩ := (show ∃ t, u = Value.str x t from r); subst e; exact mixKind_str P w x t
theorem items_are {P : Program} {w : World} : ∀ {ks : List Key} {us : List Value}, Vals (ks.map kV) us → ItemsAre (mixKind P w) ks us
  | [], _, r => by rw [List.map_nil] at r; cases r; exact .nil
  | k :: ks, _, r => by
    rw [List.map_cons] at r
    cases r with
    | cons h t => exact .cons (kV_is h) (items_are t)
abbrev KT (H : Hp) : List (List Key × V) → List (List Key × Addr × Value) → Prop := Paired fun p q => p.1 = q.1 ∧ H q.2.1 = some (.tup (p.1.map kV)) ∧ RelV p.2 q.2.2
theorem KT.val {H : Hp} {kvs : List (List Key × V)} {xs : List (List Key × Addr × Value)} (r : KT H kvs xs) (k : List Key) : RelO (valV kvs k) ((atKey xs k).map (·.2)) := by
  induction r with
  | nil => exact True.intro
  | @cons p q ps qs h t ih =>
    obtain ⟨h1, _, h2⟩ := h
    by_cases e : p.1 = k
    · have e' : q.1 = k := h1.symm.trans e
      have b : atKey (q :: qs) k = some q.2 := by simp [atKey, List.find?_cons, e']
      rw [valV_pos e, b]; exact h2
    · have e' : ¬ q.1 = k := fun z => e (h1.trans z)
      have b : atKey (q :: qs) k = atKey qs k := by simp [atKey, List.find?_cons, e']
      rw [valV_neg e, b]; exact ih
theorem KT.repl {H : Hp} {kvs : List (List Key × V)} {xs : List (List Key × Addr × Value)} (r : KT H kvs xs) (k : List Key) {y : V} {u : Value} (ry : RelV y u) :
    KT H (kvs.map fun kv => if kv.1 = k then (kv.1, y) else kv) (xs.map (putAt k u)) := by
  induction r with
  | nil => exact .nil
  | @cons p q ps qs h t ih =>
    rw [List.map_cons, List.map_cons]
    refine .cons ?_ ih
    obtain ⟨h1, h2, h3⟩ := h
    unfold putAt
    by_cases e : p.1 = k
    · rw [if_pos e, if_pos (h1.symm.trans e)]; exact ⟨h1, h2, ry⟩
    · rw [if_neg e, if_neg (fun z => e (h1.trans z))]; exact ⟨h1, h2, h3⟩
theorem KT.put {H : Hp} {kvs : List (List Key × V)} {xs : List (List Key × Addr × Value)} (r : KT H kvs xs) (k : List Key) {b : Addr} {y : V} {u : Value} (hb : H b = some (.tup (k.map kV))) (ry : RelV y u) :
    KT H (putK kvs k y) (storedH xs k b u) := by
  have e : (kvs.any fun kv => decide (kv.1 = k)) = (atKey xs k).isSome := by
    rw [valV_any, (r.val k).isSome_eq, Option.isSome_map]
  unfold putK storedH
  rw [e]
  by_cases q : (atKey xs k).isSome = true
  · rw [if_pos q, if_pos q]; exact r.repl k ry
  · rw [if_neg q, if_neg q]; exact Paired.snoc r ⟨rfl, hb, ry⟩
theorem KT.keeps {H H' : Hp} {kvs : List (List Key × V)} {xs : List (List Key × Addr × Value)} (r : KT H kvs xs) (ht : ∀ b ys, H b = some (.tup ys) → H' b = some (.tup ys)) : KT H' kvs xs :=
  Paired.mapP r fun _ _ z => ⟨z.1, ht _ _ z.2.1, z.2.2⟩
section
variable {P : Program} {w : World} {H : Hp} {h : Heap} {a : Addr}
theorem rd_of {u : HO} (ok : HOk P w H h) (e : Rd H a u) : ObjOk P w H h a u := e.ok ok
theorem dk_rd {kvs : List (Key × V)} (ok : HOk P w H h) (e : Rd H a (.dK kvs)) : kvs.length ≤ sizeLine ∧ (a == sysModules) = false ∧ ∃ vs, KV kvs vs ∧ h.DictOf (mixKind P w) a vs :=
  show ObjOk P w H h a (.dK kvs) from rd_of ok e
theorem dk_of {kvs : List (Key × V)} (ok : HOk P w H h) (e : H a = some (.dK kvs)) : kvs.length ≤ sizeLine ∧ (a == sysModules) = false ∧ ∃ vs, KV kvs vs ∧ h.DictOf (mixKind P w) a vs := dk_rd ok (.inl e)
theorem key_of {ks : List Key} (ok : HOk P w H h) (e : H a = some (.tup (ks.map kV))) : (tupleKind (mixKind P w)).is h ks a := by
  obtain ⟨_, its, r, o, h1, h2, n, h3⟩ := (show ObjOk P w H h a (.tup (ks.map kV)) from ok a _ e)
  exact ⟨o, its.toArray, n, h1, h2, h3, by simpa using items_are r⟩
theorem dt_rd {kvs : List (List Key × V)} (ok : HOk P w H h) (e : Rd H a (.dT kvs)) : kvs.length ≤ sizeLine ∧ (a == sysModules) = false ∧
    ∃ xs, KT H kvs xs ∧ h.DictOfH (tupleKind (mixKind P w)) a xs := by
  obtain ⟨z, y, xs, r, o, es, ep, h1, h2, h3, h4, h5⟩ := (show ObjOk P w H h a (.dT kvs) from rd_of ok e)
  refine ⟨z, y, xs, r, o, es, ep, h1, h2, h3, h4, fun x hx => ?_, h5⟩
  have all : ∀ {l : List (List Key × V)} {m : List (List Key × Addr × Value)}, KT H l m → ∀ x ∈ m, (tupleKind (mixKind P w)).is h x.1 x.2.1 := by
    intro l m q
    induction q with
    | nil => intro x hx; exact nomatch hx
    | @cons p q ps qs hq t ih =>
      intro x hx
      rcases List.mem_cons.mp hx with e | hx
      · subst e
        exact key_of ok (by rw [← hq.1]; exact hq.2.1)
      · exact ih x hx
  exact all r x hx
theorem dt_of {kvs : List (List Key × V)} (ok : HOk P w H h) (e : H a = some (.dT kvs)) : kvs.length ≤ sizeLine ∧ (a == sysModules) = false ∧
    ∃ xs, KT H kvs xs ∧ h.DictOfH (tupleKind (mixKind P w)) a xs := dt_rd ok (.inl e)
end
def DGet (H : Hp) (a : Addr) (y : V) (r : Option V) : Prop :=
  (∃ kvs k, Rd H a (.dK kvs) ∧ y = kV k ∧ r = valV kvs k) ∨ ∃ kvs k b, Rd H a (.dT kvs) ∧ y = .ref b ∧ H b = some (.tup (k.map kV)) ∧ r = valV kvs k
def DPut (H : Hp) (a : Addr) (y v : V) (H' : Hp) : Prop :=
  (∃ kvs k, H a = some (.dK kvs) ∧ y = kV k ∧ kvs.length < sizeLine ∧ H' = upd H a (.dK (putK kvs k v))) ∨
  ∃ kvs k b, H a = some (.dT kvs) ∧ y = .ref b ∧ H b = some (.tup (k.map kV)) ∧ kvs.length < sizeLine ∧ H' = upd H a (.dT (putK kvs k v))
theorem DGet.k {H : Hp} {a : Addr} {kvs : List (Key × V)} {k : Key} (e : H a = some (.dK kvs)) : DGet H a (kV k) (valV kvs k) := .inl ⟨kvs, k, .inl e, rfl, rfl⟩
theorem DGet.t {H : Hp} {a b : Addr} {kvs : List (List Key × V)} {k : List Key} (e : H a = some (.dT kvs)) (eb : H b = some (.tup (k.map kV))) : DGet H a (.ref b) (valV kvs k) := .inr ⟨kvs, k, b, .inl e, rfl, eb, rfl⟩
theorem DPut.k {H : Hp} {a : Addr} {kvs : List (Key × V)} {k : Key} {v : V} (e : H a = some (.dK kvs)) (hl : kvs.length < sizeLine) : DPut H a (kV k) v (upd H a (.dK (putK kvs k v))) := .inl ⟨kvs, k, e, rfl, hl, rfl⟩
theorem DPut.t {H : Hp} {a b : Addr} {kvs : List (List Key × V)} {k : List Key} {v : V} (e : H a = some (.dT kvs)) (eb : H b = some (.tup (k.map kV))) (hl : kvs.length < sizeLine) :
    DPut H a (.ref b) v (upd H a (.dT (putK kvs k v))) := .inr ⟨kvs, k, b, e, rfl, eb, hl, rfl⟩
section
variable {X : Cx} {pins : List (Addr × Obj)} {σ : St} {H : Hp} {s : Shared} {a : Addr} {y v : V} {u r : Value} {o : Option V} {A : Around} {E : Value → Shared → Prop}
theorem Inv.big (I : Inv X pins σ H s) : sysModules < s.heap.objs.size := by
  have h : mainGlobals < s.heap.objs.size := (I.mod.glob.keeps I.bk).lt
  exact Nat.lt_trans (by decide) h
theorem d_getItem {Q : Value → Shared → Prop} (hu : A.units + 1 < cLine) (I : Inv X pins σ H s) (g : DGet H a y (some v)) (ry : RelV y u) (h : ∀ w' s', Inv X pins σ H s' → RelV v w' → Q w' s') :
    wpAny (model X.prog X.w) A (getItem (.ref a) u) Q E s := by
  rcases g with ⟨kvs, k, e, ey, l⟩ | ⟨kvs, k, b, e, ey, eb, l⟩
  · subst ey
    obtain ⟨z, hd, vs, rel, dd⟩ := dk_rd I.hok e
    obtain ⟨w', hw, rw'⟩ := RelO.some_of (v := v) (o := valueAt vs k) (by rw [l]; exact rel.val k)
    exact wpAny_getItem_of (kV_is ry) dd.mapOf hw (h w' _ (I.tok _) rw')
  · subst ey
    cases (show u = Value.ref b from ry)
    obtain ⟨z, hd, xs, rel, dd⟩ := dt_rd I.hok e
    obtain ⟨w', hw, rw'⟩ := RelO.some_of (v := v) (o := (atKey xs k).map (·.2)) (by rw [l]; exact rel.val k)
    obtain ⟨p, hp, hp2⟩ := Option.map_eq_some_iff.mp hw
    refine wpAny_getItem_heap (tupleKind_room_in1 hu) (key_of I.hok eb) dd hp ?_
    rw [hp2]
    exact h w' _ (I.tok _) rw'
theorem d_write {h' : Heap} {t' : Nat} {ob : HO} (I : Inv X pins σ H s) (mu : Mut (H a)) (hs : Heap.SameBut a s.heap h') (he : ∃ q, h'.get? a = some q) (new : ObjOk X.prog X.w (upd H a ob) h' a ob) :
    Inv X pins σ (upd H a ob) { s with heap := h', toks := t' } :=
  I.write (x := a) (e := a) mu (.inl rfl) (fun b q hb z => (hs.2 b hb).trans z) he new
theorem dk_new {P : Program} {w : World} {H' : Hp} {h' : Heap} {kvs : List (Key × V)} {vs : List (Key × Value)} (z : kvs.length ≤ sizeLine) (hd : (a == sysModules) = false) (rel : KV kvs vs) (dd : h'.DictOf (mixKind P w) a vs) :
    ObjOk P w H' h' a (.dK kvs) := ⟨z, hd, vs, rel, dd⟩
theorem d_setItem {H' : Hp} {Q : Unit → Shared → Prop} (hu : A.units + 1 < cLine) (I : Inv X pins σ H s) (g : DPut H a y v H') (ry : RelV y u) (rv : RelV v r) (h : ∀ s', Inv X pins σ H' s' → Q () s') :
    wpAny (model X.prog X.w) A (setItem (.ref a) u r) Q E s := by
  rcases g with ⟨kvs, k, e, ey, l, eH⟩ | ⟨kvs, k, b, e, ey, eb, l, eH⟩
  · subst ey eH
    obtain ⟨z, hd, vs, rel, dd⟩ := dk_of I.hok e
    have hz : vs.length ≤ sizeLine := by rw [← rel.length]; exact z
    have hl : (putK kvs k v).length ≤ sizeLine := by have := length_putK kvs k v; (first | lia | omega)
    refine wpAny_setItem_pairs (hsz := hz) (kV_is ry) dd fun h' dd' hs => h _ ?_
    have he : ∃ q, h'.get? a = some q := let ⟨q, _, _, hq, _⟩ := dd'; ⟨q, hq⟩
    exact d_write I (by rw [e]; exact True.intro) hs he (dk_new hl hd (rel.put k rv) dd')
  · subst ey eH
    cases (show u = Value.ref b from ry)
    obtain ⟨z, hd, xs, rel, dd⟩ := dt_of I.hok e
    have hz : xs.length ≤ sizeLine := by rw [← Paired.length rel]; exact z
    have hl : (putK kvs k v).length ≤ sizeLine := by have := length_putK kvs k v; (first | lia | omega)
    refine wpAny_setItem_heap (hsz := hz) (tupleKind_room_in1 hu) (key_of I.hok eb) dd fun h' dd' hs => h _ ?_
    obtain ⟨q, es, ep, hq, h2, h3, h4, _, h5⟩ := dd'
    refine d_write I (by rw [e]; exact True.intro) hs ⟨q, hq⟩ ⟨hl, hd, _, (rel.put k eb rv).keeps fun c ys ec => ?_, q, es, ep, hq, h2, h3, h4, h5⟩
    rw [upd_ne (ne_of ec e (fun z => nomatch z))]
    exact ec
end
section
variable {X : Cx} {pins : List (Addr × Obj)} {σ : St} {H : Hp} {s : Shared} {a : Addr} {kvs : List (Key × V)} {k : Key} {u : Value} {A : Around} {E : Value → Shared → Prop}
end
def NoSl (i : Expr) : Prop := ∀ ov iv, subscripted i false ov iv = operate [ov, iv] (getItem ov iv)
theorem subD_of {prog : Program} {w : World} {A : Around} {E : Value → Shared → Prop} {s : Shared} {env : Env} {value slice : Expr} {pos : Pos} {T id : String} {Q : Value → Shared → Prop}
    (hl : typeLookup (.type T) "__getitem__" = pure (some (.builtin id))) (hs : NoSl slice)
    (h : wpAny (model prog w) A (eval value env) (fun o s₁ => wpAny (model prog w) A (eval slice env) (fun i s₂ => s₂.TypeIs o T ∧ wpAny (model prog w) A (getItem o i) Q E s₂) E s₁) E s) :
    wpAny (model prog w) A (eval (.Subscript value slice pos) env) Q E s := by
  refine Subscript_ (wpAny_mono h (fun o s₁ h₁ => wpAny_mono h₁ (fun i s₂ h₂ => ?_) fun _ _ x => x) fun _ _ x => x)
  obtain ⟨hT, h₂⟩ := h₂
  unfold subscriptTail
  refine wpAny_bind ?_
  rw [getitemInPython_of_ne hT.not_modules]
  refine wpAny_bind (wpAny_specialOf hT hl ?_)
  have fin : wpAny (model prog w) A (subscripted slice false o i) (fun r s₃ => wpAny (model prog w) A (letTemporaryGo value o r >>= fun _ => pure r) Q E s₃) E s₂ := by
    rw [hs o i]
    exact wpAny_operating (wpAny_mono h₂ (fun r s₃ h₃ => wpAny_bind (wpAny_letTemporaryGo (wpAny_pure h₃))) fun _ _ x => x)
  first
    | exact wpAny_pure (wpAny_bind fin)
    | exact wpAny_bind (wpAny_pure (wpAny_bind fin))
    | exact wpAny_bind fin
theorem dict_typeIs {X : Cx} {pins : List (Addr × Obj)} {σ : St} {H : Hp} {s : Shared} {a : Addr} {y : V} {o : Option V} (I : Inv X pins σ H s) (g : DGet H a y o) : s.TypeIs (.ref a) "dict" := by
  rcases g with ⟨kvs, k, e, _, _⟩ | ⟨kvs, k, b, e, _, _, _⟩
  · obtain ⟨_, _, vs, _, dd⟩ := dk_rd I.hok e
    exact dd.typeIs
  · obtain ⟨_, _, xs, _, dd⟩ := dt_rd I.hok e
    exact dd.typeIs
def tDGet (td ty : TE) : TE := fun σ H Q => td σ H fun x H1 => ty σ H1 fun y H2 => ∃ a v, x = .ref a ∧ DGet H2 a y (some v) ∧ Q v H2
def tDIn (ty td : TE) : TE := fun σ H Q => ty σ H fun y H1 => td σ H1 fun x H2 => ∃ a o, x = .ref a ∧ DGet H2 a y o ∧ Q (.bl o.isSome) H2
def tDNotIn (ty td : TE) : TE := fun σ H Q => ty σ H fun y H1 => td σ H1 fun x H2 => ∃ a o, x = .ref a ∧ DGet H2 a y o ∧ Q (.bl (!o.isSome)) H2
def sDPut (td ty tv : TE) : TS := fun D σ H => tv σ H fun v H1 => td σ H1 fun x H2 => ty σ H2 fun y H3 => ∃ a H4, x = .ref a ∧ DPut H3 a y v H4 ∧ D.nx σ H4
def sDAug (td ty tv : TE) (rd : V → V → Hp → VK → Prop) : TS := fun D σ H => td σ H fun x H1 => ty σ H1 fun y H2 => ∃ a v, x = .ref a ∧ DGet H2 a y (some v) ∧
  tv σ H2 fun y2 H3 => rd v y2 H3 fun z H4 => ∃ H5, DPut H4 a y z H5 ∧ D.nx σ H5
def sDDel (td ty : TE) : TS := fun D σ H => td σ H fun x H1 => ty σ H1 fun y H2 => ∃ a kvs k, x = .ref a ∧ H2 a = some (.dK kvs) ∧ y = kV k ∧ (valV kvs k).isSome = true ∧ D.nx σ (upd H2 a (.dK (dropK kvs k)))
section
variable {X : Cx} {o i e value : Expr} {pos pos' tpos : Pos} {td ty tv : TE}
theorem pe_dget (hu : X.A.units + 1 < cLine) (ho : PE X o td) (hi : PE X i ty) (hs : NoSl i) : PE X (.Subscript o i pos) (tDGet td ty) := by
  intro pins s σ H Q I h
  refine subD_of PySem.F.slot_dict_getitem.lookup hs (thn (ho pins s σ H _ I h) fun u s1 ⟨x, H1, I1, rx, q1⟩ => thn (hi pins s1 σ H1 _ I1 q1) fun iv s2 ⟨y, H2, I2, ry, a, v, ex, g, q2⟩ => ?_)
  subst ex
  obtain rfl : u = Value.ref a := rx
  exact ⟨dict_typeIs I2 g, d_getItem hu I2 g ry fun w' s3 I3 rw' => ⟨v, H2, I3, rw', q2⟩⟩
theorem ps_dput (hu : X.A.units + 1 < cLine) (ho : PE X o td) (hi : PE X i ty) (hv : PE X value tv) (hs : swapsWith value (some (.Subscript o i pos')) pos.line X.env = pure false) :
    PS X (.Assign [.Subscript o i pos'] value pos) (sDPut td ty tv) := by
  intro pins s σ H D I h
  refine wpAny_Assign_Subscript (thn (hv pins s σ H _ I h) fun r s1 ⟨v, H1, I1, rv, q1⟩ => thn (ho pins s1 σ H1 _ I1 q1) fun u s2 ⟨x, H2, I2, rx, q2⟩ => thn (hi pins s2 σ H2 _ I2 q2) fun iv s3 ⟨y, H3, I3, ry, a, H4, ex, g, q3⟩ => ?_) hs
  subst ex
  obtain rfl : u = Value.ref a := rx
  exact d_setItem hu I3 g ry rv fun s4 I4 => ⟨σ, H4, I4, q3⟩
end
theorem dk_empty {P : Program} {w : World} {H : Hp} (h : Heap) (hb : sysModules < h.objs.size) : ObjOk P w H (h.push { cls := .type "dict", data := .dict #[] }) h.objs.size (.dK []) :=
  ⟨Nat.zero_le _, beq_eq_false_iff_ne.mpr (Ne.symm (Nat.ne_of_lt hb)), [], .nil, Heap.DictOf.new h⟩
def tDNewK : TE := fun _ H Q => ∀ p, H p = none → Q (.ref p) (upd H p (.dK []))
def tDNewT : TE := fun _ H Q => ∀ p, H p = none → Q (.ref p) (upd H p (.dT []))
section
variable {X : Cx} {pos : Pos}
theorem pe_dnewK : PE X (.Dict [] [] pos) tDNewK := fun pins s σ H Q I h =>
  wpAny_Dict_empty ⟨.ref s.heap.objs.size, _, I.laid (a := s.heap.objs.size) (o := .dK []) (t' := s.toks) (fun _ _ q => Heap.get?_push_of_some _ q) (Nat.le_refl _) (dk_empty s.heap I.big), rfl, h _ (I.hok.fresh (Nat.le_refl _))⟩
end
def tPairs : List (TE × TE) → St → Hp → (List (V × V) → Hp → Prop) → Prop
  | [], _, H, Q => Q [] H
  | (tk, tv) :: r, σ, H, Q => tk σ H fun x H1 => tv σ H1 fun y H2 => tPairs r σ H2 fun ps H3 => Q ((x, y) :: ps) H3
abbrev VV : List (V × V) → List (Value × Value) → Prop := Paired fun p q => RelV p.1 q.1 ∧ RelV p.2 q.2
def PPs (X : Cx) (pos : Pos) (keys : List (Option Expr)) (values : List Expr) (trs : List (TE × TE)) : Prop :=
  ∀ (pins : List (Addr × Obj)) (s : Shared) (σ : St) (H : Hp) (Q : List (V × V) → Hp → Prop), Inv X pins σ H s → tPairs trs σ H Q →
    wpAny (model X.prog X.w) X.A (evalPairs (pairTrees keys values X.env pos)) (fun vs s' => ∃ ps H', Inv X pins σ H' s' ∧ VV ps vs ∧ Q ps H') X.xe s
theorem pps_nil {X : Cx} {pos : Pos} : PPs X pos [] [] [] := fun pins s σ H Q I h => pairTrees_nil_walk ⟨[], H, I, .nil, h⟩
theorem pps_cons {X : Cx} {pos : Pos} {k v : Expr} {ks : List (Option Expr)} {vs : List Expr} {tk tv : TE} {trs : List (TE × TE)} (hk : PE X k tk) (hv : PE X v tv) (hr : PPs X pos ks vs trs) :
    PPs X pos (some k :: ks) (v :: vs) ((tk, tv) :: trs) := fun pins s σ H Q I h =>
  pairTrees_cons_walk (thn (hk pins s σ H _ I h) fun u s1 ⟨x, H1, I1, rx, q1⟩ => thn (hv pins s1 σ H1 _ I1 q1) fun w2 s2 ⟨y, H2, I2, ry, q2⟩ =>
    thn (hr pins s2 σ H2 _ I2 q2) fun ws s3 ⟨ps, H3, I3, rel, q3⟩ => ⟨(x, y) :: ps, H3, I3, .cons ⟨rx, ry⟩ rel, q3⟩)
def mergeK (kvs more : List (Key × V)) : List (Key × V) := more.foldl (fun acc kv => putK acc kv.1 kv.2) kvs
theorem KV.merge : ∀ {more : List (Key × V)} {rs : List (Key × Value)} {kvs : List (Key × V)} {vs : List (Key × Value)}, KV more rs → KV kvs vs → KV (mergeK kvs more) (merged vs rs) := by
  intro more rs kvs vs r
  unfold KV at r
  induction r generalizing kvs vs with
  | nil => intro q; exact q
  | @cons p q ps qs h t ih =>
    intro r0
    have e : KV (putK kvs p.1 p.2) (stored vs q.1 q.2) := by
      have := r0.put p.1 h.2
      rw [← h.1]; exact this
    exact ih e
theorem length_mergeK : ∀ (more kvs : List (Key × V)), (mergeK kvs more).length ≤ kvs.length + more.length
  | [], kvs => by show kvs.length ≤ kvs.length + 0; (first | lia | omega)
  | p :: r, kvs => by
    have h1 := length_mergeK r (putK kvs p.1 p.2)
    have h2 := length_putK kvs p.1 p.2
    show (mergeK (putK kvs p.1 p.2) r).length ≤ _
    rw [List.length_cons]; (first | lia | omega)
theorem carries_of {P : Program} {w : World} : ∀ {kvs : List (Key × V)} {ws : List (Value × Value)}, VV (kvs.map fun kv => (kV kv.1, kv.2)) ws → ∃ rs, Carries (mixKind P w) ws rs ∧ KV kvs rs
  | [], _, r => by rw [List.map_nil] at r; cases r; exact ⟨[], True.intro, .nil⟩
  | p :: kvs, _, r => by
    rw [List.map_cons] at r
    cases r with
    | @cons a b as bs h t =>
      obtain ⟨rs, c, q⟩ := carries_of (P := P) (w := w) t
      obtain ⟨b1, b2⟩ := b
      exact ⟨(p.1, b2) :: rs, ⟨kV_is h.1, rfl, c⟩, .cons ⟨rfl, h.2⟩ q⟩
def tDisp (trs : List (TE × TE)) : TE := fun σ H Q => ∀ p, H p = none → tPairs trs σ (upd H p (.dK [])) fun ps H2 => H2 p = some (.dK []) ∧ ∃ kvs : List (Key × V), ps = kvs.map (fun kv => (kV kv.1, kv.2)) ∧ kvs.length ≤ 15 ∧ Q (.ref p) (upd H2 p (.dK (mergeK [] kvs)))
theorem pe_disp {X : Cx} {pos : Pos} {keys : List (Option Expr)} {values : List Expr} {trs : List (TE × TE)} (h : PPs X pos keys values trs) (hall : keys.all (·.isSome) = true) (hl : keys.length = values.length) (h0 : keys ≠ [])
    (h15 : keys.length ≤ 15) : PE X (.Dict keys values pos) (tDisp trs) := by
  intro pins s σ H Q I q
  have hn := I.hok.fresh (Nat.le_refl s.heap.objs.size)
  have I1 := I.laid (a := s.heap.objs.size) (o := .dK []) (h' := s.heap.push { cls := .type "dict", data := .dict #[] }) (t' := s.toks) (fun _ _ q => Heap.get?_push_of_some _ q) (Nat.le_refl _) (dk_empty s.heap I.big)
  refine wpAny_Dict_walk (knd := mixKind X.prog X.w) hall hl h0 h15 (thn (h pins _ σ _ _ I1 (q _ hn)) fun ws s2 ⟨ps, H2, I2, rel, e, kvs, ep, lk, q2⟩ => ?_)
  subst ep
  obtain ⟨rs, c, rk⟩ := carries_of (P := X.prog) (w := X.w) rel
  obtain ⟨z, hd, vs0, r0, dd⟩ := dk_of I2.hok e
  cases r0
  refine ⟨rs, c, dd, fun h' dd' hs => ⟨.ref s.heap.objs.size, _, ?_, rfl, q2⟩⟩
  have hz : (mergeK [] kvs).length ≤ sizeLine := by
    have h1 := length_mergeK kvs []
    rw [List.length_nil] at h1
    rw [sizeLine_eq]; (first | lia | omega)
  have he : ∃ q, h'.get? s.heap.objs.size = some q := let ⟨q, _, _, hq, _⟩ := dd'; ⟨q, hq⟩
  exact d_write I2 (by rw [e]; exact True.intro) hs he (dk_new hz hd (rk.merge .nil) dd')
structure M1 (X : Cx) (o : Expr) (m : Str) (apos : Pos) (e : Expr) (cpos : Pos) : Prop where
  base : attributeBase o m X.env (eval o X.env) = eval o X.env
  few : ((backTo cpos (starEach [e] X.env)).all (fun x => !x.1) && (backToKw cpos (keywordEach [] X.env)).all (fun x => x.1.isSome)
    && decide (([e] : List Expr).length + ([] : List Keyword).length + (if ([] : List Keyword).isEmpty then 0 else 1) < 30)) = true
  line : (apos.endLine == cpos.line) = true
  trees : backTo cpos (starEach [e] X.env) = [(false, eval e X.env)]
structure M2 (X : Cx) (o : Expr) (m : Str) (apos : Pos) (e f : Expr) (cpos : Pos) : Prop where
  base : attributeBase o m X.env (eval o X.env) = eval o X.env
  few : ((backTo cpos (starEach [e, f] X.env)).all (fun x => !x.1) && (backToKw cpos (keywordEach [] X.env)).all (fun x => x.1.isSome)
    && decide (([e, f] : List Expr).length + ([] : List Keyword).length + (if ([] : List Keyword).isEmpty then 0 else 1) < 30)) = true
  line : (apos.endLine == cpos.line) = true
  trees : backTo cpos (starEach [e, f] X.env) = [(false, eval e X.env), (false, eval f X.env)]
def IsD (H : Hp) (a : Addr) : Prop := (∃ kvs, Rd H a (.dK kvs)) ∨ ∃ kvs, Rd H a (.dT kvs)
section
variable {X : Cx} {pins : List (Addr × Obj)} {σ : St} {H : Hp} {s : Shared} {a : Addr} {y d : V} {u r : Value} {o : Option V} {A : Around} {E : Value → Shared → Prop}
end
def tDGet1 (td ty : TE) : TE := fun σ H Q => td σ H fun x H1 => ∃ a, x = .ref a ∧ IsD H1 a ∧ ty σ H1 fun y H2 => ∃ o, DGet H2 a y o ∧ Q (o.getD .non) H2
def tDGet2 (td ty tx : TE) : TE := fun σ H Q => td σ H fun x H1 => ∃ a, x = .ref a ∧ IsD H1 a ∧ ty σ H1 fun y H2 => tx σ H2 fun z H3 => ∃ o, DGet H3 a y o ∧ Q (o.getD z) H3
def tDPop1 (td ty : TE) : TE := fun σ H Q => td σ H fun x H1 => ∃ a, x = .ref a ∧ IsD H1 a ∧ ty σ H1 fun y H2 => ∃ kvs k v, H2 a = some (.dK kvs) ∧ y = kV k ∧ valV kvs k = some v ∧ Q v (upd H2 a (.dK (dropK kvs k)))
def tDPop2 (td ty tx : TE) : TE := fun σ H Q => td σ H fun x H1 => ∃ a, x = .ref a ∧ IsD H1 a ∧ ty σ H1 fun y H2 => tx σ H2 fun z H3 => ∃ kvs k, H3 a = some (.dK kvs) ∧ y = kV k ∧
  (∀ v, valV kvs k = some v → Q v (upd H3 a (.dK (dropK kvs k)))) ∧ (valV kvs k = none → Q z H3)
section
variable {X : Cx} {o e f : Expr} {apos cpos : Pos} {td ty tx : TE}
end
section
variable {X : Cx} {pins : List (Addr × Obj)} {σ : St} {H : Hp} {s : Shared} {a : Addr} {kvs : List (Key × V)} {A : Around} {E : Value → Shared → Prop}
end
section
variable {X : Cx} {pins : List (Addr × Obj)} {σ : St} {H : Hp} {s : Shared} {a : Addr} {y : V} {u : Value} {A : Around} {E : Value → Shared → Prop}
end
end L2
namespace Att
open PySem PySem.W PySem.Calls PyProof.Rows
theorem ints_of_wellAll {P : Params} {h : Heap} : ∀ (ns : List Int) (vs : List Value), WellAll P h vs (ns.map WData.int) → IntsAre vs ns := by
  intro ns
  induction ns with
  | nil =>
    intro vs w
    rw [List.map_nil] at w
    cases w
    exact .nil
  | cons n ns ih =>
    intro vs w
    rw [List.map_cons] at w
    cases w with
    | cons a b =>
      cases a
      exact .cons _ _ (ih _ b)
theorem script_of {l : OpenLaw} {n : Nat} (hn : l.most = some n) {P : Params} {h : Heap} {args : List WData} {vals : List Value}
    (hpre : l.row.toRowW.claim.pre args = true) (hwl : WellAll P h vals args) :
    ∃ a vs ns, vals = [Value.ref a] ∧ args = [WData.list (ns.map WData.int)] ∧ h.get? a = some { cls := .type "list", data := .seq vs.toArray } ∧ IntsAre vs ns ∧ ns.length ≤ n := by
  have hsh : WShape.hasAll [] args [.list .int] = true := (pre_splitW hpre).1
  have hc : l.pre.holds [] { args := args } = true := (pre_splitW hpre).2
  obtain ⟨d, r, rfl, h1, h2⟩ := hasAllW_cons hsh
  obtain rfl := hasAllW_nil h2
  obtain ⟨xs, rfl, h3⟩ := hasW_list h1
  obtain ⟨ns, rfl⟩ := items_int h3
  have hlen : ns.length ≤ n := by
    unfold OpenLaw.pre at hc
    have h4 : (WTm.not (.lt (.lit (.int (n : Int))) (.len (.arg 0)))).holds [] { args := [.list (ns.map .int)] } = true := by
      have h4 := (holds_andW hc).1
      rw [hn] at h4
      exact h4
    have h5 := condW_of h4 (w_not (w_lt w_lit (w_len_list (w_arg rfl))))
    rw [List.length_map] at h5
    refine Nat.le_of_not_lt fun q => ?_
    have q' : (n : Int) < ((ns.length : Nat) : Int) := by (first | lia | omega)
    first
      | (rw [decide_eq_true q'] at h5; exact absurd h5 (by decide))
      | (simp at h5; (first | lia | omega))
  cases hwl with
  | cons w1 w2 =>
    cases w2
    cases w1 with
    | list ho hall => exact ⟨_, _, ns, rfl, rfl, ho, ints_of_wellAll ns _ hall, hlen⟩
theorem post_true (l : OpenLaw) (args : List WData) : l.row.toRowW.claim.post args (.bool true) args = true :=
  postW_of (r := l.row.toRowW) (X := (true == true))
    (show WShape.has [] (.bool true) .bool = true by first | rfl | decide | simp [WShape.has, WShape.arms, WShape.armsAll])
    (show (WTm.eq .res (.lit (.bool true))).value [] { args := args, res := some (.bool true), after := args } = some (.bool (true == true)) from w_eq_bool (w_res rfl) w_lit) rfl
theorem attach_call {l : OpenLaw} {n : Nat} {q : Program} {loose : List Str} {XP : (Str → Option Value) → Heap → Prop} {YP : World → Heap → Prop} {d : DefRec}
    (hn : l.most = some n) (hdf : d.params.defaults = [])
    (call : ∀ (w : World) (s₀ s₁ : Shared) (mg mb : Str → Option Value) (fa : Addr) (o : Obj) (pm cd doc : Value) (a : Addr) (vs : List Value) (ns : List Int),
      Ground q loose [] XP w s₀ mg mb s₁.heap → YP w s₁.heap →
      s₁.heap.get? fa = some o → o.data = .func (docDef d.name d.params d.body d.scope pm cd doc) → s₁.heap.CodeRec cd d.name → mg d.name = some (.ref fa) →
      s₁.heap.get? a = some { cls := .type "list", data := .seq vs.toArray } → IntsAre vs ns → ns.length ≤ n → s₁.gens = #[] →
      codeAny (model l.prog w) callerA (.call (.ref fa) ⟨[.ref a], []⟩) (fun r s' => r = .ok (.ret (.bool true)) ∧ OldK s₁.heap s'.heap ∧ s'.os = s₁.os ∧ AllBare s'.gens) s₁) :
    WalkO q loose XP YP l.row.toRowW d [] (fun f vs => PySem.call f vs) := by
  intro w s₀ s₁ mg mb G Y fa o pm cd doc dV kV ho hd hcd hD hmg hg args vals as hpre hlay hrd hwl hlo
  obtain rfl : dV = .none := Dflts.none hD hdf
  obtain rfl : kV = .none := Dflts.noKw hD
  obtain ⟨a, vs, ns, rfl, rfl, hobj, hints, hlen⟩ := script_of hn hpre hwl
  refine enter_call (codeAny_mono (call w s₀ s₁ mg mb fa o pm cd doc a vs ns G Y ho (fd_plain hd) hcd hmg hobj hints hlen hg) fun r s' hq => ?_)
  obtain ⟨rfl, h2, h3, h4⟩ := hq
  exact ⟨.inl ⟨.bool true, .bool true, [], rfl, fun _ => rfl, .bool true, post_true l _, fun _ => ⟨List.Pairwise.nil, fun _ hm => (nomatch hm)⟩⟩, h2, h3, h4⟩
section
variable {prog : Program} {w : World} {A : Around} {E : Value → Shared → Prop} {s : Shared} {K : Frag}
def noObjs (h : Heap) : Heap := { h with objs := #[] }
def ledger (h : Heap) (L d : Addr) : List (Addr × Obj) := (List.range h.objs.size).filterMap fun a => if a = L ∨ a = d then none else (h.get? a).map fun o => (a, o)
end
end Att
namespace L2
open PySem PySem.Spec PyProof.Rows
theorem vals_ints : ∀ {vs : List Value} {ns : List Int}, IntsAre vs ns → Vals (ns.map V.int) vs
  | _, _, .nil => .nil
  | _, _, .cons n t h => .cons ⟨t, rfl⟩ (vals_ints h)
def Only (H : Hp) : Prop := ∀ b, H b = none ∨ ∃ o xs, H b = some (.frz o (.lst xs))
theorem law_call {P : Program} {w : World} {K : PySem.W.Frag} {mg mb : Str → Option Value} {CX : CXT} {k : Nat} {fa a : Addr} {fd : FuncData} {x : Str} {sp : Sp} {s₁ : Shared} {vs : List Value} {ns : List Int}
    (KX : K.In s₁.heap) (hns : s₁.heap.Ns mainGlobals mg) (hb : s₁.heap.Ns builtinsNs mb) (hbb : ∀ x : Str, x ≠ "__name__" → mb x = bootBuiltins x) (hlim : s₁.heap.NoLimit) (hg : s₁.gens = #[])
    (ha : s₁.heap.get? a = some { cls := .type "list", data := .seq vs.toArray }) (hi : IntsAre vs ns) (hl : ns.length ≤ sizeLine) (hr : Room k callerA)
    (F : ∀ base : Heap, K.In base → base.Ns mainGlobals mg → FnOk P w K mg base CX k fa fd [x] sp) (hbind : ∀ (s : Shared) (u : Value), BindsTo s fd ⟨[u], []⟩ [(x, u)])
    (hsp : ∀ H : Hp, Only H → SqL K H a (ns.map V.int) → sp [.ref a] H (fun v _ => v = .bl true) fun _ _ _ => False)
    (hCX : ∀ H e s', CX [] H s₁ (fun _ _ _ => False) e s' → False) :
    codeAny (model P w) callerA (.call (.ref fa) ⟨[.ref a], []⟩) (fun r s' => r = .ok (.ret (.bool true)) ∧ OldK s₁.heap s'.heap ∧ s'.os = s₁.os ∧ AllBare s'.gens) s₁ := by
  have rv := vals_ints hi
  have lenV := hi.length
  have core : ∀ H : Hp, Only H → SqL K H a (ns.map V.int) → HOk P w H s₁.heap → (∀ b, H b ≠ none → b = a) → (H a ≠ none → K.lookup a = none) →
      codeAny (model P w) callerA (.call (.ref fa) ⟨[.ref a], []⟩) (fun r s' => r = .ok (.ret (.bool true)) ∧ OldK s₁.heap s'.heap ∧ s'.os = s₁.os ∧ AllBare s'.gens) s₁ := by
    intro H hO hS hok hA hK
    have base_of : ∀ {b : Addr} {o : Obj}, s₁.heap.get? b = some o → H b = none → (hidT s₁.heap H).get? b = some o := fun e n => hidT_get e n
    have noA : ∀ {b : Addr} {o : Obj} {es : Array DictEntry} {ep : Nat}, s₁.heap.get? b = some o → o.data = .dict es ep → H b = none := fun {b o es ep} e d => by
      cases q : H b with
      | none => rfl
      | some u =>
        have e' : b = a := hA b (by rw [q]; simp)
        subst e'
        rw [ha] at e; cases e
        have d' : Data.seq vs.toArray _ = Data.dict es ep := d
        cases d'
    have nsK : ∀ {b : Addr} {m : Str → Option Value}, s₁.heap.Ns b m → (hidT s₁.heap H).Ns b m := fun {b m} ⟨o, es, ep, e, d, r⟩ => ⟨o, es, ep, base_of e (noA e d), d, r⟩
    have hKb : K.In (hidT s₁.heap H) := fun b o e => base_of (KX b o e) (by
      cases q : H b with
      | none => rfl
      | some u =>
        have e' : b = a := hA b (by rw [q]; simp)
        subst e'
        rw [hK (by rw [q]; simp)] at e; cases e)
    have hM : Mod K mg (hidT s₁.heap H) := ⟨hKb, nsK hns, ⟨mb, nsK hb, hbb⟩, let ⟨mc, h1, h2⟩ := hlim; ⟨mc, nsK h1, h2⟩⟩
    have e0 : Env0 P w K mg (hidT s₁.heap H) callerA [] s₁ H := ⟨rfl, hM, fun b o e => of_hidT e, Nat.le_of_eq (hidT_size _ _), trivial, fun b hb => absurd (show b ∈ ([] : List Addr) from hb) (by simp), hok, .of_eq hg⟩
    refine codeAny_mono ((F _ hKb (nsK hns)).run callerA [] s₁ H ⟨[.ref a], []⟩ [.ref a] [.ref a] _ _ hr e0 (hbind s₁ (.ref a)) (.cons rfl .nil) (hsp H hO hS)) fun r s' h => ?_
    cases r with
    | error e => exact (hCX H e s' h).elim
    | ok fl =>
      cases fl with
      | next => exact False.elim h
      | brk => exact False.elim h
      | cont => exact False.elim h
      | ret u =>
        obtain ⟨v, H', os, bare, un, hok', r', q⟩ := h
        have q' : v = .bl true := q
        subst q'
        obtain rfl : u = Value.bool true := r'
        refine ⟨rfl, OldK.of_keep fun b o e => ?_, os, bare⟩
        cases q : H b with
        | none => exact un.keep b o e q (by intro z; exact absurd (show b ∈ ([] : List Addr) from z) (by simp)) (by simp)
        | some u =>
          rcases hO b with z | ⟨ob, xs, z⟩
          · rw [q] at z; cases z
          · have z2 := un.frzs b ob _ z
            obtain ⟨e1, _⟩ := hok b _ z
            obtain ⟨e2, _⟩ := hok' b _ z2
            rw [e] at e1; cases e1
            exact e2
  cases hk : K.lookup a with
  | some o =>
    have e := KX a o hk
    rw [ha] at e
    cases e
    refine core (fun _ => none) (fun _ => .inl rfl) (.inr ⟨_, vs.toArray, _, hk, rfl, rfl, rfl, by rw [List.size_toArray, lenV]; exact hl, by simpa using rv⟩) (fun b u z => by have z' : (none : Option HO) = some u := z; cases z') (fun b z => absurd rfl z) fun z => absurd rfl z
  | none =>
    refine core (fun b => if b = a then some (.frz { cls := .type "list", data := .seq vs.toArray } (.lst (ns.map V.int))) else none) (fun b => ?_) (.inl (.inr ⟨{ cls := .type "list", data := .seq vs.toArray }, if_pos rfl⟩)) (fun b u z => ?_) (fun b z => ?_) fun _ => hk
    · by_cases hb : b = a
      · exact .inr ⟨_, _, if_pos hb⟩
      · exact .inl (if_neg hb)
    · by_cases hb : b = a
      · have z' := (if_pos hb).symm.trans z
        cases z'
        subst hb
        exact ⟨ha, by rw [List.length_map]; exact hl, vs, _, rv, ha⟩
      · have z' := (if_neg hb).symm.trans z
        cases z'
    · by_cases hb : b = a
      · exact hb
      · exact absurd (if_neg hb) z
end L2
namespace L2
open PySem PySem.Spec PyProof.Rows
abbrev KOf {K : PySem.W.Frag} {h : Heap} (_ : K.In h) : PySem.W.Frag := K
theorem walk_of {l : PySem.W.OpenLaw} {n k : Nat} {q : Program} {loose : List Str} {XP : (Str → Option Value) → Heap → Prop} {YP : World → Heap → Prop} {d : DefRec} {K : Params → PySem.W.Frag} {CX : World → CXT} {sp : World → Sp} {x : Str}
    (hn : l.most = some n) (hn2 : n ≤ sizeLine) (hdf : d.params.defaults = []) (hr : Room k callerA)
    (hY : ∀ (w : World) (h : Heap), YP w h → (K w.params).In h)
    (F : ∀ (w : World) (mg : Str → Option Value) (fa : Addr) (h : Heap), (K w.params).In h → h.Ns mainGlobals mg → mg d.name = some (.ref fa) →
      ∃ fd : FuncData, (∀ (s : Shared) (u : Value), BindsTo s fd ⟨[u], []⟩ [(x, u)]) ∧
        ∀ base : Heap, (K w.params).In base → base.Ns mainGlobals mg → FnOk l.prog w (K w.params) mg base (CX w) k fa fd [x] (sp w))
    (hsp : ∀ (w : World) (H : Hp) (a : Addr) (ns : List Int), ns.length ≤ n → Only H → SqL (K w.params) H a (ns.map V.int) → sp w [.ref a] H (fun v _ => v = .bl true) fun _ _ _ => False)
    (hCX : ∀ (w : World) (H : Hp) (s : Shared) (e : Value) (s' : Shared), CX w [] H s (fun _ _ _ => False) e s' → False) :
    PySem.W.WalkO q loose XP YP l.row.toRowW d [] (fun f vs => PySem.call f vs) := by
  refine Att.attach_call hn hdf fun w s₀ s₁ mg mb fa o pm cd doc a vs ns G Y ho hd hcd hmg hobj hints hlen hg => ?_
  have KX := hY w _ Y
  obtain ⟨fd, hb, hF⟩ := F w mg fa _ KX G.T.g hmg
  exact law_call KX G.T.g G.T.b G.T.builtins G.T.nolimit hg hobj hints (Nat.le_trans hlen hn2) hr hF hb (fun H hO hS => hsp w H a ns hlen hO hS) fun H e s' => hCX w H s₁ e s'
end L2
namespace L2
open PySem PySem.Spec PyProof.Rows
def inClass (s : Stmt) (j : Nat) : Stmt := match s with
  | .ClassDef _ _ _ body _ _ _ _ _ _ _ => body.getD j (.Pass ⟨0, 0, 0, 0⟩)
  | _ => .Pass ⟨0, 0, 0, 0⟩
def defArgs (s : Stmt) : Arguments := match s with
  | .FunctionDef _ a _ _ _ _ _ _ _ _ => a
  | _ => { posonlyargs := [], args := [], vararg := none, kwonlyargs := [], kw_defaults := [], kwarg := none, defaults := [] }
def defBody (s : Stmt) : List Stmt := match s with
  | .FunctionDef _ _ b _ _ _ _ _ _ _ => b
  | _ => []
def defScope (s : Stmt) : Scope := match s with
  | .FunctionDef _ _ _ _ _ _ sc _ _ _ => sc
  | _ => { kind := .function, names := [], isGenerator := false, isCoroutine := false }
abbrev CX0 : CXT := fun _ _ _ _ _ _ => False
abbrev E0 : XK := fun _ _ _ => False
theorem pass0 {X : Cx} : Passes CX0 X E0 := fun _ _ _ _ _ _ _ h => h.elim
structure Fun (K : PySem.W.Frag) (x qual : Str) (st : Stmt) (f : Addr) (fd : FuncData) : Prop where
  ex : ∃ (oc : Value) (od : Option Addr) (kV doc pm : Value) (an : Option Addr) (cdv ct : Value) (osl : Array (Option Value)),
    fd = PySem.W.fnOf x qual (defArgs st) (defBody st) (defScope st) .none kV doc pm an cdv ct ∧ K.lookup f = some ⟨oc, od, .func fd, osl⟩ ∧ PySem.W.codeIn K cdv qual = true
  kp : PySem.W.keepIn K (.ref f) = true
section
variable {P : Program} {w : World} {K : PySem.W.Frag} {mg : Str → Option Value} {base : Heap}
theorem Fun.ok {x qual : Str} {st : Stmt} {f : Addr} {fd : FuncData} {N ps : List Str} {k : Nat} {sp : Sp} (F : Fun K x qual st f fd) (S : FnScope N ps (defScope st)) (len : ∀ vs H Q E, sp vs H Q E → vs.length = ps.length)
    (hbody : ∀ (cdv : Value) (A : Around) (outer : List Env) (s : Shared) (H : Hp) (vs : List V) (Q : VK) (E : XK), Room k (A.deeper (envOfC qual (defScope st) s.heap.objs.size f cdv)) → sp vs H Q E →
      ∃ t, PSs (cxOf CX0 P w K mg base N qual (defScope st) f cdv A outer s H E).nox (defBody st) t ∧ t { nx := fun _ H' => Q .non H', rt := Q } (start N vs) H) : FnOk P w K mg base CX0 (k + 1) f fd ps sp := by
  obtain ⟨oc, od, kV, doc, pm, an, cdv, ct, osl, rfl, lk, hcd⟩ := F.ex
  refine fn_of lk hcd S len fun A outer s H vs Q E hr hsp => ?_
  obtain ⟨t, h, q⟩ := hbody cdv A outer s H vs Q E hr hsp
  exact ⟨t, h.nox, q⟩
theorem Fun.binds {x qual : Str} {st : Stmt} {f : Addr} {fd : FuncData} {ps : List Str} (F : Fun K x qual st f fd)
    (h : ∀ (kV doc pm : Value) (an : Option Addr) (cdv ct : Value) (us : List Value), us.length = ps.length → bindArgs (PySem.W.fnOf x qual (defArgs st) (defBody st) (defScope st) .none kV doc pm an cdv ct) ⟨us, []⟩ = pure (ps.zip us)) : Binds K fd ps [] := by
  obtain ⟨oc, od, kV, doc, pm, an, cdv, ct, osl, rfl, lk, hcd⟩ := F.ex
  exact .all (h kV doc pm an cdv ct)
theorem fun_mk {x qual : Str} {st : Stmt} {f : Addr} {oc : Value} {od an : Option Addr} {osl : Array (Option Value)} {kV doc pm cdv ct : Value} (l : K.lookup f = some ⟨oc, od, .func (PySem.W.fnOf x qual (defArgs st) (defBody st) (defScope st) .none kV doc pm an cdv ct), osl⟩)
    (c : PySem.W.codeIn K cdv qual = true) (k : PySem.W.keepIn K (.ref f) = true) : Fun K x qual st f (PySem.W.fnOf x qual (defArgs st) (defBody st) (defScope st) .none kV doc pm an cdv ct) := ⟨⟨oc, od, kV, doc, pm, an, cdv, ct, osl, rfl, l, c⟩, k⟩
end
theorem hu_of {A : Around} {k : Nat} (hr : Room k A) : A.units + 1 < cLine := Nat.lt_of_le_of_lt (Nat.add_le_add_left (by decide : 1 ≤ 64) _) hr.units
theorem small1000 {n : Nat} (h : n ≤ 1000) : n < sizeLine := Nat.lt_of_le_of_lt h (by decide)
section
variable {X : Cx}
theorem pv (i : Nat) {x : Str} {pos : Pos} (hN : X.N[i]? = some x := by rfl) (hv : Vis X.env.scope x := by first | exact Or.inl rfl | exact Or.inr (Or.inl rfl) | exact Or.inr (Or.inr rfl)) (hd : (x == ("__debug__" : Str)) = false := by decide)
    (hcd : (x == ("__classdict__" : Str)) = false := by decide) : PE X (.Name x pos) (tVar i) := pe_var hN hv hd hcd
end
theorem iteF {A B : Prop} (h : B) : if false = true then A else B := by
  rw [if_neg Bool.false_ne_true]
  exact h
theorem iteT {A B : Prop} (h : A) : if true = true then A else B := by
  rw [if_pos rfl]
  exact h
theorem ite2 {c A B : Prop} [Decidable c] (h1 : c → A) (h2 : ¬ c → B) : if c then A else B := by
  by_cases h : c
  · rw [if_pos h]
    exact h1 h
  · rw [if_neg h]
    exact h2 h
theorem iteNS {c A B : Prop} [Decidable c] (hc : c) (h : B) : if (!decide c) = true then A else B := by
  rw [decide_eq_true hc]
  exact iteF h
def Same (H H' : Hp) : Prop := ∀ b o, H b = some o → H' b = some o
theorem Same.refl (H : Hp) : Same H H := fun _ _ h => h
theorem Same.trans {H H1 H2 : Hp} (a : Same H H1) (b : Same H1 H2) : Same H H2 := fun c o h => b c o (a c o h)
theorem Same.free {H H' : Hp} (e : Same H H') {l : Addr} (h : H' l = Option.none) : H l = Option.none := by
  cases q : H l with
  | none => rfl
  | some o =>
    rw [e l o q] at h
    cases h
theorem Same.seq {K : PySem.W.Frag} {H H' : Hp} {a : Addr} {xs : List V} (e : Same H H') (h : SqL K H a xs) : SqL K H' a xs := by
  rcases h with (h | ⟨o, h⟩) | h
  · exact .inl (.inl (e _ _ h))
  · exact .inl (.inr ⟨o, e _ _ h⟩)
  · exact .inr h
end L2
namespace L2
open PySem PySem.Spec PyProof.Rows
section
variable {X : Cx}
end
end L2
namespace L2
open PySem PySem.Spec PyProof.Rows
section
variable {κ : Type} [DecidableEq κ]
end
end L2
namespace Tim
open PySem PyProof.Rows
set_option autoImplicit false
section
variable {prog : Program} {w : World} {A : Around} {E : Value → Shared → Prop} {s : Shared} {κ : KeyKind} {kd : SortKind} {a₀ : Array Keyed}
def LtG (prog : Program) (w : World) (A : Around) (s : Shared) (κ : KeyKind) (kd : SortKind) : Prop :=
  ∀ (E : Value → Shared → Prop) (x y : Value) (a b : κ.α) (Q : Bool → Shared → Prop), κ.keyOf x = some a → κ.keyOf y = some b → Q (κ.blt a b) s → wpAny (model prog w) A (keyLt' kd x y) Q E s
def ky (κ : KeyKind) (p : Keyed) : κ.α := (κ.keyOf p.1).getD κ.dflt
def Keyd (κ : KeyKind) (p : Keyed) : Prop := ∃ a, κ.keyOf p.1 = some a
theorem Keyd.eq {p : Keyed} (h : Keyd κ p) : κ.keyOf p.1 = some (ky κ p) := by
  obtain ⟨a, e⟩ := h
  unfold ky
  rw [e]
  rfl
theorem lt_G {x y : Keyed} {st : SortSt} {Q : Option Bool → SortSt → Prop} (hO : LtG prog w A s κ kd) (hk : kindOf st = kd) (hx : Keyd κ x) (hy : Keyd κ y) (h : Q (some (κ.blt (ky κ x) (ky κ y))) st) : wpS (model prog w) A E s (lt' x y) Q st := by
  rw [lt'_eq]
  refine wpS_bind (wpS_get ?_)
  rw [hk]
  refine wpS_bind (wpS_lift (wpAny_attempt (hO _ x.1 y.1 _ _ _ hx.eq hy.eq ⟨rfl, ?_⟩)))
  exact wpS_pure h
theorem elem_G {xs : Array Keyed} {i : Nat} {st : SortSt} {Q : Keyed → SortSt → Prop} (hi : i < xs.size) (h : Q xs[i] st) : wpS (model prog w) A E s (elem' xs i) Q st := by
  rw [elem'_eq, Array.getElem?_eq_getElem hi]
  exact wpS_pure h
structure TB (κ : KeyKind) (kd : SortKind) (n : Nat) (st : SortSt) : Prop where
  kind : kindOf st = kd
  keys : ∀ p ∈ (arrOf st).toList, Keyd κ p
  failed : failedOf st = none
  size : (arrOf st).size = n
def kAt (κ : KeyKind) (xs : Array Keyed) (i : Nat) : κ.α := match xs[i]? with
  | some p => ky κ p
  | none => κ.dflt
theorem kAt_get {xs : Array Keyed} {i : Nat} (h : i < xs.size) : kAt κ xs i = ky κ xs[i] := by
  unfold kAt
  rw [Array.getElem?_eq_getElem h]
theorem kAt_congr {xs ys : Array Keyed} {i j : Nat} (h : xs[i]? = ys[j]?) : kAt κ xs i = kAt κ ys j := by
  unfold kAt
  rw [h]
theorem ltAt_G {i j n : Nat} {st : SortSt} {Q : Option Bool → SortSt → Prop} (hO : LtG prog w A s κ kd) (hB : TB κ kd n st) (hi : i < n) (hj : j < n) (h : Q (some (κ.blt (kAt κ (arrOf st) i) (kAt κ (arrOf st) j))) st) : wpS (model prog w) A E s (ltAt' i j) Q st := by
  have hi' : i < (arrOf st).size := by rw [hB.size]; exact hi
  have hj' : j < (arrOf st).size := by rw [hB.size]; exact hj
  rw [ltAt'_eq]
  refine wpS_bind (wpS_get ?_)
  refine wpS_bind (elem_G hi' (wpS_bind (elem_G hj' ?_)))
  refine lt_G hO hB.kind (hB.keys _ (by simp)) (hB.keys _ (by simp)) ?_
  rw [kAt_get hi', kAt_get hj'] at h
  exact h
def Up (κ : KeyKind) (xs : Array Keyed) (lo hi : Nat) : Prop := ∀ i j, lo ≤ i → i ≤ j → j < hi → κ.kle (kAt κ xs i) (kAt κ xs j)
def Dn (κ : KeyKind) (xs : Array Keyed) (lo hi : Nat) : Prop := ∀ i j, lo ≤ i → i ≤ j → j < hi → κ.kle (kAt κ xs j) (kAt κ xs i)
structure Off (xs ys : Array Keyed) (lo hi : Nat) : Prop where
  perm : ys.Perm xs
  out : ∀ k, k < lo ∨ hi ≤ k → ys[k]? = xs[k]?
theorem Off.refl (xs : Array Keyed) (lo hi : Nat) : Off xs xs lo hi := ⟨Array.Perm.refl _, fun _ _ => rfl⟩
theorem Off.trans {xs ys zs : Array Keyed} {lo hi : Nat} (a : Off xs ys lo hi) (b : Off ys zs lo hi) : Off xs zs lo hi := ⟨b.perm.trans a.perm, fun k h => (b.out k h).trans (a.out k h)⟩
theorem Off.wide {xs ys : Array Keyed} {lo hi lo' hi' : Nat} (a : Off xs ys lo hi) (h1 : lo' ≤ lo) (h2 : hi ≤ hi') : Off xs ys lo' hi' := ⟨a.perm, fun k h => a.out k (by (first | lia | omega))⟩
theorem Off.size {xs ys : Array Keyed} {lo hi : Nat} (a : Off xs ys lo hi) : ys.size = xs.size := a.perm.size_eq
theorem TB.off {n lo hi : Nat} {st : SortSt} {ys : Array Keyed} (hB : TB κ kd n st) (h : Off (arrOf st) ys lo hi) : TB κ kd n (setArr st ys) :=
  ⟨hB.kind, fun p hp => hB.keys p ((Array.perm_iff_toList_perm.mp h.perm).mem_iff.mp hp), hB.failed, h.size.trans hB.size⟩
theorem off_mirror {xs : Array Keyed} {i j : Nat} (hj : j ≤ xs.size) : Off xs (mirror xs i j ((j - i) / 2)) i j := ⟨mirror_perm _ _ _ _, fun k hk => by rw [getElem?_mirror_all hj, if_neg (by (first | lia | omega))]⟩
theorem kAt_mirror {xs : Array Keyed} {i j k : Nat} (hj : j ≤ xs.size) (hk : i ≤ k ∧ k < j) : kAt κ (mirror xs i j ((j - i) / 2)) k = kAt κ xs (i + j - 1 - k) := by
  apply kAt_congr
  rw [getElem?_mirror_all hj, if_pos hk]
theorem kAt_off {xs ys : Array Keyed} {lo hi k : Nat} (h : Off xs ys lo hi) (hk : k < lo ∨ hi ≤ k) : kAt κ ys k = kAt κ xs k := kAt_congr (h.out k hk)
theorem kAt_same {xs : Array Keyed} {i j : Nat} (hj : j ≤ xs.size) (he : ∀ k, i ≤ k → k < j → kAt κ xs k = kAt κ xs (j - 1)) (k : Nat) : kAt κ (mirror xs i j ((j - i) / 2)) k = kAt κ xs k := by
  by_cases hk : i ≤ k ∧ k < j
  · rw [kAt_mirror hj hk, he _ (by (first | lia | omega)) (by (first | lia | omega)), he k hk.1 hk.2]
  · exact kAt_off (off_mirror hj) (by (first | lia | omega))
theorem wpS_rev {i j : Nat} {st : SortSt} {Q : Unit → SortSt → Prop} (h : Q () (setArr st (mirror (arrOf st) i j ((j - i) / 2)))) : wpS (model prog w) A E s (reverseSlice' i j) Q st := by
  rw [reverseSlice'_eq]
  exact wpS_modify h
theorem wpS_rule {σ : Type} {n : String} {Q : Unit → σ → Prop} {st : σ} (h : Q () st) : wpS (model prog w) A E s (liftM (rule n) : StateT σ Sem Unit) Q st := wpS_lift (wpAny_rule ⟨rfl, h⟩)
end
end Tim
namespace Tim
open PySem PyProof.Rows
set_option autoImplicit false
section
variable {prog : Program} {w : World} {A : Around} {E : Value → Shared → Prop} {s : Shared} {κ : KeyKind} {kd : SortKind}
def RunOk (κ : KeyKind) (st : SortSt) (lo least nrem : Nat) (r : Option Nat) (st' : SortSt) : Prop :=
  ∃ n ys, r = some n ∧ least ≤ n ∧ n ≤ nrem ∧ st' = setArr st ys ∧ Off (arrOf st) ys lo (lo + n) ∧ Up κ ys lo (lo + n)
theorem up_one {xs : Array Keyed} {lo : Nat} : Up κ xs lo (lo + 1) := fun i j h1 h2 h3 => by
  have : i = j := by (first | lia | omega)
  subst this
  exact KeyOrd.kle_refl _
theorem Up.more {xs : Array Keyed} {lo hi : Nat} (h : Up κ xs lo hi) (hlo : lo < hi) (hn : κ.kle (kAt κ xs (hi - 1)) (kAt κ xs hi)) : Up κ xs lo (hi + 1) := fun i j h1 h2 h3 => by
  by_cases hj : j < hi
  · exact h i j h1 h2 hj
  · have e : j = hi := by (first | lia | omega)
    subst e
    by_cases hi' : i = j
    · subst hi'; exact KeyOrd.kle_refl _
    · exact KeyOrd.kle_trans (h i (j - 1) h1 (by (first | lia | omega)) (by (first | lia | omega))) hn
theorem Dn.more {xs : Array Keyed} {lo hi : Nat} (h : Dn κ xs lo hi) (hlo : lo < hi) (hn : κ.kle (kAt κ xs hi) (kAt κ xs (hi - 1))) : Dn κ xs lo (hi + 1) := fun i j h1 h2 h3 => by
  by_cases hj : j < hi
  · exact h i j h1 h2 hj
  · have e : j = hi := by (first | lia | omega)
    subst e
    by_cases hi' : i = j
    · subst hi'; exact KeyOrd.kle_refl _
    · exact KeyOrd.kle_trans hn (h i (j - 1) h1 (by (first | lia | omega)) (by (first | lia | omega)))
theorem wp_asc {st : SortSt} {N lo n nrem : Nat} {Q : Option (Option Nat) × Nat → SortSt → Prop} (hO : LtG prog w A s κ kd) (hB : TB κ kd N st) (hlo : lo + nrem ≤ N) (h1 : 1 ≤ n) (hn : n ≤ nrem) (hU : Up κ (arrOf st) lo (lo + n))
    (h : ∀ m, n ≤ m → m ≤ nrem → Up κ (arrOf st) lo (lo + m) → (m < nrem → κ.klt (kAt κ (arrOf st) (lo + m)) (kAt κ (arrOf st) (lo + m - 1))) → Q (none, m) st) :
    wpS (model prog w) A E s (forIn [n:nrem] ((none, n) : Option (Option Nat) × Nat) fun _ __s => do
      let __x ← ltAt' (lo + __s.snd) (lo + __s.snd - 1)
      match __x with
      | some smaller => if smaller = true then pure (ForInStep.done (none, __s.snd)) else pure (ForInStep.yield (none, __s.snd + 1))
      | _ => pure (ForInStep.done (some none, __s.snd))) Q st := by
  refine wpS_forRange (I := fun i c st' => st' = st ∧ c = (none, i) ∧ n ≤ i ∧ i ≤ nrem ∧ Up κ (arrOf st) lo (lo + i)) ?_ ?_ ⟨rfl, rfl, Nat.le_refl _, hn, hU⟩
  · rintro i c st' hi1 hi2 ⟨rfl, rfl, h3, h4, hU'⟩
    refine wpS_bind (ltAt_G hO hB (by (first | lia | omega)) (by (first | lia | omega)) ?_)
    dsimp only
    cases e : κ.blt (kAt κ (arrOf st') (lo + i)) (kAt κ (arrOf st') (lo + i - 1)) with
    | true => exact wpS_pure (h i h3 h4 hU' fun _ => e)
    | false => exact wpS_pure ⟨rfl, rfl, by (first | lia | omega), by (first | lia | omega), hU'.more (by (first | lia | omega)) e⟩
  · rintro c st' ⟨rfl, rfl, h3, h4, hU'⟩
    exact h _ h3 h4 hU' fun z => absurd z (by (first | lia | omega))
theorem wp_tail {st : SortSt} {N lo n nrem : Nat} {Q : Option Nat → SortSt → Prop} {k : Option (Option Nat) × Nat → StateT SortSt Sem (Option Nat)} (hk : ∀ m, k (none, m) = pure (some m)) (hO : LtG prog w A s κ kd) (hB : TB κ kd N st) (hlo : lo + nrem ≤ N) (h1 : 1 ≤ n) (hn : n ≤ nrem) (hD : Dn κ (arrOf st) lo (lo + n))
    (h : ∀ r st', RunOk κ st lo n nrem r st' → Q r st') :
    wpS (model prog w) A E s (do
      reverseSlice' lo (lo + n)
      let c ← forIn [n:nrem] ((none, n) : Option (Option Nat) × Nat) fun _ __s => do
        let __x ← ltAt' (lo + __s.snd) (lo + __s.snd - 1)
        match __x with
        | some smaller => if smaller = true then pure (ForInStep.done (none, __s.snd)) else pure (ForInStep.yield (none, __s.snd + 1))
        | _ => pure (ForInStep.done (some none, __s.snd))
      k c) Q st := by
  have hz : lo + n ≤ (arrOf st).size := by rw [hB.size]; (first | lia | omega)
  have hoff := off_mirror (xs := arrOf st) (i := lo) (j := lo + n) hz
  refine wpS_bind (wpS_rev ?_)
  refine wpS_bind (wp_asc hO (hB.off hoff) hlo h1 hn (fun i j q1 q2 q3 => ?_) fun m m1 m2 hU _ => ?_)
  · rw [kAt_mirror hz (by (first | lia | omega)), kAt_mirror hz (by (first | lia | omega))]
    exact hD _ _ (by (first | lia | omega)) (by (first | lia | omega)) (by (first | lia | omega))
  · rw [hk]
    exact wpS_pure (h _ _ ⟨m, _, rfl, m1, m2, rfl, hoff.wide (Nat.le_refl _) (by (first | lia | omega)), hU⟩)
theorem wp_desc {st : SortSt} {N lo n nrem : Nat} {Q : Option (Option Nat) × Nat × Nat → SortSt → Prop} (hO : LtG prog w A s κ kd) (hB : TB κ kd N st) (hlo : lo + nrem ≤ N) (h1 : 1 ≤ n) (hn : n ≤ nrem) (hD : Dn κ (arrOf st) lo (lo + n))
    (h : ∀ m neq ys, n ≤ m → m ≤ nrem → neq < m → Off (arrOf st) ys lo (lo + m) → Dn κ ys lo (lo + m) → (∀ k, lo + m - (neq + 1) ≤ k → k < lo + m → kAt κ ys k = kAt κ ys (lo + m - 1)) → Q (none, m, neq) (setArr st ys)) :
    wpS (model prog w) A E s (forIn [n:nrem] ((none, n, 0) : Option (Option Nat) × Nat × Nat) fun _ __s => do
      let __x ← ltAt' (lo + __s.snd.fst) (lo + __s.snd.fst - 1)
      match __x with
      | some smaller =>
        if smaller = true then
          if __s.snd.snd > 0 then do
            let _ ← reverseSlice' (lo + __s.snd.fst - (__s.snd.snd + 1)) (lo + __s.snd.fst)
            pure (ForInStep.yield (none, __s.snd.fst + 1, 0))
          else pure (ForInStep.yield (none, __s.snd.fst + 1, 0))
        else do
          let __x ← ltAt' (lo + __s.snd.fst - 1) (lo + __s.snd.fst)
          match __x with
          | some larger =>
            if larger = true then pure (ForInStep.done (none, __s.snd.fst, __s.snd.snd))
            else pure (ForInStep.yield (none, __s.snd.fst + 1, __s.snd.snd + 1))
          | _ => pure (ForInStep.done (some none, __s.snd.fst, __s.snd.snd))
      | _ => pure (ForInStep.done (some none, __s.snd.fst, __s.snd.snd))) Q st := by
  refine wpS_forRange (I := fun i c st' => ∃ neq ys, st' = setArr st ys ∧ c = (none, i, neq) ∧ n ≤ i ∧ i ≤ nrem ∧ neq < i ∧ Off (arrOf st) ys lo (lo + i) ∧ Dn κ ys lo (lo + i) ∧ ∀ k, lo + i - (neq + 1) ≤ k → k < lo + i → kAt κ ys k = kAt κ ys (lo + i - 1)) ?_ ?_ ⟨0, arrOf st, rfl, rfl, Nat.le_refl _, hn, h1, Off.refl _ _ _, hD, fun k q1 q2 => by rw [show k = lo + n - 1 by (first | lia | omega)]⟩
  · rintro i c st' hi1 hi2 ⟨neq, ys, rfl, rfl, h3, h4, h5, ho, hD', he⟩
    have hB' : TB κ kd N (setArr st ys) := hB.off ho
    have hz : lo + i ≤ ys.size := by rw [ho.size, hB.size]; (first | lia | omega)
    dsimp only
    refine wpS_bind (ltAt_G hO hB' (by (first | lia | omega)) (by (first | lia | omega)) ?_)
    dsimp only
    cases e : κ.blt (kAt κ ys (lo + i)) (kAt κ ys (lo + i - 1)) with
    | true =>
      simp only [if_true]
      by_cases hq : neq > 0
      · rw [if_pos hq]
        have hoff := off_mirror (xs := ys) (i := lo + i - (neq + 1)) (j := lo + i) hz
        have hk := kAt_same (κ := κ) hz he
        refine wpS_bind (wpS_rev (wpS_pure ⟨0, _, rfl, rfl, by (first | lia | omega), by (first | lia | omega), by (first | lia | omega), ho.wide (Nat.le_refl _) (by (first | lia | omega)) |>.trans (hoff.wide (by (first | lia | omega)) (by (first | lia | omega))), ?_, fun k q1 q2 => by rw [show k = lo + (i + 1) - 1 by (first | lia | omega)]⟩))
        have : Dn κ (mirror ys (lo + i - (neq + 1)) (lo + i) ((lo + i - (lo + i - (neq + 1))) / 2)) lo (lo + i) := fun a b q1 q2 q3 => by rw [hk, hk]; exact hD' a b q1 q2 q3
        exact this.more (by (first | lia | omega)) (by rw [hk, hk]; exact KeyOrd.kle_of_klt e)
      · rw [if_neg hq]
        exact wpS_pure ⟨0, ys, rfl, rfl, by (first | lia | omega), by (first | lia | omega), by (first | lia | omega), ho.wide (Nat.le_refl _) (by (first | lia | omega)), hD'.more (by (first | lia | omega)) (KeyOrd.kle_of_klt e), fun k q1 q2 => by rw [show k = lo + (i + 1) - 1 by (first | lia | omega)]⟩
    | false =>
      simp only [Bool.false_eq_true, if_false]
      refine wpS_bind (ltAt_G hO hB' (by (first | lia | omega)) (by (first | lia | omega)) ?_)
      dsimp only
      cases e2 : κ.blt (kAt κ ys (lo + i - 1)) (kAt κ ys (lo + i)) with
      | true => exact wpS_pure (h i neq ys h3 h4 h5 ho hD' he)
      | false =>
        have eq : kAt κ ys (lo + i) = kAt κ ys (lo + i - 1) := κ.total _ _ e e2
        refine wpS_pure ⟨neq + 1, ys, rfl, rfl, by (first | lia | omega), by (first | lia | omega), by (first | lia | omega), ho.wide (Nat.le_refl _) (by (first | lia | omega)), hD'.more (by (first | lia | omega)) (by rw [eq]; exact KeyOrd.kle_refl _), fun k q1 q2 => ?_⟩
        rw [show lo + (i + 1) - 1 = lo + i by (first | lia | omega), eq]
        by_cases hk : k = lo + i
        · rw [hk]; exact eq
        · exact he k (by (first | lia | omega)) (by (first | lia | omega))
  · rintro c st' ⟨neq, ys, rfl, rfl, h3, h4, h5, ho, hD', he⟩
    exact h _ neq ys h3 h4 h5 ho hD' he
theorem wp_after {st : SortSt} {N lo n nrem m neq : Nat} {ys : Array Keyed} {Q : Option Nat → SortSt → Prop} {t : StateT SortSt Sem (Option Nat)} (hB : TB κ kd N st) (hlo : lo + nrem ≤ N) (m1 : n + 1 ≤ m) (m2 : m ≤ nrem) (m3 : neq < m)
    (ho : Off (arrOf st) ys lo (lo + m)) (hD : Dn κ ys lo (lo + m)) (he : ∀ k, lo + m - (neq + 1) ≤ k → k < lo + m → kAt κ ys k = kAt κ ys (lo + m - 1)) (h : ∀ r st', RunOk κ st lo (n + 1) nrem r st' → Q r st')
    (ht : ∀ st', TB κ kd N st' → Dn κ (arrOf st') lo (lo + m) → (∀ r st'', RunOk κ st' lo m nrem r st'' → Q r st'') → wpS (model prog w) A E s t Q st') :
    wpS (model prog w) A E s (if neq > 0 then do
      let _ ← reverseSlice' (lo + m - (neq + 1)) (lo + m)
      t else t) Q (setArr st ys) := by
  have hz : lo + m ≤ ys.size := by rw [ho.size, hB.size]; (first | lia | omega)
  have back : ∀ zs, Off (arrOf st) zs lo (lo + m) → ∀ r st', RunOk κ (setArr st zs) lo m nrem r st' → Q r st' := fun zs hz r st' hr => by
    obtain ⟨q, vs, e1, e2, e3, e4, e5, e6⟩ := hr
    exact h r st' ⟨q, vs, e1, by (first | lia | omega), e3, e4, (hz.wide (Nat.le_refl _) (by (first | lia | omega))).trans e5, e6⟩
  by_cases hq : neq > 0
  · rw [if_pos hq]
    have hoff := off_mirror (xs := ys) (i := lo + m - (neq + 1)) (j := lo + m) hz
    have hk := kAt_same (κ := κ) hz he
    have ho2 := ho.trans (hoff.wide (by (first | lia | omega)) (Nat.le_refl _))
    refine wpS_bind (wpS_rev ?_)
    refine ht _ (hB.off ho2) (fun a b q1 q2 q3 => ?_) (back _ ho2)
    show κ.kle (kAt κ (mirror ys (lo + m - (neq + 1)) (lo + m) ((lo + m - (lo + m - (neq + 1))) / 2)) b) (kAt κ (mirror ys (lo + m - (neq + 1)) (lo + m) ((lo + m - (lo + m - (neq + 1))) / 2)) a)
    rw [hk, hk]
    exact hD a b q1 q2 q3
  · rw [if_neg hq]
    exact ht _ (hB.off ho) hD (back _ ho)
theorem wp_countRun {st : SortSt} {N lo nrem : Nat} {Q : Option Nat → SortSt → Prop} (hO : LtG prog w A s κ kd) (hB : TB κ kd N st) (hlo : lo + nrem ≤ N) (h1 : 1 ≤ nrem) (h : ∀ r st', RunOk κ st lo 1 nrem r st' → Q r st') :
    wpS (model prog w) A E s (countRun' lo nrem) Q st := by
  rw [countRun'_eq]
  refine wpS_bind (wp_asc hO hB hlo (Nat.le_refl 1) h1 up_one fun m m1 m2 hU hnext => ?_)
  dsimp only
  by_cases hm : m = nrem
  · rw [if_pos (by simpa using hm)]
    exact wpS_pure (h _ _ ⟨m, arrOf st, rfl, m1, m2, rfl, Off.refl _ _ _, hU⟩)
  · rw [if_neg (by simpa using hm)]
    have hnx := hnext (by (first | lia | omega))
    by_cases hm1 : m > 1
    · rw [if_pos hm1]
      refine wpS_bind (ltAt_G hO hB (by (first | lia | omega)) (by (first | lia | omega)) ?_)
      cases e : κ.blt (kAt κ (arrOf st) lo) (kAt κ (arrOf st) (lo + m - 1)) with
      | true =>
        simp only [if_true]
        exact wpS_pure (h _ _ ⟨m, arrOf st, rfl, m1, m2, rfl, Off.refl _ _ _, hU⟩)
      | false =>
        simp only [Bool.false_eq_true, if_false]
        have hz : lo + m ≤ (arrOf st).size := by rw [hB.size]; (first | lia | omega)
        have hoff := off_mirror (xs := arrOf st) (i := lo) (j := lo + m) hz
        have all : ∀ k, lo ≤ k → k < lo + m → kAt κ (arrOf st) k = kAt κ (arrOf st) (lo + m - 1) := fun k q1 q2 =>
          KeyOrd.kle_antisymm (hU k (lo + m - 1) q1 (by (first | lia | omega)) (by (first | lia | omega))) (KeyOrd.kle_trans (show κ.kle (kAt κ (arrOf st) (lo + m - 1)) (kAt κ (arrOf st) lo) from e) (hU lo k (Nat.le_refl _) q1 q2))
        have hk := kAt_same (κ := κ) hz all
        refine wpS_bind (wpS_rev ?_)
        have fin : ∀ r st', RunOk κ (setArr st (mirror (arrOf st) lo (lo + m) ((lo + m - lo) / 2))) lo (m + 1) nrem r st' → Q r st' := fun r st' hr => by
          obtain ⟨q, vs, e1, e2, e3, e4, e5, e6⟩ := hr
          exact h r st' ⟨q, vs, e1, by (first | lia | omega), e3, e4, (hoff.wide (Nat.le_refl _) (by (first | lia | omega))).trans e5, e6⟩
        refine wpS_bind (wpS_rule (wpS_bind (wp_desc hO (hB.off hoff) hlo (by (first | lia | omega)) (by (first | lia | omega)) ?_ fun m' neq ys p1 p2 p3 ho hD' he => ?_)))
        rotate_left
        · dsimp only
          exact wp_after (n := m) (hB.off hoff) hlo p1 p2 p3 ho hD' he fin fun st' hB' hDD hh => wp_tail (fun _ => rfl) hO hB' hlo (by (first | lia | omega)) p2 hDD hh
        · have d0 : Dn κ (arrOf st) lo (lo + m) := fun a b q1 q2 q3 => by rw [all a q1 (by (first | lia | omega)), all b (by (first | lia | omega)) q3]; exact KeyOrd.kle_refl _
          have d1 := d0.more (by (first | lia | omega)) (KeyOrd.kle_of_klt hnx)
          intro a b q1 q2 q3
          show κ.kle (kAt κ (mirror (arrOf st) lo (lo + m) ((lo + m - lo) / 2)) b) (kAt κ (mirror (arrOf st) lo (lo + m) ((lo + m - lo) / 2)) a)
          rw [hk, hk]
          exact d1 a b q1 q2 (by (first | lia | omega))
    · rw [if_neg hm1]
      have e1 : m = 1 := by (first | lia | omega)
      subst e1
      have fin : ∀ r st', RunOk κ st lo (1 + 1) nrem r st' → Q r st' := fun r st' hr => by
        obtain ⟨q, vs, e1, e2, e3, e4, e5, e6⟩ := hr
        exact h r st' ⟨q, vs, e1, by (first | lia | omega), e3, e4, e5, e6⟩
      refine wpS_bind (wpS_rule (wpS_bind (wp_desc hO hB hlo (by (first | lia | omega)) (by (first | lia | omega)) ?_ fun m' neq ys p1 p2 p3 ho hD' he => ?_)))
      rotate_left
      · dsimp only
        exact wp_after (n := 1) hB hlo p1 p2 p3 ho hD' he fin fun st' hB' hDD hh => wp_tail (fun _ => rfl) hO hB' hlo (by (first | lia | omega)) p2 hDD hh
      · intro a b q1 q2 q3
        by_cases hab : a = b
        · subst hab; exact KeyOrd.kle_refl _
        · have ea : a = lo + 1 - 1 := by (first | lia | omega)
          have eb : b = lo + 1 := by (first | lia | omega)
          rw [ea, eb]
          exact KeyOrd.kle_of_klt hnx
end
end Tim
namespace Tim
open PySem PyProof.Rows
set_option autoImplicit false
section
variable {prog : Program} {w : World} {A : Around} {E : Value → Shared → Prop} {s : Shared} {κ : KeyKind} {kd : SortKind}
theorem off_bubble {xs : Array Keyed} {src dst hi : Nat} (hs : src < xs.size) (hd : dst ≤ src) (hh : src < hi) : Off xs (bubble xs src (src - dst)) dst hi :=
  ⟨bubble_perm _ _ _, fun k hk => by
    rw [getElem?_bubble hs _ (by (first | lia | omega))]
    rw [if_neg (by (first | lia | omega)), if_neg (by (first | lia | omega))]⟩
theorem kAt_bubble {xs : Array Keyed} {src dst : Nat} (hs : src < xs.size) (hd : dst ≤ src) (k : Nat) : kAt κ (bubble xs src (src - dst)) k = if k = dst then kAt κ xs src else if dst < k ∧ k ≤ src then kAt κ xs (k - 1) else kAt κ xs k := by
  have e := getElem?_bubble hs (src - dst) (by (first | lia | omega)) k
  rw [show src - (src - dst) = dst by (first | lia | omega)] at e
  by_cases h1 : k = dst
  · rw [if_pos h1] at e ⊢; exact kAt_congr e
  · rw [if_neg h1] at e ⊢
    by_cases h2 : dst < k ∧ k ≤ src
    · rw [if_pos h2] at e ⊢; exact kAt_congr e
    · rw [if_neg h2] at e ⊢; exact kAt_congr e
theorem wp_binarySort {st : SortSt} {N lo n ok : Nat} {Q : Bool → SortSt → Prop} (hO : LtG prog w A s κ kd) (hB : TB κ kd N st) (hlo : lo + n ≤ N) (hok : ok ≤ n) (hU : Up κ (arrOf st) lo (lo + ok))
    (h : ∀ ys, Off (arrOf st) ys lo (lo + n) → Up κ ys lo (lo + n) → Q true (setArr st ys)) : wpS (model prog w) A E s (binarySort' lo n ok) Q st := by
  rw [binarySort'_eq]
  refine wpS_bind (wpS_mono (wpS_forRange (I := fun k c st' => c = (none, ()) ∧ ∃ ys, st' = setArr st ys ∧ Off (arrOf st) ys lo (lo + n) ∧ Up κ ys lo (lo + min k n))
    (Q := fun c st' => c = (none, ()) ∧ ∃ ys, st' = setArr st ys ∧ Off (arrOf st) ys lo (lo + n) ∧ Up κ ys lo (lo + n)) ?step ?fin ?init) ?post)
  case post =>
    rintro c st' ⟨rfl, ys, rfl, ho, hu⟩
    exact wpS_pure (h ys ho hu)
  case init =>
    refine ⟨rfl, arrOf st, rfl, Off.refl _ _ _, fun i j h1 h2 h3 => ?_⟩
    by_cases hz : j < lo + ok
    · exact hU i j h1 h2 hz
    · have : i = j := by (first | lia | omega)
      subst this
      exact KeyOrd.kle_refl _
  case fin =>
    rintro c st' ⟨rfl, ys, rfl, ho, hu⟩
    refine ⟨rfl, ys, rfl, ho, ?_⟩
    rwa [show min (max (max ok 1) n) n = n by (first | lia | omega)] at hu
  case step =>
    rintro k c st' hk1 hk2 ⟨rfl, ys, rfl, ho, hu⟩
    rw [show min k n = k by (first | lia | omega)] at hu
    have hB' : TB κ kd N (setArr st ys) := hB.off ho
    have hz : ys.size = N := by rw [ho.size, hB.size]
    refine wpS_bind (wpS_mono (wpS_forRange (I := fun x c st'' => st'' = setArr st ys ∧ ∃ l r, c = (none, l, r) ∧ l ≤ r ∧ r ≤ k ∧ r - l ≤ k - x ∧
        (∀ i, i < l → κ.kle (kAt κ ys (lo + i)) (kAt κ ys (lo + k))) ∧ (∀ i, r ≤ i → i < k → κ.klt (kAt κ ys (lo + k)) (kAt κ ys (lo + i))))
      (Q := fun c st'' => st'' = setArr st ys ∧ ∃ l r, c = (none, l, r) ∧ l ≤ k ∧
        (∀ i, i < l → κ.kle (kAt κ ys (lo + i)) (kAt κ ys (lo + k))) ∧ (∀ i, l ≤ i → i < k → κ.klt (kAt κ ys (lo + k)) (kAt κ ys (lo + i)))) ?istep ?ifin ?iinit) ?ipost)
    case iinit => exact ⟨rfl, 0, k, rfl, by (first | lia | omega), by (first | lia | omega), by (first | lia | omega), fun i hi => by (first | lia | omega), fun i h1 h2 => by (first | lia | omega)⟩
    case ifin =>
      rintro c st'' ⟨rfl, l, r, rfl, hlr, hrk, hm, a1, a2⟩
      have : l = r := by (first | lia | omega)
      subst this
      exact ⟨rfl, l, l, rfl, hrk, a1, a2⟩
    case istep =>
      rintro x c st'' _ hxk ⟨rfl, l, r, rfl, hlr, hrk, hm, a1, a2⟩
      dsimp only
      by_cases hge : l ≥ r
      · rw [if_pos hge]
        have : l = r := by (first | lia | omega)
        subst this
        exact wpS_pure ⟨rfl, l, l, rfl, hrk, a1, a2⟩
      · rw [if_neg hge]
        refine wpS_bind (ltAt_G hO hB' (by (first | lia | omega)) (by (first | lia | omega)) ?_)
        dsimp only
        cases e : κ.blt (kAt κ ys (lo + k)) (kAt κ ys (lo + (l + r) / 2)) with
        | true =>
          refine wpS_pure ⟨rfl, l, (l + r) / 2, rfl, by (first | lia | omega), by (first | lia | omega), by (first | lia | omega), a1, fun i h1 h2 => ?_⟩
          exact KeyOrd.klt_of_klt_of_kle e (hu _ _ (by (first | lia | omega)) (by (first | lia | omega)) (by (first | lia | omega)))
        | false =>
          refine wpS_pure ⟨rfl, (l + r) / 2 + 1, r, rfl, by (first | lia | omega), by (first | lia | omega), by (first | lia | omega), fun i h1 => ?_, a2⟩
          exact KeyOrd.kle_trans (hu (lo + i) (lo + (l + r) / 2) (by (first | lia | omega)) (by (first | lia | omega)) (by (first | lia | omega))) (show κ.kle (kAt κ ys (lo + (l + r) / 2)) (kAt κ ys (lo + k)) from e)
    case ipost =>
      rintro c st'' ⟨rfl, l, r, rfl, hlk, a1, a2⟩
      dsimp only
      rw [moveDown'_eq]
      refine wpS_bind (wpS_modify (wpS_pure ⟨rfl, _, rfl, ho.trans ((off_bubble (hi := lo + n) (by rw [hz]; (first | lia | omega)) (by (first | lia | omega)) (by (first | lia | omega))).wide (by (first | lia | omega)) (Nat.le_refl _)), ?_⟩))
      rw [show min (k + 1) n = k + 1 by (first | lia | omega)]
      intro i j h1 h2 h3
      show κ.kle (kAt κ (bubble ys (lo + k) (lo + k - (lo + l))) i) (kAt κ (bubble ys (lo + k) (lo + k - (lo + l))) j)
      rw [kAt_bubble (by rw [hz]; (first | lia | omega)) (by (first | lia | omega)), kAt_bubble (by rw [hz]; (first | lia | omega)) (by (first | lia | omega))]
      have lowS : ∀ i, lo ≤ i → i < lo + l → κ.kle (kAt κ ys i) (kAt κ ys (lo + k)) := fun i q1 q2 => by
        have := a1 (i - lo) (by (first | lia | omega))
        rw [show lo + (i - lo) = i by (first | lia | omega)] at this
        exact this
      have highS : ∀ i, lo + l ≤ i → i < lo + k → κ.kle (kAt κ ys (lo + k)) (kAt κ ys i) := fun i q1 q2 => by
        have := a2 (i - lo) (by (first | lia | omega)) (by (first | lia | omega))
        rw [show lo + (i - lo) = i by (first | lia | omega)] at this
        exact KeyOrd.kle_of_klt this
      by_cases i1 : i = lo + l
      · rw [if_pos i1]
        by_cases j1 : j = lo + l
        · rw [if_pos j1]; exact KeyOrd.kle_refl _
        · rw [if_neg j1, if_pos (by (first | lia | omega))]
          exact highS _ (by (first | lia | omega)) (by (first | lia | omega))
      · rw [if_neg i1]
        by_cases i2 : lo + l < i ∧ i ≤ lo + k
        · rw [if_pos i2, if_neg (by (first | lia | omega)), if_pos (by (first | lia | omega))]
          exact hu _ _ (by (first | lia | omega)) (by (first | lia | omega)) (by (first | lia | omega))
        · rw [if_neg i2]
          by_cases j1 : j = lo + l
          · rw [if_pos j1]
            exact lowS i h1 (by (first | lia | omega))
          · rw [if_neg j1]
            by_cases j2 : lo + l < j ∧ j ≤ lo + k
            · rw [if_pos j2]
              exact hu _ _ h1 (by (first | lia | omega)) (by (first | lia | omega))
            · rw [if_neg j2]
              exact hu _ _ h1 h2 (by (first | lia | omega))
end
end Tim
namespace Tim
open PySem PyProof.Rows
set_option autoImplicit false
section
variable {M : Model} {A : Around} {E : Value → Shared → Prop} {s : Shared} {st : SortSt} {n hint : Nat} {p : Nat → Bool}
abbrev C2 := Option (Option Nat) × Nat × Nat
theorem wp_right {Q : C2 → SortSt → Prop} {f : Nat → C2 → StateT SortSt Sem (ForInStep C2)} (hn : hint < n) (hp : p hint = true)
    (f1 : ∀ x l o, o ≥ n - hint → f x (none, l, o) = pure (.done (none, l, o)))
    (f2 : ∀ x l o (R : ForInStep C2 → SortSt → Prop), o < n - hint → (p (hint + o) = true → R (.yield (none, o, 2 * o + 1)) st) → (p (hint + o) = false → R (.done (none, l, o)) st) → wpS M A E s (f x (none, l, o)) R st)
    (h : ∀ l o, l < o → hint + l < n → p (hint + l) = true → (o < n - hint → p (hint + o) = false) → Q (none, l, o) st) : wpS M A E s (forIn [:n] ((none, 0, 1) : C2) f) Q st := by
  refine wpS_forRange (I := fun i c st' => st' = st ∧ ∃ l o, c = (none, l, o) ∧ l < o ∧ i + 1 ≤ o ∧ hint + l < n ∧ p (hint + l) = true) ?_ ?_ ⟨rfl, 0, 1, rfl, by (first | lia | omega), by (first | lia | omega), by (first | lia | omega), hp⟩
  · rintro i c st' _ hi ⟨rfl, l, o, rfl, h1, h2, h3, h4⟩
    by_cases ho : o ≥ n - hint
    · rw [f1 i l o ho]
      exact wpS_pure (h l o h1 h3 h4 fun z => absurd z (by (first | lia | omega)))
    · refine f2 i l o _ (by (first | lia | omega)) (fun e => ?_) fun e => ?_
      · exact ⟨rfl, o, 2 * o + 1, rfl, by (first | lia | omega), by (first | lia | omega), by (first | lia | omega), e⟩
      · exact h l o h1 h3 h4 fun _ => e
  · rintro c st' ⟨rfl, l, o, rfl, h1, h2, h3, h4⟩
    exact h l o h1 h3 h4 fun z => absurd z (by (first | lia | omega))
theorem wp_left {Q : C2 → SortSt → Prop} {f : Nat → C2 → StateT SortSt Sem (ForInStep C2)} (hn : hint < n) (hp : p hint = false)
    (f1 : ∀ x l o, o ≥ hint + 1 → f x (none, l, o) = pure (.done (none, l, o)))
    (f2 : ∀ x l o (R : ForInStep C2 → SortSt → Prop), o < hint + 1 → (p (hint - o) = false → R (.yield (none, o, 2 * o + 1)) st) → (p (hint - o) = true → R (.done (none, l, o)) st) → wpS M A E s (f x (none, l, o)) R st)
    (h : ∀ l o, l < o → l ≤ hint → p (hint - l) = false → (o < hint + 1 → p (hint - o) = true) → Q (none, l, o) st) : wpS M A E s (forIn [:n] ((none, 0, 1) : C2) f) Q st := by
  refine wpS_forRange (I := fun i c st' => st' = st ∧ ∃ l o, c = (none, l, o) ∧ l < o ∧ i + 1 ≤ o ∧ l ≤ hint ∧ p (hint - l) = false) ?_ ?_ ⟨rfl, 0, 1, rfl, by (first | lia | omega), by (first | lia | omega), by (first | lia | omega), hp⟩
  · rintro i c st' _ hi ⟨rfl, l, o, rfl, h1, h2, h3, h4⟩
    by_cases ho : o ≥ hint + 1
    · rw [f1 i l o ho]
      exact wpS_pure (h l o h1 h3 h4 fun z => absurd z (by (first | lia | omega)))
    · refine f2 i l o _ (by (first | lia | omega)) (fun e => ?_) fun e => ?_
      · exact ⟨rfl, o, 2 * o + 1, rfl, by (first | lia | omega), by (first | lia | omega), by (first | lia | omega), e⟩
      · exact h l o h1 h3 h4 fun _ => e
  · rintro c st' ⟨rfl, l, o, rfl, h1, h2, h3, h4⟩
    exact h l o h1 h3 h4 fun z => absurd z (by (first | lia | omega))
theorem wp_halve {Q : Option Nat → SortSt → Prop} {lo hi : Nat} {f : Nat → C2 → StateT SortSt Sem (ForInStep C2)} {k : C2 → StateT SortSt Sem (Option Nat)}
    (anti : ∀ i j, i ≤ j → j < n → p j = true → p i = true) (h1 : lo ≤ hi) (h2 : hi ≤ n) (hl : ∀ i, i < lo → p i = true) (hh : ∀ i, hi ≤ i → i < n → p i = false)
    (f1 : ∀ x l r, l ≥ r → f x (none, l, r) = pure (.done (none, l, r)))
    (f2 : ∀ x l r (R : ForInStep C2 → SortSt → Prop), l < r → r ≤ n → (p (l + (r - l) / 2) = true → R (.yield (none, l + (r - l) / 2 + 1, r)) st) → (p (l + (r - l) / 2) = false → R (.yield (none, l, l + (r - l) / 2)) st) → wpS M A E s (f x (none, l, r)) R st)
    (hk : ∀ l r, k (none, l, r) = pure (some r))
    (h : ∀ m, m ≤ n → (∀ i, i < m → p i = true) → (∀ i, m ≤ i → i < n → p i = false) → Q (some m) st) : wpS M A E s (do let c ← forIn [:n] ((none, lo, hi) : C2) f; k c) Q st := by
  refine wpS_bind (wpS_mono (wpS_forRange (I := fun x c st' => st' = st ∧ ∃ l r, c = (none, l, r) ∧ l ≤ r ∧ r ≤ n ∧ r - l ≤ n - x ∧ (∀ i, i < l → p i = true) ∧ ∀ i, r ≤ i → i < n → p i = false)
    (Q := fun c st' => st' = st ∧ ∃ m, c = (none, m, m) ∧ m ≤ n ∧ (∀ i, i < m → p i = true) ∧ ∀ i, m ≤ i → i < n → p i = false) ?_ ?_ ⟨rfl, lo, hi, rfl, h1, h2, by (first | lia | omega), hl, hh⟩) ?_)
  · rintro x c st' _ hx ⟨rfl, l, r, rfl, a1, a2, a3, a4, a5⟩
    by_cases hge : l ≥ r
    · rw [f1 x l r hge]
      have : l = r := by (first | lia | omega)
      subst this
      exact wpS_pure ⟨rfl, l, rfl, a2, a4, a5⟩
    · refine f2 x l r _ (by (first | lia | omega)) a2 (fun e => ?_) fun e => ?_
      · exact ⟨rfl, _, r, rfl, by (first | lia | omega), a2, by (first | lia | omega), fun i hi => anti i _ (by (first | lia | omega)) (by (first | lia | omega)) e, a5⟩
      · refine ⟨rfl, l, _, rfl, by (first | lia | omega), by (first | lia | omega), by (first | lia | omega), a4, fun i q1 q2 => ?_⟩
        cases z : p i with
        | false => rfl
        | true => rw [anti _ i q1 q2 z] at e; cases e
  · rintro c st' ⟨rfl, l, r, rfl, a1, a2, a3, a4, a5⟩
    have : l = r := by (first | lia | omega)
    subst this
    exact ⟨rfl, l, rfl, a2, a4, a5⟩
  · rintro c st' ⟨rfl, m, rfl, a2, a4, a5⟩
    rw [hk]
    exact wpS_pure (h m a2 a4 a5)
end
def gallopP : Bool → Keyed → Array Keyed → Nat → Nat → Nat → StateT SortSt Sem (Option Nat) := sortPriv% PySem.Builtin.gallop
section
variable {prog : Program} {w : World} {A : Around} {E : Value → Shared → Prop} {s : Shared} {κ : KeyKind} {kd : SortKind}
def bey (κ : KeyKind) (left : Bool) (key : Keyed) (arr : Array Keyed) (base i : Nat) : Bool := if left = true then κ.blt (kAt κ arr (base + i)) (ky κ key) else !κ.blt (ky κ key) (kAt κ arr (base + i))
theorem wp_gallop {st : SortSt} {left : Bool} {key : Keyed} {arr : Array Keyed} {base n hint : Nat} {Q : Option Nat → SortSt → Prop} (hO : LtG prog w A s κ kd) (hkd : kindOf st = kd) (hkey : Keyd κ key) (hks : ∀ q ∈ arr.toList, Keyd κ q)
    (hz : base + n ≤ arr.size) (hn : hint < n) (hU : Up κ arr base (base + n))
    (h : ∀ m, m ≤ n → (∀ i, i < m → bey κ left key arr base i = true) → (∀ i, m ≤ i → i < n → bey κ left key arr base i = false) → Q (some m) st) : wpS (model prog w) A E s (gallopP left key arr base n hint) Q st := by
  have anti : ∀ i j, i ≤ j → j < n → bey κ left key arr base j = true → bey κ left key arr base i = true := by
    intro i j hij hj
    have hle := hU (base + i) (base + j) (by (first | lia | omega)) (by (first | lia | omega)) (by (first | lia | omega))
    unfold bey
    cases left with
    | true =>
      simp only [if_true]
      intro e
      exact KeyOrd.klt_of_kle_of_klt hle e
    | false =>
      simp only [Bool.false_eq_true, if_false]
      intro e
      cases z : κ.blt (ky κ key) (kAt κ arr (base + i)) with
      | false => rfl
      | true =>
        have : κ.blt (ky κ key) (kAt κ arr (base + j)) = true := KeyOrd.klt_of_klt_of_kle z hle
        rw [this] at e
        cases e
  have hb : ∀ i (R : Option Bool → SortSt → Prop), i < n → R (some (bey κ left key arr base i)) st → wpS (model prog w) A E s (do
      let x ← elem' arr (base + i)
      if left = true then lt' x key else do
        let r ← lt' key x
        pure (Option.map (fun b => !b) r)) R st := fun i R hi hR => by
    have hi' : base + i < arr.size := by (first | lia | omega)
    refine wpS_bind (elem_G hi' ?_)
    have hkx : Keyd κ arr[base + i] := hks _ (by simp)
    unfold bey at hR
    rw [kAt_get hi'] at hR
    cases left with
    | true =>
      rw [if_pos rfl] at hR ⊢
      exact lt_G hO hkd hkx hkey hR
    | false =>
      rw [if_neg (by decide)] at hR ⊢
      exact wpS_bind (lt_G hO hkd hkey hkx (wpS_pure hR))
  refine wpS_bind (hb hint _ hn ?_)
  dsimp only
  generalize bey κ left key arr base = p at *
  cases e0 : p hint with
  | true =>
    simp only [if_true]
    refine wpS_bind (wp_right (p := p) hn e0 (fun x l o ho => ?_) (fun x l o R ho r1 r2 => ?_) fun l o a1 a2 a3 a4 => ?_)
    · dsimp only
      rw [if_pos ho]
    · dsimp only
      rw [if_neg (by (first | lia | omega))]
      refine wpS_bind (hb (hint + o) _ (by (first | lia | omega)) ?_)
      dsimp only
      cases e : p (hint + o) with
      | true => exact wpS_pure (r1 e)
      | false => exact wpS_pure (r2 e)
    · dsimp only
      refine wp_halve (p := p) anti (by (first | lia | omega)) (by (first | lia | omega)) (fun i hi => anti i (hint + l) (by (first | lia | omega)) a2 a3) (fun i q1 q2 => ?_) (fun x l r hge => ?_) (fun x l r R q1 q2 r1 r2 => ?_) (fun _ _ => rfl) h
      · by_cases ho : o < n - hint
        · cases z : p i with
          | false => rfl
          | true =>
            have := anti (hint + o) i (by (first | lia | omega)) q2 z
            rw [a4 ho] at this
            cases this
        · exact absurd q2 (by (first | lia | omega))
      · dsimp only
        rw [if_pos hge]
      · dsimp only
        rw [if_neg (by (first | lia | omega))]
        refine wpS_bind (hb _ _ (by (first | lia | omega)) ?_)
        dsimp only
        cases e : p (l + (r - l) / 2) with
        | true => exact wpS_pure (r1 e)
        | false => exact wpS_pure (r2 e)
  | false =>
    simp only [Bool.false_eq_true, if_false]
    refine wpS_bind (wp_left (p := p) hn e0 (fun x l o ho => ?_) (fun x l o R ho r1 r2 => ?_) fun l o a1 a2 a3 a4 => ?_)
    · dsimp only
      rw [if_pos ho]
    · dsimp only
      rw [if_neg (by (first | lia | omega))]
      refine wpS_bind (hb (hint - o) _ (by (first | lia | omega)) ?_)
      dsimp only
      cases e : p (hint - o) with
      | true => exact wpS_pure (r2 e)
      | false => exact wpS_pure (r1 e)
    · dsimp only
      refine wp_halve (p := p) anti (by (first | lia | omega)) (by (first | lia | omega)) (fun i hi => ?_) (fun i q1 q2 => ?_) (fun x l r hge => ?_) (fun x l r R q1 q2 r1 r2 => ?_) (fun _ _ => rfl) h
      · by_cases ho : o < hint + 1
        · exact anti i (hint - o) (by (first | lia | omega)) (by (first | lia | omega)) (a4 ho)
        · exact absurd hi (by (first | lia | omega))
      · cases z : p i with
        | false => rfl
        | true =>
          have := anti (hint - l) i (by (first | lia | omega)) q2 z
          rw [a3] at this
          cases this
      · dsimp only
        rw [if_pos hge]
      · dsimp only
        rw [if_neg (by (first | lia | omega))]
        refine wpS_bind (hb _ _ (by (first | lia | omega)) ?_)
        dsimp only
        cases e : p (l + (r - l) / 2) with
        | true => exact wpS_pure (r1 e)
        | false => exact wpS_pure (r2 e)
end
end Tim
namespace Tim
open PySem PyProof.Rows
set_option autoImplicit false
section
variable {κ : KeyKind}
def le (κ : KeyKind) (x y : Keyed) : Prop := κ.kle (ky κ x) (ky κ y)
theorem le_refl (x : Keyed) : le κ x x := KeyOrd.kle_refl _
theorem le_trans {x y z : Keyed} (h1 : le κ x y) (h2 : le κ y z) : le κ x z := KeyOrd.kle_trans h1 h2
abbrev SL (κ : KeyKind) (l : List Keyed) : Prop := l.Pairwise (le κ)
theorem SL.drop {l : List Keyed} (h : SL κ l) (n : Nat) : SL κ (l.drop n) := h.sublist (List.drop_sublist n l)
theorem SL.take {l : List Keyed} (h : SL κ l) (n : Nat) : SL κ (l.take n) := h.sublist (List.take_sublist n l)
theorem drop_cons {xs : Array Keyed} {i : Nat} (h : i < xs.size) : xs.toList.drop i = xs[i] :: xs.toList.drop (i + 1) := by
  have h' : i < xs.toList.length := by simpa using h
  rw [List.drop_eq_getElem_cons h']
  simp
theorem drop_ge {xs : Array Keyed} {i : Nat} (hs : SL κ xs.toList) (h : i < xs.size) : ∀ y ∈ xs.toList.drop i, le κ xs[i] y := by
  intro y hy
  have q := hs.drop i
  rw [drop_cons h] at q hy
  rcases List.mem_cons.mp hy with rfl | hy
  · exact le_refl _
  · exact (List.pairwise_cons.mp q).1 y hy
theorem take_mem {xs : Array Keyed} {i k : Nat} {x : Keyed} (h : x ∈ (xs.toList.drop i).take k) : ∃ j, j < k ∧ i + j < xs.size ∧ xs[i + j]? = some x := by
  obtain ⟨j, hj, e⟩ := List.mem_iff_getElem.mp h
  have hj' := hj
  rw [List.length_take, List.length_drop, Array.length_toList] at hj'
  refine ⟨j, by (first | lia | omega), by (first | lia | omega), ?_⟩
  rw [List.getElem_take, List.getElem_drop] at e
  rw [Array.getElem?_eq_getElem (by (first | lia | omega))]
  simpa using e
theorem kAt_some {xs : Array Keyed} {i : Nat} {x : Keyed} (h : xs[i]? = some x) : kAt κ xs i = ky κ x := by
  unfold kAt
  rw [h]
theorem up_list {xs : Array Keyed} (hs : SL κ xs.toList) (lo hi : Nat) (hh : hi ≤ xs.size) : Up κ xs lo hi := by
  intro i j h1 h2 h3
  have hj : j < xs.size := by (first | lia | omega)
  have hi : i < xs.size := by (first | lia | omega)
  rw [kAt_get hi, kAt_get hj]
  refine drop_ge hs hi _ ?_
  rw [List.mem_iff_getElem]
  refine ⟨j - i, by rw [List.length_drop, Array.length_toList]; (first | lia | omega), ?_⟩
  rw [List.getElem_drop]
  simp [show i + (j - i) = j by (first | lia | omega)]
theorem list_up {xs : Array Keyed} (h : Up κ xs 0 xs.size) : SL κ xs.toList := by
  rw [SL, List.pairwise_iff_getElem]
  intro i j hi hj hij
  have hi' : i < xs.size := by simpa using hi
  have hj' : j < xs.size := by simpa using hj
  have := h i j (Nat.zero_le _) (by (first | lia | omega)) hj'
  rw [kAt_get hi', kAt_get hj'] at this
  simpa [le] using this
structure MI (κ : KeyKind) (a b : Array Keyed) (out : Array Keyed) (ia ib : Nat) : Prop where
  perm : (out.toList ++ (a.toList.drop ia ++ b.toList.drop ib)).Perm (a.toList ++ b.toList)
  srt : SL κ out.toList
  low : ∀ x ∈ out.toList, ∀ y ∈ a.toList.drop ia ++ b.toList.drop ib, le κ x y
variable {a b out : Array Keyed} {ia ib : Nat}
theorem MI.goA {out' : Array Keyed} {k : Nat} (h : MI κ a b out ia ib) (sa : SL κ a.toList) (ho : out'.toList = out.toList ++ (a.toList.drop ia).take k) (hle : ∀ x ∈ (a.toList.drop ia).take k, ∀ y ∈ b.toList.drop ib, le κ x y) : MI κ a b out' (ia + k) ib := by
  have e : a.toList.drop ia = (a.toList.drop ia).take k ++ a.toList.drop (ia + k) := by
    rw [← List.drop_drop, List.take_append_drop]
  have s1 := sa.drop ia
  rw [e] at s1
  obtain ⟨p1, p2, p3⟩ := List.pairwise_append.mp s1
  refine ⟨?_, ?_, ?_⟩
  · have q := h.perm
    rw [e] at q
    rw [ho]
    simpa [List.append_assoc] using q
  · rw [ho]
    exact List.pairwise_append.mpr ⟨h.srt, p1, fun x hx y hy => h.low x hx y (List.mem_append_left _ (List.mem_of_mem_take hy))⟩
  · intro x hx y hy
    rw [ho] at hx
    rcases List.mem_append.mp hx with hx | hx
    · refine h.low x hx y ?_
      rcases List.mem_append.mp hy with hy | hy
      · refine List.mem_append_left _ ?_
        rw [e]
        exact List.mem_append_right _ hy
      · exact List.mem_append_right _ hy
    · rcases List.mem_append.mp hy with hy | hy
      · exact p3 x hx y hy
      · exact hle x hx y hy
theorem MI.goB {out' : Array Keyed} {k : Nat} (h : MI κ a b out ia ib) (sb : SL κ b.toList) (ho : out'.toList = out.toList ++ (b.toList.drop ib).take k) (hle : ∀ x ∈ (b.toList.drop ib).take k, ∀ y ∈ a.toList.drop ia, le κ x y) : MI κ a b out' ia (ib + k) := by
  have e : b.toList.drop ib = (b.toList.drop ib).take k ++ b.toList.drop (ib + k) := by
    rw [← List.drop_drop, List.take_append_drop]
  have s1 := sb.drop ib
  rw [e] at s1
  obtain ⟨p1, p2, p3⟩ := List.pairwise_append.mp s1
  refine ⟨?_, ?_, ?_⟩
  · have q := h.perm
    rw [e] at q
    rw [ho]
    refine List.Perm.trans ?_ q
    rw [List.append_assoc]
    refine List.Perm.append_left _ ?_
    rw [← List.append_assoc, ← List.append_assoc]
    exact List.Perm.append_right _ List.perm_append_comm
  · rw [ho]
    exact List.pairwise_append.mpr ⟨h.srt, p1, fun x hx y hy => h.low x hx y (List.mem_append_right _ (List.mem_of_mem_take hy))⟩
  · intro x hx y hy
    rw [ho] at hx
    rcases List.mem_append.mp hx with hx | hx
    · refine h.low x hx y ?_
      rcases List.mem_append.mp hy with hy | hy
      · exact List.mem_append_left _ hy
      · refine List.mem_append_right _ ?_
        rw [e]
        exact List.mem_append_right _ hy
    · rcases List.mem_append.mp hy with hy | hy
      · exact hle x hx y hy
      · exact p3 x hx y hy
theorem take_one {xs : Array Keyed} {i : Nat} (h : i < xs.size) : (xs.toList.drop i).take 1 = [xs[i]] := by
  rw [drop_cons h]
  rfl
theorem MI.pa (h : MI κ a b out ia ib) (sa : SL κ a.toList) (hia : ia < a.size) (hle : ∀ y ∈ b.toList.drop ib, le κ a[ia] y) : MI κ a b (out.push a[ia]) (ia + 1) ib :=
  h.goA (k := 1) sa (by rw [take_one hia, Array.toList_push]) (by
    rw [take_one hia]
    intro x hx
    rw [List.mem_singleton.mp hx]
    exact hle)
theorem MI.pb (h : MI κ a b out ia ib) (sb : SL κ b.toList) (hib : ib < b.size) (hle : ∀ y ∈ a.toList.drop ia, le κ b[ib] y) : MI κ a b (out.push b[ib]) ia (ib + 1) :=
  h.goB (k := 1) sb (by rw [take_one hib, Array.toList_push]) (by
    rw [take_one hib]
    intro x hx
    rw [List.mem_singleton.mp hx]
    exact hle)
structure Merged (κ : KeyKind) (a b m : Array Keyed) : Prop where
  perm : m.toList.Perm (a.toList ++ b.toList)
  srt : SL κ m.toList
theorem ext_toList {xs : Array Keyed} {i k : Nat} : (xs.extract i (i + k)).toList = (xs.toList.drop i).take k := by
  rw [Array.toList_extract, List.extract_eq_take_drop, Nat.add_sub_cancel_left]
theorem ext_end {xs : Array Keyed} {i : Nat} : (xs.extract i xs.size).toList = xs.toList.drop i := by
  rw [Array.toList_extract, List.extract_eq_take_drop]
  exact List.take_of_length_le (by rw [List.length_drop, Array.length_toList]; exact Nat.le_refl _)
theorem MI.done (h : MI κ a b out ia ib) (sa : SL κ a.toList) (hib : b.size ≤ ib) : Merged κ a b (out ++ a.extract ia a.size ++ b.extract ib b.size) := by
  have e : b.toList.drop ib = [] := List.drop_eq_nil_of_le (by rw [Array.length_toList]; exact hib)
  have e2 : (out ++ a.extract ia a.size ++ b.extract ib b.size).toList = out.toList ++ (a.toList.drop ia ++ b.toList.drop ib) := by
    rw [Array.toList_append, Array.toList_append, ext_end, ext_end, List.append_assoc]
  refine ⟨by rw [e2]; exact h.perm, ?_⟩
  rw [e2, e, List.append_nil]
  refine List.pairwise_append.mpr ⟨h.srt, sa.drop ia, fun x hx y hy => h.low x hx y (List.mem_append_left _ hy)⟩
theorem MI.doneA (h : MI κ a b out ia ib) (sb : SL κ b.toList) (hia : a.size ≤ ia) : Merged κ a b (out ++ a.extract ia a.size ++ b.extract ib b.size) := by
  have e : a.toList.drop ia = [] := List.drop_eq_nil_of_le (by rw [Array.length_toList]; exact hia)
  have e2 : (out ++ a.extract ia a.size ++ b.extract ib b.size).toList = out.toList ++ (a.toList.drop ia ++ b.toList.drop ib) := by
    rw [Array.toList_append, Array.toList_append, ext_end, ext_end, List.append_assoc]
  refine ⟨by rw [e2]; exact h.perm, ?_⟩
  rw [e2, e, List.nil_append]
  refine List.pairwise_append.mpr ⟨h.srt, sb.drop ib, fun x hx y hy => h.low x hx y (List.mem_append_right _ hy)⟩
theorem MI.last (h : MI κ a b out ia ib) (sa : SL κ a.toList) (sb : SL κ b.toList) (hl : ∀ y ∈ b.toList, ∀ x ∈ a.toList.drop ia, le κ y x) : Merged κ a b (out ++ b.extract ib b.size ++ a.extract ia a.size) := by
  have e2 : (out ++ b.extract ib b.size ++ a.extract ia a.size).toList = out.toList ++ (b.toList.drop ib ++ a.toList.drop ia) := by
    rw [Array.toList_append, Array.toList_append, ext_end, ext_end, List.append_assoc]
  refine ⟨?_, ?_⟩
  · rw [e2]
    exact (List.Perm.append_left _ List.perm_append_comm).trans h.perm
  · rw [e2]
    refine List.pairwise_append.mpr ⟨h.srt, List.pairwise_append.mpr ⟨sb.drop ib, sa.drop ia, fun x hx y hy => hl x (List.mem_of_mem_drop hx) y hy⟩, fun x hx y hy => h.low x hx y ?_⟩
    rcases List.mem_append.mp hy with q | q
    · exact List.mem_append_right _ q
    · exact List.mem_append_left _ q
end
end Tim
namespace Tim
open PySem PyProof.Rows
set_option autoImplicit false
def mergeLoP : Array Keyed → Array Keyed → StateT SortSt Sem (Array Keyed) := sortPriv% PySem.Builtin.mergeLo
def setGallopP : Nat → StateT SortSt Sem Unit := sortPriv% PySem.Builtin.setMinGallop
structure SG (st st' : SortSt) : Prop where
  kind : kindOf st' = kindOf st
  arr : arrOf st' = arrOf st
  pend : pendingOf st' = pendingOf st
  failed : failedOf st' = failedOf st
theorem SG.refl (st : SortSt) : SG st st := ⟨rfl, rfl, rfl, rfl⟩
theorem SG.trans {s1 s2 s3 : SortSt} (h : SG s1 s2) (g : SG s2 s3) : SG s1 s3 := ⟨g.kind.trans h.kind, g.arr.trans h.arr, g.pend.trans h.pend, g.failed.trans h.failed⟩
section
variable {prog : Program} {w : World} {A : Around} {E : Value → Shared → Prop} {s : Shared} {κ : KeyKind} {kd : SortKind}
theorem wp_setGallop {g : Nat} {st st0 : SortSt} {Q : Unit → SortSt → Prop} (hg : SG st0 st) (h : ∀ st', SG st0 st' → Q () st') : wpS (model prog w) A E s (setGallopP g) Q st := by
  refine wpS_modify (h _ (hg.trans ⟨rfl, rfl, rfl, rfl⟩))
set_option maxHeartbeats 4000000 in
theorem wp_mergeLo {st : SortSt} {a b : Array Keyed} {Q : Array Keyed → SortSt → Prop} (hO : LtG prog w A s κ kd) (hkd : kindOf st = kd) (ka : ∀ q ∈ a.toList, Keyd κ q) (kb : ∀ q ∈ b.toList, Keyd κ q) (sa : SL κ a.toList) (sb : SL κ b.toList)
    (ha : 0 < a.size) (hb : 0 < b.size) (h0 : ∀ y ∈ a.toList, le κ b[0] y) (hl : ∀ y ∈ b.toList, ∀ i, i + 1 = a.size → ∀ x ∈ a.toList.drop i, le κ y x)
    (h : ∀ m st', Merged κ a b m → SG st st' → Q m st') : wpS (model prog w) A E s (mergeLoP a b) Q st := by
  have m0 : MI κ a b #[b[0]] 0 1 := by
    have z : MI κ a b #[] 0 0 := ⟨by simp, by simp, by simp⟩
    have := z.pb sb hb (by simpa using h0)
    simpa using this
  refine wpS_bind (wpS_rule ?_)
  dsimp only
  refine wpS_bind (elem_G hb ?_)
  by_cases e1 : 1 = b.size
  · rw [if_pos (by simpa using e1)]
    exact wpS_pure (h _ _ (m0.done sa (by (first | lia | omega))) (SG.refl st))
  rw [if_neg (by simpa using e1)]
  by_cases e2 : 0 + 1 = a.size
  · rw [if_pos (by simpa using e2)]
    exact wpS_pure (h _ _ (m0.last sa sb (fun y hy x hx => hl y hy 0 e2 x hx)) (SG.refl st))
  rw [if_neg (by simpa using e2)]
  refine wpS_bind (wpS_get ?_)
  refine wpS_bind (wpS_mono (wpS_forRange (I := fun i c st' => SG st st' ∧ ∃ out ia ib g, c = (none, out, ia, ib, g) ∧ MI κ a b out ia ib ∧ ia + 1 < a.size ∧ ib < b.size ∧ i + 1 ≤ ia + ib)
    (Q := fun c st' => SG st st' ∧ ∃ m r, c = (some m, r) ∧ Merged κ a b m) ?step ?fin ⟨SG.refl st, _, 0, 1, _, rfl, m0, by (first | lia | omega), by (first | lia | omega), by (first | lia | omega)⟩) ?post)
  case post =>
    rintro c st' ⟨g, m, r, rfl, hm⟩
    exact wpS_pure (h m st' hm g)
  case fin =>
    rintro c st' ⟨g, out, ia, ib, gg, rfl, hm, q1, q2, q3⟩
    exact absurd q3 (by (first | lia | omega))
  case step =>
    rintro i c st1 _ hi ⟨g1, out, ia, ib, gg, rfl, hm, q1, q2, q3⟩
    dsimp only
    refine wpS_bind (wpS_mono (wpS_forRange (I := fun x c st' => st' = st1 ∧ ∃ out' ia' ib' ca cb, c = (none, out', ia', ib', ca, cb) ∧ MI κ a b out' ia' ib' ∧ ia' + 1 < a.size ∧ ib' < b.size ∧ ia + ib + x ≤ ia' + ib')
      (Q := fun c st' => st' = st1 ∧ ((∃ m r, c = (some m, r) ∧ Merged κ a b m) ∨ ∃ out' ia' ib' ca cb, c = (none, out', ia', ib', ca, cb) ∧ MI κ a b out' ia' ib' ∧ ia' + 1 < a.size ∧ ib' < b.size ∧ ia + ib + 1 ≤ ia' + ib')) ?istep ?ifin ⟨rfl, out, ia, ib, 0, 0, rfl, hm, q1, q2, by (first | lia | omega)⟩) ?ipost)
    case ifin =>
      rintro c st' ⟨rfl, out', ia', ib', ca, cb, rfl, hm', r1, r2, r3⟩
      exact ⟨rfl, .inr ⟨out', ia', ib', ca, cb, rfl, hm', r1, r2, by (first | lia | omega)⟩⟩
    case istep =>
      rintro x c st' _ hx ⟨rfl, out', ia', ib', ca, cb, rfl, hm', r1, r2, r3⟩
      dsimp only
      refine wpS_bind (elem_G r2 (wpS_bind (elem_G (show ia' < a.size by (first | lia | omega)) (wpS_bind (lt_G hO (by rw [g1.kind]; exact hkd) (kb _ (by simp)) (ka _ (by simp)) ?_)))))
      dsimp only
      cases e : κ.blt (ky κ b[ib']) (ky κ (a[ia']'(by (first | lia | omega)))) with
      | true =>
        simp only [if_true]
        have hm2 := hm'.pb sb r2 (fun y hy => le_trans (show le κ b[ib'] (a[ia']'(by (first | lia | omega))) from KeyOrd.kle_of_klt e) (drop_ge sa (by (first | lia | omega)) y hy))
        refine wpS_bind (elem_G r2 ?_)
        by_cases z : ib' + 1 = b.size
        · rw [if_pos (by simpa using z)]
          exact wpS_pure ⟨rfl, .inl ⟨_, _, rfl, hm2.done sa (by (first | lia | omega))⟩⟩
        · rw [if_neg (by simpa using z)]
          split
          · exact wpS_pure ⟨rfl, .inr ⟨_, _, _, _, _, rfl, hm2, by (first | lia | omega), by (first | lia | omega), by (first | lia | omega)⟩⟩
          · exact wpS_pure ⟨rfl, _, _, _, _, _, rfl, hm2, by (first | lia | omega), by (first | lia | omega), by (first | lia | omega)⟩
      | false =>
        simp only [Bool.false_eq_true, if_false]
        have hm2 := hm'.pa sa (show ia' < a.size by (first | lia | omega)) (fun y hy => le_trans (show le κ (a[ia']'(by (first | lia | omega))) b[ib'] from e) (drop_ge sb r2 y hy))
        refine wpS_bind (elem_G (show ia' < a.size by (first | lia | omega)) ?_)
        by_cases z : ia' + 1 + 1 = a.size
        · rw [if_pos (by simpa using z)]
          exact wpS_pure ⟨rfl, .inl ⟨_, _, rfl, hm2.last sa sb (fun y hy x hx => hl y hy _ z x hx)⟩⟩
        · rw [if_neg (by simpa using z)]
          split
          · exact wpS_pure ⟨rfl, .inr ⟨_, _, _, _, _, rfl, hm2, by (first | lia | omega), by (first | lia | omega), by (first | lia | omega)⟩⟩
          · exact wpS_pure ⟨rfl, _, _, _, _, _, rfl, hm2, by (first | lia | omega), by (first | lia | omega), by (first | lia | omega)⟩
    case ipost =>
      rintro c st' ⟨rfl, ⟨m, r, rfl, hmm⟩ | ⟨out, ia', ib', ca, cb, rfl, hm, q1, q2, q4⟩⟩
      · exact wpS_pure ⟨g1, m, _, rfl, hmm⟩
      dsimp only
      refine wpS_bind (wpS_rule ?_)
      refine wpS_bind (wpS_mono (wpS_forRange (I := fun x c st'' => SG st st'' ∧ ∃ out1 ia1 ib1 gg ca cb, c = (none, out1, ia1, ib1, gg, ca, cb) ∧ MI κ a b out1 ia1 ib1 ∧ ia1 + 1 < a.size ∧ ib1 < b.size ∧ ia + ib + 1 ≤ ia1 + ib1)
        (Q := fun c st'' => SG st st'' ∧ ((∃ m r, c = (some m, r) ∧ Merged κ a b m) ∨ ∃ out1 ia1 ib1 gg ca cb, c = (none, out1, ia1, ib1, gg, ca, cb) ∧ MI κ a b out1 ia1 ib1 ∧ ia1 + 1 < a.size ∧ ib1 < b.size ∧ ia + ib + 1 ≤ ia1 + ib1)) ?jstep ?jfin ⟨g1, _, _, _, _, _, _, rfl, hm, q1, q2, q4⟩) ?jpost)
      case jfin =>
        rintro c st'' ⟨g2, out1, ia1, ib1, gg1, ca1, cb1, rfl, r⟩
        exact ⟨g2, .inr ⟨_, _, _, _, _, _, rfl, r⟩⟩
      case jpost =>
        rintro c st'' ⟨g2, ⟨m, r, rfl, hmm⟩ | ⟨out1, ia1, ib1, gg1, ca1, cb1, rfl, hm1, t1, t2, t3⟩⟩
        · exact wpS_pure ⟨g2, m, _, rfl, hmm⟩
        · dsimp only
          exact wpS_bind (wp_setGallop g2 fun st3 g3 => wpS_pure ⟨g3, _, _, _, _, rfl, hm1, t1, t2, by (first | lia | omega)⟩)
      case jstep =>
        rintro x c st'' _ hx ⟨g2, out1, ia1, ib1, gg1, ca1, cb1, rfl, hm1, t1, t2, t3⟩
        dsimp only
        by_cases hg : gg1 > 1
        all_goals
          first | rw [if_pos hg] | rw [if_neg hg]
          refine wpS_bind (wp_setGallop g2 fun st3 g3 => ?_)
          refine wpS_bind (elem_G t2 (wpS_bind (wp_gallop hO (by rw [g3.kind]; exact hkd) (kb _ (by simp)) ka (by (first | lia | omega)) (by (first | lia | omega)) (up_list sa _ _ (by (first | lia | omega))) fun k k1 k2 k3 => ?_)))
          dsimp only
          have hmk : MI κ a b (out1 ++ a.extract ia1 (ia1 + k)) (ia1 + k) ib1 := hm1.goA sa (by rw [Array.toList_append, ext_toList]) fun x hx y hy => by
            obtain ⟨j, j1, j2, j3⟩ := take_mem hx
            have q := k2 j j1
            unfold bey at q
            rw [if_neg (by decide), kAt_some j3, Bool.not_eq_true'] at q
            exact le_trans (show le κ x b[ib1] from q) (drop_ge sb t2 y hy)
          have bk : ∀ hq : ia1 + k < a.size, ∀ y ∈ a.toList.drop (ia1 + k), le κ b[ib1] y := fun hq y hy => by
            have q := k3 k (Nat.le_refl _) (by (first | lia | omega))
            unfold bey at q
            rw [if_neg (by decide), kAt_get hq, Bool.not_eq_false'] at q
            exact le_trans (show le κ b[ib1] a[ia1 + k] from KeyOrd.kle_of_klt q) (drop_ge sa hq y hy)
          by_cases hk : k > 0
          · rw [if_pos hk]
            by_cases z : ia1 + k + 1 = a.size
            · rw [if_pos (by simpa using z)]
              exact wpS_pure ⟨g3, .inl ⟨_, _, rfl, hmk.last sa sb (fun y hy x hx => hl y hy _ z x hx)⟩⟩
            rw [if_neg (by simpa using z)]
            by_cases z' : ia1 + k = a.size
            · rw [if_pos (by simpa using z')]
              exact wpS_pure ⟨g3, .inl ⟨_, _, rfl, hmk.doneA sb (by (first | lia | omega))⟩⟩
            rw [if_neg (by simpa using z')]
            have hm2 := hmk
            have u2 := bk (by (first | lia | omega))
            refine wpS_bind (elem_G t2 ?_)
            have hm3 := hm2.pb sb t2 u2
            by_cases z2 : ib1 + 1 = b.size
            · rw [if_pos (by simpa using z2)]
              exact wpS_pure ⟨g3, .inl ⟨_, _, rfl, hm3.done sa (by (first | lia | omega))⟩⟩
            · rw [if_neg (by simpa using z2)]
              refine wpS_bind (elem_G (show ia1 + k < a.size by (first | lia | omega)) (wpS_bind (wp_gallop hO (by rw [g3.kind]; exact hkd) (ka _ (by simp)) kb (by (first | lia | omega)) (by (first | lia | omega)) (up_list sb _ _ (by (first | lia | omega))) fun k' c1 c2 c3 => ?_)))
              dsimp only
              have ge5 : ∀ hq : ib1 + 1 + k' < b.size, le κ (a[ia1 + k]'(by (first | lia | omega))) b[ib1 + 1 + k'] := fun hq => by
                have q := c3 k' (Nat.le_refl _) (by (first | lia | omega))
                unfold bey at q
                rw [if_pos rfl, kAt_get hq] at q
                exact q
              have hm4 : MI κ a b ((out1 ++ a.extract ia1 (ia1 + k)).push b[ib1] ++ b.extract (ib1 + 1) (ib1 + 1 + k')) (ia1 + k) (ib1 + 1 + k') := hm3.goB sb (by rw [Array.toList_append (ys := b.extract (ib1 + 1) (ib1 + 1 + k')), ext_toList (xs := b)]) fun x hx y hy => by
                obtain ⟨j, j1, j2, j3⟩ := take_mem hx
                have q := c2 j j1
                unfold bey at q
                rw [if_pos rfl, kAt_some j3] at q
                exact le_trans (show le κ x (a[ia1 + k]'(by (first | lia | omega))) from KeyOrd.kle_of_klt q) (drop_ge sa (by (first | lia | omega)) y hy)
              by_cases hk' : k' > 0
              · rw [if_pos hk']
                by_cases z3 : ib1 + 1 + k' = b.size
                · rw [if_pos (by simpa using z3)]
                  exact wpS_pure ⟨g3, .inl ⟨_, _, rfl, hm4.done sa (by (first | lia | omega))⟩⟩
                · rw [if_neg (by simpa using z3)]
                  refine wpS_bind (elem_G (show ia1 + k < a.size by (first | lia | omega)) ?_)
                  have hm5 := hm4.pa sa (show ia1 + k < a.size by (first | lia | omega)) fun y hy => le_trans (show le κ (a[ia1 + k]'(by (first | lia | omega))) (b[ib1 + 1 + k']'(by (first | lia | omega))) from ge5 (by (first | lia | omega))) (drop_ge sb (by (first | lia | omega)) y hy)
                  by_cases z4 : ia1 + k + 1 + 1 = a.size
                  · rw [if_pos (by simpa using z4)]
                    exact wpS_pure ⟨g3, .inl ⟨_, _, rfl, hm5.last sa sb (fun y hy x hx => hl y hy _ z4 x hx)⟩⟩
                  · rw [if_neg (by simpa using z4)]
                    split
                    · exact wpS_pure ⟨g3, .inr ⟨_, _, _, _, _, _, rfl, hm5, by (first | lia | omega), by (first | lia | omega), by (first | lia | omega)⟩⟩
                    · exact wpS_pure ⟨g3, _, _, _, _, _, _, rfl, hm5, by (first | lia | omega), by (first | lia | omega), by (first | lia | omega)⟩
              · rw [if_neg hk']
                have e0 : k' = 0 := by (first | lia | omega)
                subst e0
                replace hm4 := hm3
                refine wpS_bind (elem_G (show ia1 + k < a.size by (first | lia | omega)) ?_)
                have hm5 := hm4.pa sa (show ia1 + k < a.size by (first | lia | omega)) fun y hy => le_trans (show le κ (a[ia1 + k]'(by (first | lia | omega))) (b[ib1 + 1]'(by (first | lia | omega))) from ge5 (by (first | lia | omega))) (drop_ge sb (by (first | lia | omega)) y hy)
                by_cases z4 : ia1 + k + 1 + 1 = a.size
                · rw [if_pos (by simpa using z4)]
                  exact wpS_pure ⟨g3, .inl ⟨_, _, rfl, hm5.last sa sb (fun y hy x hx => hl y hy _ z4 x hx)⟩⟩
                · rw [if_neg (by simpa using z4)]
                  split
                  · exact wpS_pure ⟨g3, .inr ⟨_, _, _, _, _, _, rfl, hm5, by (first | lia | omega), by (first | lia | omega), by (first | lia | omega)⟩⟩
                  · exact wpS_pure ⟨g3, _, _, _, _, _, _, rfl, hm5, by (first | lia | omega), by (first | lia | omega), by (first | lia | omega)⟩
          · rw [if_neg hk]
            have e0 : k = 0 := by (first | lia | omega)
            subst e0
            have hm2 := hm1
            have u2 := bk (by (first | lia | omega))
            refine wpS_bind (elem_G t2 ?_)
            have hm3 := hm2.pb sb t2 u2
            by_cases z2 : ib1 + 1 = b.size
            · rw [if_pos (by simpa using z2)]
              exact wpS_pure ⟨g3, .inl ⟨_, _, rfl, hm3.done sa (by (first | lia | omega))⟩⟩
            · rw [if_neg (by simpa using z2)]
              refine wpS_bind (elem_G (show ia1 < a.size by (first | lia | omega)) (wpS_bind (wp_gallop hO (by rw [g3.kind]; exact hkd) (ka _ (by simp)) kb (by (first | lia | omega)) (by (first | lia | omega)) (up_list sb _ _ (by (first | lia | omega))) fun k' c1 c2 c3 => ?_)))
              dsimp only
              have ge5 : ∀ hq : ib1 + 1 + k' < b.size, le κ (a[ia1]'(by (first | lia | omega))) b[ib1 + 1 + k'] := fun hq => by
                have q := c3 k' (Nat.le_refl _) (by (first | lia | omega))
                unfold bey at q
                rw [if_pos rfl, kAt_get hq] at q
                exact q
              have hm4 : MI κ a b (out1.push b[ib1] ++ b.extract (ib1 + 1) (ib1 + 1 + k')) ia1 (ib1 + 1 + k') := hm3.goB sb (by rw [Array.toList_append (ys := b.extract (ib1 + 1) (ib1 + 1 + k')), ext_toList (xs := b)]) fun x hx y hy => by
                obtain ⟨j, j1, j2, j3⟩ := take_mem hx
                have q := c2 j j1
                unfold bey at q
                rw [if_pos rfl, kAt_some j3] at q
                exact le_trans (show le κ x (a[ia1]'(by (first | lia | omega))) from KeyOrd.kle_of_klt q) (drop_ge sa (by (first | lia | omega)) y hy)
              by_cases hk' : k' > 0
              · rw [if_pos hk']
                by_cases z3 : ib1 + 1 + k' = b.size
                · rw [if_pos (by simpa using z3)]
                  exact wpS_pure ⟨g3, .inl ⟨_, _, rfl, hm4.done sa (by (first | lia | omega))⟩⟩
                · rw [if_neg (by simpa using z3)]
                  refine wpS_bind (elem_G (show ia1 < a.size by (first | lia | omega)) ?_)
                  have hm5 := hm4.pa sa (show ia1 < a.size by (first | lia | omega)) fun y hy => le_trans (show le κ (a[ia1]'(by (first | lia | omega))) (b[ib1 + 1 + k']'(by (first | lia | omega))) from ge5 (by (first | lia | omega))) (drop_ge sb (by (first | lia | omega)) y hy)
                  by_cases z4 : ia1 + 1 + 1 = a.size
                  · rw [if_pos (by simpa using z4)]
                    exact wpS_pure ⟨g3, .inl ⟨_, _, rfl, hm5.last sa sb (fun y hy x hx => hl y hy _ z4 x hx)⟩⟩
                  · rw [if_neg (by simpa using z4)]
                    split
                    · exact wpS_pure ⟨g3, .inr ⟨_, _, _, _, _, _, rfl, hm5, by (first | lia | omega), by (first | lia | omega), by (first | lia | omega)⟩⟩
                    · exact wpS_pure ⟨g3, _, _, _, _, _, _, rfl, hm5, by (first | lia | omega), by (first | lia | omega), by (first | lia | omega)⟩
              · rw [if_neg hk']
                have e0 : k' = 0 := by (first | lia | omega)
                subst e0
                replace hm4 := hm3
                refine wpS_bind (elem_G (show ia1 < a.size by (first | lia | omega)) ?_)
                have hm5 := hm4.pa sa (show ia1 < a.size by (first | lia | omega)) fun y hy => le_trans (show le κ (a[ia1]'(by (first | lia | omega))) (b[ib1 + 1]'(by (first | lia | omega))) from ge5 (by (first | lia | omega))) (drop_ge sb (by (first | lia | omega)) y hy)
                by_cases z4 : ia1 + 1 + 1 = a.size
                · rw [if_pos (by simpa using z4)]
                  exact wpS_pure ⟨g3, .inl ⟨_, _, rfl, hm5.last sa sb (fun y hy x hx => hl y hy _ z4 x hx)⟩⟩
                · rw [if_neg (by simpa using z4)]
                  split
                  · exact wpS_pure ⟨g3, .inr ⟨_, _, _, _, _, _, rfl, hm5, by (first | lia | omega), by (first | lia | omega), by (first | lia | omega)⟩⟩
                  · exact wpS_pure ⟨g3, _, _, _, _, _, _, rfl, hm5, by (first | lia | omega), by (first | lia | omega), by (first | lia | omega)⟩
end
end Tim
namespace Tim
open PySem PyProof.Rows
set_option autoImplicit false
section
variable {κ : KeyKind} {a b out : Array Keyed} {na nb : Nat}
structure MH (κ : KeyKind) (a b : Array Keyed) (out : Array Keyed) (na nb : Nat) : Prop where
  perm : ((a.toList.take na ++ b.toList.take nb) ++ out.toList.reverse).Perm (a.toList ++ b.toList)
  srt : SL κ out.toList.reverse
  high : ∀ x ∈ out.toList.reverse, ∀ y ∈ a.toList.take na ++ b.toList.take nb, le κ y x
theorem take_split {l : List Keyed} {n m : Nat} (h : n ≤ m) : l.take m = l.take n ++ (l.take m).drop n := by
  have e : (l.take m).take n = l.take n := by rw [List.take_take, Nat.min_eq_left h]
  rw [← e, List.take_append_drop]
theorem MH.goA {out' : Array Keyed} {n : Nat} (h : MH κ a b out na nb) (sa : SL κ a.toList) (hn : n ≤ na) (ho : out'.toList.reverse = (a.toList.take na).drop n ++ out.toList.reverse) (hle : ∀ x ∈ (a.toList.take na).drop n, ∀ y ∈ b.toList.take nb, le κ y x) : MH κ a b out' n nb := by
  have e := take_split (l := a.toList) hn
  have s1 := sa.take na
  rw [e] at s1
  obtain ⟨p1, p2, p3⟩ := List.pairwise_append.mp s1
  refine ⟨?_, ?_, ?_⟩
  · refine List.Perm.trans ?_ h.perm
    rw [ho, e, ← List.append_assoc]
    refine List.Perm.append_right _ ?_
    rw [List.append_assoc, List.append_assoc, ← e]
    exact List.Perm.append_left _ List.perm_append_comm
  · rw [ho]
    exact List.pairwise_append.mpr ⟨p2, h.srt, fun x hx y hy => h.high y hy x (List.mem_append_left _ (List.mem_of_mem_drop hx))⟩
  · intro x hx y hy
    rw [ho] at hx
    rcases List.mem_append.mp hx with hx | hx
    · rcases List.mem_append.mp hy with hy | hy
      · exact p3 y hy x hx
      · exact hle x hx y hy
    · refine h.high x hx y ?_
      rcases List.mem_append.mp hy with hy | hy
      · refine List.mem_append_left _ ?_
        rw [e]
        exact List.mem_append_left _ hy
      · exact List.mem_append_right _ hy
theorem MH.goB {out' : Array Keyed} {n : Nat} (h : MH κ a b out na nb) (sb : SL κ b.toList) (hn : n ≤ nb) (ho : out'.toList.reverse = (b.toList.take nb).drop n ++ out.toList.reverse) (hle : ∀ x ∈ (b.toList.take nb).drop n, ∀ y ∈ a.toList.take na, le κ y x) : MH κ a b out' na n := by
  have e := take_split (l := b.toList) hn
  have s1 := sb.take nb
  rw [e] at s1
  obtain ⟨p1, p2, p3⟩ := List.pairwise_append.mp s1
  refine ⟨?_, ?_, ?_⟩
  · refine List.Perm.trans (List.Perm.of_eq ?_) h.perm
    rw [ho, ← List.append_assoc, List.append_assoc (a.toList.take na), ← e]
  · rw [ho]
    exact List.pairwise_append.mpr ⟨p2, h.srt, fun x hx y hy => h.high y hy x (List.mem_append_right _ (List.mem_of_mem_drop hx))⟩
  · intro x hx y hy
    rw [ho] at hx
    rcases List.mem_append.mp hx with hx | hx
    · rcases List.mem_append.mp hy with hy | hy
      · exact hle x hx y hy
      · exact p3 y hy x hx
    · refine h.high x hx y ?_
      rcases List.mem_append.mp hy with hy | hy
      · exact List.mem_append_left _ hy
      · refine List.mem_append_right _ ?_
        rw [e]
        exact List.mem_append_left _ hy
theorem last_one {xs : Array Keyed} {n : Nat} (h0 : 0 < n) (h : n ≤ xs.size) : (xs.toList.take n).drop (n - 1) = [xs[n - 1]'(by (first | lia | omega))] := by
  have h' : n - 1 < xs.size := by (first | lia | omega)
  rw [List.drop_take, show n - (n - 1) = 1 by (first | lia | omega), drop_cons h']
  rfl
theorem take_le {xs : Array Keyed} {n : Nat} (hs : SL κ xs.toList) (h0 : 0 < n) (h : n ≤ xs.size) : ∀ y ∈ xs.toList.take n, le κ y (xs[n - 1]'(by (first | lia | omega))) := by
  intro y hy
  have q := hs.take n
  rw [take_split (l := xs.toList) (show n - 1 ≤ n by (first | lia | omega)), last_one h0 h] at q hy
  rcases List.mem_append.mp hy with hy | hy
  · exact (List.pairwise_append.mp q).2.2 y hy _ (List.mem_singleton.mpr rfl)
  · rw [List.mem_singleton.mp hy]
    exact le_refl _
theorem MH.pa (h : MH κ a b out na nb) (sa : SL κ a.toList) (h0 : 0 < na) (hn : na ≤ a.size) (hle : ∀ y ∈ b.toList.take nb, le κ y (a[na - 1]'(by (first | lia | omega)))) : MH κ a b (out.push (a[na - 1]'(by (first | lia | omega)))) (na - 1) nb :=
  h.goA (n := na - 1) sa (by (first | lia | omega)) (by rw [last_one h0 hn, Array.toList_push, List.reverse_append]; rfl) (by
    rw [last_one h0 hn]
    intro x hx
    rw [List.mem_singleton.mp hx]
    exact hle)
theorem MH.pb (h : MH κ a b out na nb) (sb : SL κ b.toList) (h0 : 0 < nb) (hn : nb ≤ b.size) (hle : ∀ y ∈ a.toList.take na, le κ y (b[nb - 1]'(by (first | lia | omega)))) : MH κ a b (out.push (b[nb - 1]'(by (first | lia | omega)))) na (nb - 1) :=
  h.goB (n := nb - 1) sb (by (first | lia | omega)) (by rw [last_one h0 hn, Array.toList_push, List.reverse_append]; rfl) (by
    rw [last_one h0 hn]
    intro x hx
    rw [List.mem_singleton.mp hx]
    exact hle)
theorem ext_take {xs : Array Keyed} {n : Nat} : (xs.extract 0 n).toList = xs.toList.take n := by
  rw [Array.toList_extract, List.extract_eq_take_drop, List.drop_zero, Nat.sub_zero]
theorem ext_mid {xs : Array Keyed} {n m : Nat} : (xs.extract n m).toList = (xs.toList.take m).drop n := by
  rw [Array.toList_extract, List.extract_eq_take_drop, List.drop_take]
theorem MH.done (h : MH κ a b out na nb) (sb : SL κ b.toList) (hna : na = 0) : Merged κ a b (a.extract 0 na ++ b.extract 0 nb ++ out.reverse) := by
  have e2 : (a.extract 0 na ++ b.extract 0 nb ++ out.reverse).toList = (a.toList.take na ++ b.toList.take nb) ++ out.toList.reverse := by
    rw [Array.toList_append, Array.toList_append, ext_take, ext_take, Array.toList_reverse]
  refine ⟨by rw [e2]; exact h.perm, ?_⟩
  rw [e2]
  subst hna
  refine List.pairwise_append.mpr ⟨?_, h.srt, fun x hx y hy => h.high y hy x hx⟩
  rw [List.take_zero, List.nil_append]
  exact sb.take nb
theorem MH.doneB (h : MH κ a b out na nb) (sa : SL κ a.toList) (hnb : nb = 0) : Merged κ a b (a.extract 0 na ++ b.extract 0 nb ++ out.reverse) := by
  have e2 : (a.extract 0 na ++ b.extract 0 nb ++ out.reverse).toList = (a.toList.take na ++ b.toList.take nb) ++ out.toList.reverse := by
    rw [Array.toList_append, Array.toList_append, ext_take, ext_take, Array.toList_reverse]
  refine ⟨by rw [e2]; exact h.perm, ?_⟩
  rw [e2]
  subst hnb
  refine List.pairwise_append.mpr ⟨?_, h.srt, fun x hx y hy => h.high y hy x hx⟩
  rw [List.take_zero, List.append_nil]
  exact sa.take na
theorem MH.first (h : MH κ a b out na nb) (sa : SL κ a.toList) (sb : SL κ b.toList) (hl : ∀ y ∈ b.toList.take nb, ∀ x ∈ a.toList, le κ y x) : Merged κ a b (b.extract 0 nb ++ a.extract 0 na ++ out.reverse) := by
  have e2 : (b.extract 0 nb ++ a.extract 0 na ++ out.reverse).toList = (b.toList.take nb ++ a.toList.take na) ++ out.toList.reverse := by
    rw [Array.toList_append, Array.toList_append, ext_take, ext_take, Array.toList_reverse]
  refine ⟨?_, ?_⟩
  · rw [e2]
    exact (List.Perm.append_right _ List.perm_append_comm).trans h.perm
  · rw [e2]
    refine List.pairwise_append.mpr ⟨List.pairwise_append.mpr ⟨sb.take nb, sa.take na, fun x hx y hy => hl x hx y (List.mem_of_mem_take hy)⟩, h.srt, fun x hx y hy => h.high y hy x ?_⟩
    rcases List.mem_append.mp hx with q | q
    · exact List.mem_append_right _ q
    · exact List.mem_append_left _ q
end
def mergeHiP : Array Keyed → Array Keyed → StateT SortSt Sem (Array Keyed) := sortPriv% PySem.Builtin.mergeHi
end Tim
namespace Tim
open PySem PyProof.Rows
set_option autoImplicit false
section
variable {prog : Program} {w : World} {A : Around} {E : Value → Shared → Prop} {s : Shared} {κ : KeyKind} {kd : SortKind}
set_option maxHeartbeats 4000000 in
theorem wp_mergeHi {st : SortSt} {a b : Array Keyed} {Q : Array Keyed → SortSt → Prop} (hO : LtG prog w A s κ kd) (hkd : kindOf st = kd) (ka : ∀ q ∈ a.toList, Keyd κ q) (kb : ∀ q ∈ b.toList, Keyd κ q) (sa : SL κ a.toList) (sb : SL κ b.toList)
    (ha : 0 < a.size) (hb : 0 < b.size) (h0 : ∀ y ∈ a.toList, le κ b[0] y) (hl : ∀ y ∈ b.toList, le κ y (a[a.size - 1]'(by (first | lia | omega))))
    (h : ∀ m st', Merged κ a b m → SG st st' → Q m st') : wpS (model prog w) A E s (mergeHiP a b) Q st := by
  have fst : ∀ n, n ≤ 1 → ∀ y ∈ b.toList.take n, ∀ x ∈ a.toList, le κ y x := fun n hn y hy x hx => by
    have hy' : y ∈ b.toList.take 1 := by
      rcases Nat.lt_or_ge n 1 with z | z
      · rw [show n = 0 by (first | lia | omega)] at hy; simp at hy
      · rwa [show n = 1 by (first | lia | omega)] at hy
    have e : b.toList.take 1 = [b[0]] := by
      have := take_one hb
      rwa [List.drop_zero] at this
    rw [e] at hy'
    rw [List.mem_singleton.mp hy']
    exact h0 x hx
  have m0 : MH κ a b #[a[a.size - 1]'(by (first | lia | omega))] (a.size - 1) b.size := by
    have z : MH κ a b #[] a.size b.size := ⟨by
      rw [List.take_of_length_le (by simp), List.take_of_length_le (by simp)]
      simp, by simp, by simp⟩
    have := z.pa sa ha (Nat.le_refl _) (fun y hy => hl y (List.mem_of_mem_take hy))
    simpa using this
  refine wpS_bind (wpS_rule ?_)
  dsimp only
  refine wpS_bind (elem_G (show a.size - 1 < a.size by (first | lia | omega)) ?_)
  by_cases e1 : a.size - 1 = 0
  · rw [if_pos (by simpa using e1)]
    exact wpS_pure (h _ _ (m0.done sb e1) (SG.refl st))
  rw [if_neg (by simpa using e1)]
  by_cases e2 : b.size = 1
  · rw [if_pos (by simpa using e2)]
    exact wpS_pure (h _ _ (m0.first sa sb (fst _ (by (first | lia | omega)))) (SG.refl st))
  rw [if_neg (by simpa using e2)]
  refine wpS_bind (wpS_get ?_)
  refine wpS_bind (wpS_mono (wpS_forRange (I := fun i c st' => SG st st' ∧ ∃ na nb out g, c = (none, na, nb, out, g) ∧ MH κ a b out na nb ∧ 0 < na ∧ na ≤ a.size ∧ 1 < nb ∧ nb ≤ b.size ∧ i + 1 + (na + nb) ≤ a.size + b.size)
    (Q := fun c st' => SG st st' ∧ ∃ m r, c = (some m, r) ∧ Merged κ a b m) ?step ?fin ⟨SG.refl st, _, _, _, _, rfl, m0, by (first | lia | omega), by (first | lia | omega), by (first | lia | omega), by (first | lia | omega), by (first | lia | omega)⟩) ?post)
  case post =>
    rintro c st' ⟨g, m, r, rfl, hm⟩
    exact wpS_pure (h m st' hm g)
  case fin =>
    rintro c st' ⟨g, na, nb, out, gg, rfl, hm, q1, q2, q3, q4, q5⟩
    exact absurd q5 (by (first | lia | omega))
  case step =>
    rintro i c st1 _ hi ⟨g1, na, nb, out, gg, rfl, hm, q1, q2, q3, q4, q5⟩
    dsimp only
    refine wpS_bind (wpS_mono (wpS_forRange (I := fun x c st' => st' = st1 ∧ ∃ na' nb' out' ca cb, c = (none, na', nb', out', ca, cb) ∧ MH κ a b out' na' nb' ∧ 0 < na' ∧ na' ≤ a.size ∧ 1 < nb' ∧ nb' ≤ b.size ∧ x + (na' + nb') ≤ na + nb)
      (Q := fun c st' => st' = st1 ∧ ((∃ m r, c = (some m, r) ∧ Merged κ a b m) ∨ ∃ na' nb' out' ca cb, c = (none, na', nb', out', ca, cb) ∧ MH κ a b out' na' nb' ∧ 0 < na' ∧ na' ≤ a.size ∧ 1 < nb' ∧ nb' ≤ b.size ∧ 1 + (na' + nb') ≤ na + nb)) ?istep ?ifin ⟨rfl, na, nb, out, 0, 0, rfl, hm, q1, q2, q3, q4, by (first | lia | omega)⟩) ?ipost)
    case ifin =>
      rintro c st' ⟨rfl, na', nb', out', ca, cb, rfl, hm', r1, r2, r3, r4, r5⟩
      exact ⟨rfl, .inr ⟨_, _, _, ca, cb, rfl, hm', r1, r2, r3, r4, by (first | lia | omega)⟩⟩
    case istep =>
      rintro x c st' _ hx ⟨rfl, na', nb', out', ca, cb, rfl, hm', r1, r2, r3, r4, r5⟩
      dsimp only
      refine wpS_bind (elem_G (show nb' - 1 < b.size by (first | lia | omega)) (wpS_bind (elem_G (show na' - 1 < a.size by (first | lia | omega)) (wpS_bind (lt_G hO (by rw [g1.kind]; exact hkd) (kb _ (by simp)) (ka _ (by simp)) ?_)))))
      dsimp only
      cases e : κ.blt (ky κ (b[nb' - 1]'(by (first | lia | omega)))) (ky κ (a[na' - 1]'(by (first | lia | omega)))) with
      | true =>
        simp only [if_true]
        have hm2 := hm'.pa sa r1 r2 (fun y hy => le_trans (take_le sb (by (first | lia | omega)) r4 y hy) (show le κ (b[nb' - 1]'(by (first | lia | omega))) (a[na' - 1]'(by (first | lia | omega))) from KeyOrd.kle_of_klt e))
        refine wpS_bind (elem_G (show na' - 1 < a.size by (first | lia | omega)) ?_)
        by_cases z : na' - 1 = 0
        · rw [if_pos (by simpa using z)]
          exact wpS_pure ⟨rfl, .inl ⟨_, _, rfl, hm2.done sb z⟩⟩
        · rw [if_neg (by simpa using z)]
          split
          · exact wpS_pure ⟨rfl, .inr ⟨_, _, _, _, _, rfl, hm2, by (first | lia | omega), by (first | lia | omega), by (first | lia | omega), by (first | lia | omega), by (first | lia | omega)⟩⟩
          · exact wpS_pure ⟨rfl, _, _, _, _, _, rfl, hm2, by (first | lia | omega), by (first | lia | omega), by (first | lia | omega), by (first | lia | omega), by (first | lia | omega)⟩
      | false =>
        simp only [Bool.false_eq_true, if_false]
        have hm2 := hm'.pb sb (by (first | lia | omega)) r4 (fun y hy => le_trans (take_le sa r1 r2 y hy) (show le κ (a[na' - 1]'(by (first | lia | omega))) (b[nb' - 1]'(by (first | lia | omega))) from e))
        refine wpS_bind (elem_G (show nb' - 1 < b.size by (first | lia | omega)) ?_)
        by_cases z : nb' - 1 = 1
        · rw [if_pos (by simpa using z)]
          exact wpS_pure ⟨rfl, .inl ⟨_, _, rfl, hm2.first sa sb (fst _ (by (first | lia | omega)))⟩⟩
        · rw [if_neg (by simpa using z)]
          split
          · exact wpS_pure ⟨rfl, .inr ⟨_, _, _, _, _, rfl, hm2, by (first | lia | omega), by (first | lia | omega), by (first | lia | omega), by (first | lia | omega), by (first | lia | omega)⟩⟩
          · exact wpS_pure ⟨rfl, _, _, _, _, _, rfl, hm2, by (first | lia | omega), by (first | lia | omega), by (first | lia | omega), by (first | lia | omega), by (first | lia | omega)⟩
    case ipost =>
      rintro c st' ⟨rfl, ⟨m, r, rfl, hmm⟩ | ⟨na', nb', out, ca, cb, rfl, hm, q1, q2, q3, q4, q6⟩⟩
      · exact wpS_pure ⟨g1, m, _, rfl, hmm⟩
      dsimp only
      refine wpS_bind (wpS_rule ?_)
      refine wpS_bind (wpS_mono (wpS_forRange (I := fun x c st'' => SG st st'' ∧ ∃ na1 nb1 out1 gg ca cb, c = (none, na1, nb1, out1, gg, ca, cb) ∧ MH κ a b out1 na1 nb1 ∧ 0 < na1 ∧ na1 ≤ a.size ∧ 1 < nb1 ∧ nb1 ≤ b.size ∧ 1 + (na1 + nb1) ≤ na + nb)
        (Q := fun c st'' => SG st st'' ∧ ((∃ m r, c = (some m, r) ∧ Merged κ a b m) ∨ ∃ na1 nb1 out1 gg ca cb, c = (none, na1, nb1, out1, gg, ca, cb) ∧ MH κ a b out1 na1 nb1 ∧ 0 < na1 ∧ na1 ≤ a.size ∧ 1 < nb1 ∧ nb1 ≤ b.size ∧ 1 + (na1 + nb1) ≤ na + nb)) ?jstep ?jfin ⟨g1, _, _, _, _, _, _, rfl, hm, q1, q2, q3, q4, q6⟩) ?jpost)
      case jfin =>
        rintro c st'' ⟨g2, na1, nb1, out1, gg1, ca1, cb1, rfl, r⟩
        exact ⟨g2, .inr ⟨_, _, _, _, _, _, rfl, r⟩⟩
      case jpost =>
        rintro c st'' ⟨g2, ⟨m, r, rfl, hmm⟩ | ⟨na1, nb1, out1, gg1, ca1, cb1, rfl, hm1, t1, t2, t3, t4, t5⟩⟩
        · exact wpS_pure ⟨g2, m, _, rfl, hmm⟩
        · dsimp only
          exact wpS_bind (wp_setGallop g2 fun st3 g3 => wpS_pure ⟨g3, _, _, _, _, rfl, hm1, t1, t2, t3, t4, by (first | lia | omega)⟩)
      case jstep =>
        rintro x c st'' _ hx ⟨g2, na1, nb1, out1, gg1, ca1, cb1, rfl, hm1, t1, t2, t3, t4, t5⟩
        dsimp only
        by_cases hg : gg1 > 1
        all_goals
          first | rw [if_pos hg] | rw [if_neg hg]
          refine wpS_bind (wp_setGallop g2 fun st3 g3 => ?_)
          refine wpS_bind (elem_G (show nb1 - 1 < b.size by (first | lia | omega)) (wpS_bind (wp_gallop hO (by rw [g3.kind]; exact hkd) (kb _ (by simp)) ka (by (first | lia | omega)) (by (first | lia | omega)) (up_list sa _ _ (by (first | lia | omega))) fun at0 k1 k2 k3 => ?_)))
          dsimp only
          have hmk : MH κ a b (out1 ++ (a.extract at0 na1).reverse) at0 nb1 := hm1.goA sa k1 (by
            rw [Array.toList_append, List.reverse_append, Array.toList_reverse, List.reverse_reverse, ext_mid]) fun x hx y hy => by
            rw [List.drop_take] at hx
            obtain ⟨j, j1, j2, j3⟩ := take_mem hx
            have q := k3 (at0 + j) (by (first | lia | omega)) (by (first | lia | omega))
            unfold bey at q
            rw [if_neg (by decide), Nat.zero_add, kAt_some j3, Bool.not_eq_false'] at q
            exact le_trans (take_le sb (by (first | lia | omega)) t4 y hy) (show le κ (b[nb1 - 1]'(by (first | lia | omega))) x from KeyOrd.kle_of_klt q)
          have bk : ∀ y ∈ a.toList.take at0, le κ y (b[nb1 - 1]'(by (first | lia | omega))) := fun y hy => by
            have hy' : y ∈ (a.toList.drop 0).take at0 := by rw [List.drop_zero]; exact hy
            obtain ⟨j, j1, j2, j3⟩ := take_mem hy'
            have q := k2 j j1
            unfold bey at q
            rw [if_neg (by decide), kAt_some j3, Bool.not_eq_true'] at q
            exact q
          by_cases hk : na1 - at0 > 0
          · rw [if_pos hk]
            by_cases z : at0 = 0
            · rw [if_pos (by simpa using z)]
              exact wpS_pure ⟨g3, .inl ⟨_, _, rfl, hmk.done sb z⟩⟩
            rw [if_neg (by simpa using z)]
            have hm2 := hmk
            have u2 := bk
            refine wpS_bind (elem_G (show nb1 - 1 < b.size by (first | lia | omega)) ?_)
            have hm3 := hm2.pb sb (by (first | lia | omega)) (by (first | lia | omega)) u2
            by_cases z2 : nb1 - 1 = 1
            · rw [if_pos (by simpa using z2)]
              exact wpS_pure ⟨g3, .inl ⟨_, _, rfl, hm3.first sa sb (fst _ (by (first | lia | omega)))⟩⟩
            · rw [if_neg (by simpa using z2)]
              refine wpS_bind (elem_G (show at0 - 1 < a.size by (first | lia | omega)) (wpS_bind (wp_gallop hO (by rw [g3.kind]; exact hkd) (ka _ (by simp)) kb (by (first | lia | omega)) (by (first | lia | omega)) (up_list sb _ _ (by (first | lia | omega))) fun at' c1 c2 c3 => ?_)))
              dsimp only
              have lt5 : ∀ hq : 0 < at', le κ (b[at' - 1]'(by (first | lia | omega))) (a[at0 - 1]'(by (first | lia | omega))) := fun hq => by
                have q := c2 (at' - 1) (by (first | lia | omega))
                unfold bey at q
                rw [if_pos rfl, Nat.zero_add, kAt_get (by (first | lia | omega))] at q
                exact KeyOrd.kle_of_klt q
              have hm4 : MH κ a b ((out1 ++ (a.extract at0 na1).reverse).push (b[nb1 - 1]'(by (first | lia | omega))) ++ (b.extract at' (nb1 - 1)).reverse) at0 at' := hm3.goB sb c1 (by
                rw [Array.toList_append (ys := (b.extract at' (nb1 - 1)).reverse), List.reverse_append, Array.toList_reverse, List.reverse_reverse, ext_mid]) fun x hx y hy => by
                rw [List.drop_take] at hx
                obtain ⟨j, j1, j2, j3⟩ := take_mem hx
                have q := c3 (at' + j) (by (first | lia | omega)) (by (first | lia | omega))
                unfold bey at q
                rw [if_pos rfl, Nat.zero_add, kAt_some j3] at q
                exact le_trans (take_le sa (by (first | lia | omega)) (by (first | lia | omega)) y hy) (show le κ (a[at0 - 1]'(by (first | lia | omega))) x from q)
              by_cases hk' : nb1 - 1 - at' > 0
              · rw [if_pos hk']
                by_cases z3 : at' = 1
                · rw [if_pos (by simpa using z3)]
                  exact wpS_pure ⟨g3, .inl ⟨_, _, rfl, hm4.first sa sb (fst _ (by (first | lia | omega)))⟩⟩
                rw [if_neg (by simpa using z3)]
                by_cases z3' : at' = 0
                · rw [if_pos (by simpa using z3')]
                  exact wpS_pure ⟨g3, .inl ⟨_, _, rfl, hm4.doneB sa z3'⟩⟩
                rw [if_neg (by simpa using z3')]
                refine wpS_bind (elem_G (show at0 - 1 < a.size by (first | lia | omega)) ?_)
                have hm5 := hm4.pa sa (by (first | lia | omega)) (by (first | lia | omega)) fun y hy => le_trans (take_le sb (by (first | lia | omega)) (by (first | lia | omega)) y hy) (lt5 (by (first | lia | omega)))
                by_cases z4 : at0 - 1 = 0
                · rw [if_pos (by simpa using z4)]
                  exact wpS_pure ⟨g3, .inl ⟨_, _, rfl, hm5.done sb z4⟩⟩
                · rw [if_neg (by simpa using z4)]
                  split
                  · exact wpS_pure ⟨g3, .inr ⟨_, _, _, _, _, _, rfl, hm5, by (first | lia | omega), by (first | lia | omega), by (first | lia | omega), by (first | lia | omega), by (first | lia | omega)⟩⟩
                  · exact wpS_pure ⟨g3, _, _, _, _, _, _, rfl, hm5, by (first | lia | omega), by (first | lia | omega), by (first | lia | omega), by (first | lia | omega), by (first | lia | omega)⟩
              · rw [if_neg hk']
                have e0 : at' = nb1 - 1 := by (first | lia | omega)
                subst e0
                replace hm4 := hm3
                refine wpS_bind (elem_G (show at0 - 1 < a.size by (first | lia | omega)) ?_)
                have hm5 := hm4.pa sa (by (first | lia | omega)) (by (first | lia | omega)) fun y hy => le_trans (take_le sb (by (first | lia | omega)) (by (first | lia | omega)) y hy) (lt5 (by (first | lia | omega)))
                by_cases z4 : at0 - 1 = 0
                · rw [if_pos (by simpa using z4)]
                  exact wpS_pure ⟨g3, .inl ⟨_, _, rfl, hm5.done sb z4⟩⟩
                · rw [if_neg (by simpa using z4)]
                  split
                  · exact wpS_pure ⟨g3, .inr ⟨_, _, _, _, _, _, rfl, hm5, by (first | lia | omega), by (first | lia | omega), by (first | lia | omega), by (first | lia | omega), by (first | lia | omega)⟩⟩
                  · exact wpS_pure ⟨g3, _, _, _, _, _, _, rfl, hm5, by (first | lia | omega), by (first | lia | omega), by (first | lia | omega), by (first | lia | omega), by (first | lia | omega)⟩
          · rw [if_neg hk]
            have e0 : at0 = na1 := by (first | lia | omega)
            subst e0
            have hm2 := hm1
            have u2 := bk
            refine wpS_bind (elem_G (show nb1 - 1 < b.size by (first | lia | omega)) ?_)
            have hm3 := hm2.pb sb (by (first | lia | omega)) (by (first | lia | omega)) u2
            by_cases z2 : nb1 - 1 = 1
            · rw [if_pos (by simpa using z2)]
              exact wpS_pure ⟨g3, .inl ⟨_, _, rfl, hm3.first sa sb (fst _ (by (first | lia | omega)))⟩⟩
            · rw [if_neg (by simpa using z2)]
              refine wpS_bind (elem_G (show at0 - 1 < a.size by (first | lia | omega)) (wpS_bind (wp_gallop hO (by rw [g3.kind]; exact hkd) (ka _ (by simp)) kb (by (first | lia | omega)) (by (first | lia | omega)) (up_list sb _ _ (by (first | lia | omega))) fun at' c1 c2 c3 => ?_)))
              dsimp only
              have lt5 : ∀ hq : 0 < at', le κ (b[at' - 1]'(by (first | lia | omega))) (a[at0 - 1]'(by (first | lia | omega))) := fun hq => by
                have q := c2 (at' - 1) (by (first | lia | omega))
                unfold bey at q
                rw [if_pos rfl, Nat.zero_add, kAt_get (by (first | lia | omega))] at q
                exact KeyOrd.kle_of_klt q
              have hm4 : MH κ a b (out1.push (b[nb1 - 1]'(by (first | lia | omega))) ++ (b.extract at' (nb1 - 1)).reverse) at0 at' := hm3.goB sb c1 (by
                rw [Array.toList_append (ys := (b.extract at' (nb1 - 1)).reverse), List.reverse_append, Array.toList_reverse, List.reverse_reverse, ext_mid]) fun x hx y hy => by
                rw [List.drop_take] at hx
                obtain ⟨j, j1, j2, j3⟩ := take_mem hx
                have q := c3 (at' + j) (by (first | lia | omega)) (by (first | lia | omega))
                unfold bey at q
                rw [if_pos rfl, Nat.zero_add, kAt_some j3] at q
                exact le_trans (take_le sa (by (first | lia | omega)) (by (first | lia | omega)) y hy) (show le κ (a[at0 - 1]'(by (first | lia | omega))) x from q)
              by_cases hk' : nb1 - 1 - at' > 0
              · rw [if_pos hk']
                by_cases z3 : at' = 1
                · rw [if_pos (by simpa using z3)]
                  exact wpS_pure ⟨g3, .inl ⟨_, _, rfl, hm4.first sa sb (fst _ (by (first | lia | omega)))⟩⟩
                rw [if_neg (by simpa using z3)]
                by_cases z3' : at' = 0
                · rw [if_pos (by simpa using z3')]
                  exact wpS_pure ⟨g3, .inl ⟨_, _, rfl, hm4.doneB sa z3'⟩⟩
                rw [if_neg (by simpa using z3')]
                refine wpS_bind (elem_G (show at0 - 1 < a.size by (first | lia | omega)) ?_)
                have hm5 := hm4.pa sa (by (first | lia | omega)) (by (first | lia | omega)) fun y hy => le_trans (take_le sb (by (first | lia | omega)) (by (first | lia | omega)) y hy) (lt5 (by (first | lia | omega)))
                by_cases z4 : at0 - 1 = 0
                · rw [if_pos (by simpa using z4)]
                  exact wpS_pure ⟨g3, .inl ⟨_, _, rfl, hm5.done sb z4⟩⟩
                · rw [if_neg (by simpa using z4)]
                  split
                  · exact wpS_pure ⟨g3, .inr ⟨_, _, _, _, _, _, rfl, hm5, by (first | lia | omega), by (first | lia | omega), by (first | lia | omega), by (first | lia | omega), by (first | lia | omega)⟩⟩
                  · exact wpS_pure ⟨g3, _, _, _, _, _, _, rfl, hm5, by (first | lia | omega), by (first | lia | omega), by (first | lia | omega), by (first | lia | omega), by (first | lia | omega)⟩
              · rw [if_neg hk']
                have e0 : at' = nb1 - 1 := by (first | lia | omega)
                subst e0
                replace hm4 := hm3
                refine wpS_bind (elem_G (show at0 - 1 < a.size by (first | lia | omega)) ?_)
                have hm5 := hm4.pa sa (by (first | lia | omega)) (by (first | lia | omega)) fun y hy => le_trans (take_le sb (by (first | lia | omega)) (by (first | lia | omega)) y hy) (lt5 (by (first | lia | omega)))
                by_cases z4 : at0 - 1 = 0
                · rw [if_pos (by simpa using z4)]
                  exact wpS_pure ⟨g3, .inl ⟨_, _, rfl, hm5.done sb z4⟩⟩
                · rw [if_neg (by simpa using z4)]
                  split
                  · exact wpS_pure ⟨g3, .inr ⟨_, _, _, _, _, _, rfl, hm5, by (first | lia | omega), by (first | lia | omega), by (first | lia | omega), by (first | lia | omega), by (first | lia | omega)⟩⟩
                  · exact wpS_pure ⟨g3, _, _, _, _, _, _, rfl, hm5, by (first | lia | omega), by (first | lia | omega), by (first | lia | omega), by (first | lia | omega), by (first | lia | omega)⟩
end
end Tim
namespace Tim
open PySem PyProof.Rows
set_option autoImplicit false
section
variable {κ : KeyKind}
def seg (xs : Array Keyed) (lo n : Nat) : List Keyed := (xs.toList.drop lo).take n
theorem seg_get {xs : Array Keyed} {lo n i : Nat} (h : lo + n ≤ xs.size) (hi : i < n) : (seg xs lo n)[i]? = xs[lo + i]? := by
  unfold seg
  rw [List.getElem?_take, if_pos hi, List.getElem?_drop, Array.getElem?_toList]
theorem seg_length {xs : Array Keyed} {lo n : Nat} (h : lo + n ≤ xs.size) : (seg xs lo n).length = n := by
  unfold seg
  rw [List.length_take, List.length_drop, Array.length_toList]
  (first | lia | omega)
theorem seg_up {xs : Array Keyed} {lo n : Nat} (h : lo + n ≤ xs.size) (hU : Up κ xs lo (lo + n)) : SL κ (seg xs lo n) := by
  rw [SL, List.pairwise_iff_getElem]
  intro i j hi hj hij
  have hi' := hi
  have hj' := hj
  rw [seg_length h] at hi' hj'
  have e1 : (seg xs lo n)[i] = xs[lo + i]'(by (first | lia | omega)) := by
    have := seg_get h hi'
    rw [List.getElem?_eq_getElem hi, Array.getElem?_eq_getElem (by (first | lia | omega))] at this
    exact Option.some.inj this
  have e2 : (seg xs lo n)[j] = xs[lo + j]'(by (first | lia | omega)) := by
    have := seg_get h hj'
    rw [List.getElem?_eq_getElem hj, Array.getElem?_eq_getElem (by (first | lia | omega))] at this
    exact Option.some.inj this
  rw [e1, e2]
  have := hU (lo + i) (lo + j) (by (first | lia | omega)) (by (first | lia | omega)) (by (first | lia | omega))
  rw [kAt_get (by (first | lia | omega)), kAt_get (by (first | lia | omega))] at this
  exact this
theorem seg_append {xs : Array Keyed} {lo n m : Nat} : seg xs lo (n + m) = seg xs lo n ++ seg xs (lo + n) m := by
  unfold seg
  rw [List.take_add, List.drop_drop]
theorem seg_ext {xs : Array Keyed} {lo n : Nat} : (xs.extract lo (lo + n)).toList = seg xs lo n := ext_toList
theorem seg_whole {xs : Array Keyed} {lo n : Nat} (h : lo + n ≤ xs.size) : xs.toList = xs.toList.take lo ++ (seg xs lo n ++ xs.toList.drop (lo + n)) := by
  unfold seg
  rw [← List.drop_drop, List.take_append_drop, List.take_append_drop]
def back (xs : Array Keyed) (lo : Nat) (m : Array Keyed) : Array Keyed := m.toList.zipIdx.foldl (fun a (q : Keyed × Nat) => a.setIfInBounds (lo + q.2) q.1) xs
theorem back_go (lo : Nat) : ∀ (l : List Keyed) (k : Nat) (xs : Array Keyed), lo + k + l.length ≤ xs.size → ∀ i : Nat,
    ((l.zipIdx k).foldl (fun a (q : Keyed × Nat) => a.setIfInBounds (lo + q.2) q.1) xs)[i]? = if lo + k ≤ i ∧ i < lo + k + l.length then l[i - (lo + k)]? else xs[i]?
  | [], k, xs, h, i => by
    rw [if_neg (by simp only [List.length_nil]; (first | lia | omega))]
    rfl
  | x :: l, k, xs, h, i => by
    rw [List.length_cons] at h
    rw [List.zipIdx_cons, List.foldl_cons, back_go lo l (k + 1) (xs.setIfInBounds (lo + k) x) (by rw [Array.size_setIfInBounds]; (first | lia | omega)) i, List.length_cons]
    by_cases h1 : lo + (k + 1) ≤ i ∧ i < lo + (k + 1) + l.length
    · rw [if_pos h1, if_pos (by (first | lia | omega)), show i - (lo + k) = (i - (lo + (k + 1))) + 1 by (first | lia | omega), List.getElem?_cons_succ]
    · rw [if_neg h1, Array.getElem?_setIfInBounds]
      by_cases h2 : lo + k = i
      · rw [if_pos h2, if_pos (by (first | lia | omega)), if_pos (by (first | lia | omega))]
        subst h2
        simp
      · rw [if_neg h2, if_neg (by (first | lia | omega))]
theorem back_list {xs m : Array Keyed} {lo : Nat} (h : lo + m.size ≤ xs.size) : (back xs lo m).toList = xs.toList.take lo ++ (m.toList ++ xs.toList.drop (lo + m.size)) := by
  apply List.ext_getElem?
  intro i
  have q := back_go lo m.toList 0 xs (by rw [Array.length_toList]; (first | lia | omega)) i
  unfold back
  rw [Array.getElem?_toList, q, Array.length_toList, Nat.add_zero]
  have l1 : (xs.toList.take lo).length = lo := by rw [List.length_take, Array.length_toList]; (first | lia | omega)
  by_cases h1 : i < lo
  · rw [if_neg (by (first | lia | omega)), List.getElem?_append_left (by rw [l1]; exact h1), List.getElem?_take, if_pos h1, Array.getElem?_toList]
  · rw [List.getElem?_append_right (by rw [l1]; (first | lia | omega)), l1]
    by_cases h2 : i < lo + m.size
    · rw [if_pos (by (first | lia | omega)), List.getElem?_append_left (by rw [Array.length_toList]; (first | lia | omega))]
    · rw [if_neg (by (first | lia | omega)), List.getElem?_append_right (by rw [Array.length_toList]; (first | lia | omega)), Array.length_toList, List.getElem?_drop, show lo + m.size + (i - lo - m.size) = i by (first | lia | omega), Array.getElem?_toList]
theorem back_get {xs m : Array Keyed} {lo : Nat} (h : lo + m.size ≤ xs.size) (i : Nat) : (back xs lo m)[i]? = if lo ≤ i ∧ i < lo + m.size then m[i - lo]? else xs[i]? := by
  have q := back_go lo m.toList 0 xs (by rw [Array.length_toList]; (first | lia | omega)) i
  rw [Array.length_toList, Nat.add_zero, Array.getElem?_toList] at q
  exact q
theorem seg_mem {xs : Array Keyed} {lo n : Nat} {p : Keyed} (h : lo + n ≤ xs.size) (hp : p ∈ seg xs lo n) : ∃ q, lo ≤ q ∧ q < lo + n ∧ xs[q]? = some p := by
  obtain ⟨i, hi, e⟩ := List.getElem_of_mem hp
  have hi' := hi
  rw [seg_length h] at hi'
  refine ⟨lo + i, by (first | lia | omega), by (first | lia | omega), ?_⟩
  rw [← seg_get h hi', List.getElem?_eq_getElem hi, e]
theorem merge_fits {xs m : Array Keyed} {sa na nb k nb' : Nat} (hz : sa + na + nb ≤ xs.size) (ua : Up κ xs sa (sa + na)) (ub : Up κ xs (sa + na) (sa + na + nb)) (hk : k < na) (hnb : nb' ≤ nb) (hb0 : 0 < nb')
    (k2 : ∀ i, i < k → κ.kle (kAt κ xs (sa + i)) (kAt κ xs (sa + na))) (c3 : ∀ i, nb' ≤ i → i < nb → κ.kle (kAt κ xs (sa + na - 1)) (kAt κ xs (sa + na + i)))
    (hm : Merged κ (xs.extract (sa + k) (sa + na)) (xs.extract (sa + na) (sa + na + nb')) m) :
    Off xs (back xs (sa + k) m) sa (sa + (na + nb)) ∧ Up κ (back xs (sa + k) m) sa (sa + (na + nb)) := by
  have ex : (xs.extract (sa + k) (sa + na)).toList = seg xs (sa + k) (na - k) := by
    have := seg_ext (xs := xs) (lo := sa + k) (n := na - k)
    rwa [show sa + k + (na - k) = sa + na by (first | lia | omega)] at this
  have ey : (xs.extract (sa + na) (sa + na + nb')).toList = seg xs (sa + na) nb' := seg_ext
  have hp := hm.perm
  rw [ex, ey] at hp
  have ms : m.size = na - k + nb' := by
    have := hp.length_eq
    rw [Array.length_toList, List.length_append, seg_length (by (first | lia | omega)), seg_length (by (first | lia | omega))] at this
    exact this
  have hzm : sa + k + m.size ≤ xs.size := by (first | lia | omega)
  have bl := back_list hzm
  have mid : seg xs (sa + k) m.size = seg xs (sa + k) (na - k) ++ seg xs (sa + na) nb' := by
    rw [ms, seg_append, show sa + k + (na - k) = sa + na by (first | lia | omega)]
  have perm : (back xs (sa + k) m).toList.Perm xs.toList := by
    have e := seg_whole hzm
    rw [mid] at e
    refine (List.Perm.of_eq bl).trans (List.Perm.trans ?_ (List.Perm.of_eq e.symm))
    exact List.Perm.append_left _ (List.Perm.append_right _ hp)
  have inm : ∀ i, sa + k ≤ i → i < sa + k + m.size → ∃ q, sa + k ≤ q ∧ q < sa + na + nb' ∧ kAt κ (back xs (sa + k) m) i = kAt κ xs q := by
    intro i h1 h2
    have g := back_get hzm i
    rw [if_pos ⟨h1, h2⟩, Array.getElem?_eq_getElem (show i - (sa + k) < m.size by (first | lia | omega))] at g
    have hmem : m[i - (sa + k)]'(by (first | lia | omega)) ∈ m.toList := by simp
    rcases List.mem_append.mp (hp.mem_iff.mp hmem) with z | z
    · obtain ⟨q, q1, q2, e⟩ := seg_mem (by (first | lia | omega)) z
      exact ⟨q, q1, by (first | lia | omega), kAt_congr (g.trans e.symm)⟩
    · obtain ⟨q, q1, q2, e⟩ := seg_mem (by (first | lia | omega)) z
      exact ⟨q, by (first | lia | omega), q2, kAt_congr (g.trans e.symm)⟩
  have outm : ∀ i, (i < sa + k ∨ sa + k + m.size ≤ i) → kAt κ (back xs (sa + k) m) i = kAt κ xs i := fun i h => kAt_congr (by rw [back_get hzm, if_neg (by (first | lia | omega))])
  have am : ∀ i q, sa ≤ i → i < sa + k → sa + k ≤ q → q < sa + na + nb → κ.kle (kAt κ xs i) (kAt κ xs q) := fun i q h1 h2 h3 h4 => by
    by_cases z : q < sa + na
    · exact ua i q h1 (by (first | lia | omega)) z
    · have t := k2 (i - sa) (by (first | lia | omega))
      rw [show sa + (i - sa) = i by (first | lia | omega)] at t
      exact KeyOrd.kle_trans t (ub _ q (Nat.le_refl _) (by (first | lia | omega)) h4)
  have mc : ∀ q j, sa + k ≤ q → q < sa + na + nb' → sa + na + nb' ≤ j → j < sa + na + nb → κ.kle (kAt κ xs q) (kAt κ xs j) := fun q j h1 h2 h3 h4 => by
    by_cases z : q < sa + na
    · have t := c3 (j - (sa + na)) (by (first | lia | omega)) (by (first | lia | omega))
      rw [show sa + na + (j - (sa + na)) = j by (first | lia | omega)] at t
      exact KeyOrd.kle_trans (ua q (sa + na - 1) (by (first | lia | omega)) (by (first | lia | omega)) (by (first | lia | omega))) t
    · exact ub q j (by (first | lia | omega)) (by (first | lia | omega)) h4
  refine ⟨⟨Array.perm_iff_toList_perm.mpr perm, fun i hi => by rw [back_get hzm, if_neg (by (first | lia | omega))]⟩, fun i j h1 h2 h3 => ?_⟩
  by_cases i1 : i < sa + k
  · rw [outm i (.inl i1)]
    by_cases j1 : j < sa + k
    · rw [outm j (.inl j1)]; exact ua i j h1 h2 (by (first | lia | omega))
    · by_cases j2 : j < sa + k + m.size
      · obtain ⟨q, q1, q2, e⟩ := inm j (by (first | lia | omega)) j2
        rw [e]; exact am i q h1 i1 q1 (by (first | lia | omega))
      · rw [outm j (.inr (by (first | lia | omega)))]; exact am i j h1 i1 (by (first | lia | omega)) (by (first | lia | omega))
  · by_cases i2 : i < sa + k + m.size
    · by_cases j2 : j < sa + k + m.size
      · by_cases e : i = j
        · subst e; exact KeyOrd.kle_refl _
        · have gi := back_get hzm i
          have gj := back_get hzm j
          rw [if_pos ⟨by (first | lia | omega), i2⟩] at gi
          rw [if_pos ⟨by (first | lia | omega), j2⟩] at gj
          rw [kAt_congr gi, kAt_congr gj, kAt_get (show i - (sa + k) < m.size by (first | lia | omega)), kAt_get (show j - (sa + k) < m.size by (first | lia | omega))]
          have := List.pairwise_iff_getElem.mp hm.srt (i - (sa + k)) (j - (sa + k)) (by rw [Array.length_toList]; (first | lia | omega)) (by rw [Array.length_toList]; (first | lia | omega)) (by (first | lia | omega))
          simpa [le] using this
      · obtain ⟨q, q1, q2, e⟩ := inm i (by (first | lia | omega)) i2
        rw [e, outm j (.inr (by (first | lia | omega)))]; exact mc q j q1 q2 (by (first | lia | omega)) (by (first | lia | omega))
    · rw [outm i (.inr (by (first | lia | omega))), outm j (.inr (by (first | lia | omega)))]; exact ub i j (by (first | lia | omega)) h2 (by (first | lia | omega))
theorem up_join {xs : Array Keyed} {sa na nb : Nat} (ua : Up κ xs sa (sa + na)) (ub : Up κ xs (sa + na) (sa + na + nb)) (hna : 0 < na) (hle : κ.kle (kAt κ xs (sa + na - 1)) (kAt κ xs (sa + na))) : Up κ xs sa (sa + (na + nb)) := by
  intro i j h1 h2 h3
  by_cases z : j < sa + na
  · exact ua i j h1 h2 z
  · by_cases y : i < sa + na
    · exact KeyOrd.kle_trans (ua i (sa + na - 1) h1 (by (first | lia | omega)) (by (first | lia | omega))) (KeyOrd.kle_trans hle (ub (sa + na) j (Nat.le_refl _) (by (first | lia | omega)) (by (first | lia | omega))))
    · exact ub i j (by (first | lia | omega)) h2 (by (first | lia | omega))
end
end Tim
namespace Tim
open PySem PyProof.Rows
set_option autoImplicit false
theorem mergeAt'_eq (i : Nat) : mergeAt' i = (do
  let s ← get
  let (some (sa, na, power), some (sb, nb, _)) := ((pendingOf s)[i]?, (pendingOf s)[i + 1]?) | unsupported "internal:list.sort.pending"
  set (setPending s (((pendingOf s).setIfInBounds i (sa, na + nb, power)).eraseIdxIfInBounds (i + 1)))
  let some k ← gallopP false (← elem' (arrOf s) sb) (arrOf s) sa na 0 | return false
  let (sa, na) := (sa + k, na - k)
  if na == 0 then return true
  let some nb ← gallopP true (← elem' (arrOf s) (sa + na - 1)) (arrOf s) sb nb (nb - 1) | return false
  if nb == 0 then return true
  let x := (arrOf s).extract sa sb
  let y := (arrOf s).extract sb (sb + nb)
  let merged ← if na ≤ nb then mergeLoP x y else mergeHiP x y
  modify fun s => setArr s (merged.toList.zipIdx.foldl (fun a (p, j) => a.setIfInBounds (sa + j) p) (arrOf s))
  return (failedOf (← get)).isNone) := rfl
section
variable {prog : Program} {w : World} {A : Around} {E : Value → Shared → Prop} {s : Shared} {κ : KeyKind} {kd : SortKind}
theorem wpS_set {σ : Type} {x : σ} {Q : PUnit → σ → Prop} {st : σ} (h : Q ⟨⟩ x) : wpS (model prog w) A E s (set x : StateT σ Sem PUnit) Q st := by
  unfold wpS; rw [StateT.run_set]; exact wpAny_pure ⟨rfl, h⟩
set_option maxHeartbeats 4000000 in
theorem wp_mergeAt {st : SortSt} {N i sa na pa nb pb : Nat} {Q : Bool → SortSt → Prop} (hO : LtG prog w A s κ kd) (hB : TB κ kd N st)
    (h1 : (pendingOf st)[i]? = some (sa, na, pa)) (h2 : (pendingOf st)[i + 1]? = some (sa + na, nb, pb)) (hna : 0 < na) (hnb : 0 < nb) (hz : sa + na + nb ≤ N)
    (ua : Up κ (arrOf st) sa (sa + na)) (ub : Up κ (arrOf st) (sa + na) (sa + na + nb))
    (h : ∀ st', TB κ kd N st' → Off (arrOf st) (arrOf st') sa (sa + (na + nb)) → Up κ (arrOf st') sa (sa + (na + nb)) → pendingOf st' = ((pendingOf st).setIfInBounds i (sa, na + nb, pa)).eraseIdxIfInBounds (i + 1) → Q true st') :
    wpS (model prog w) A E s (mergeAt' i) Q st := by
  have hsz := hB.size
  rw [mergeAt'_eq]
  refine wpS_bind (wpS_get ?_)
  rw [h1, h2]
  dsimp only
  refine wpS_bind (wpS_set ?_)
  generalize hp : ((pendingOf st).setIfInBounds i (sa, na + nb, pa)).eraseIdxIfInBounds (i + 1) = pend at h
  have same : ∀ st', SG (setPending st pend) st' → TB κ kd N st' ∧ arrOf st' = arrOf st ∧ pendingOf st' = pend := fun st' g => by
    have ga : arrOf st' = arrOf st := g.arr
    refine ⟨⟨g.kind.trans hB.kind, by rw [ga]; exact hB.keys, g.failed.trans hB.failed, by rw [ga]; exact hB.size⟩, ga, g.pend⟩
  obtain ⟨B0, _, _⟩ := same _ (SG.refl _)
  have hbz : sa + na < (arrOf st).size := by (first | lia | omega)
  refine wpS_bind (elem_G hbz ?_)
  refine wpS_bind (wp_gallop hO B0.kind (hB.keys _ (by simp)) hB.keys (by (first | lia | omega)) hna ua fun k k1 k2 k3 => ?_)
  dsimp only
  have kk : kAt κ (arrOf st) (sa + na) = ky κ (arrOf st)[sa + na] := kAt_get hbz
  have k2' : ∀ i, i < k → κ.kle (kAt κ (arrOf st) (sa + i)) (kAt κ (arrOf st) (sa + na)) := fun i hi => by
    have := k2 i hi
    unfold bey at this
    simp only [Bool.false_eq_true, if_false, Bool.not_eq_true'] at this
    rw [kk]
    exact this
  have k3' : ∀ i, k ≤ i → i < na → κ.klt (kAt κ (arrOf st) (sa + na)) (kAt κ (arrOf st) (sa + i)) := fun i hi hj => by
    have := k3 i hi hj
    unfold bey at this
    simp only [Bool.false_eq_true, if_false, Bool.not_eq_false'] at this
    rw [kk]
    exact this
  by_cases e1 : na - k = 0
  · rw [if_pos (by simpa using e1)]
    obtain ⟨b1, b2, b3⟩ := same _ (SG.refl _)
    refine wpS_pure (h _ b1 (by rw [b2]; exact Off.refl _ _ _) ?_ b3)
    rw [b2]
    refine up_join ua ub hna ?_
    have := k2' (na - 1) (by (first | lia | omega))
    rwa [show sa + (na - 1) = sa + na - 1 by (first | lia | omega)] at this
  rw [if_neg (by simpa using e1)]
  have e2 : sa + k + (na - k) - 1 = sa + na - 1 := by (first | lia | omega)
  have hlz : sa + k + (na - k) - 1 < (arrOf st).size := by (first | lia | omega)
  refine wpS_bind (elem_G hlz ?_)
  refine wpS_bind (wp_gallop hO B0.kind (hB.keys _ (by simp)) hB.keys (by (first | lia | omega)) (by (first | lia | omega)) ub fun c c1 c2 c3 => ?_)
  dsimp only
  have ck : ky κ ((arrOf st)[sa + k + (na - k) - 1]'hlz) = kAt κ (arrOf st) (sa + na - 1) := by
    rw [← kAt_get hlz, e2]
  have c2' : ∀ i, i < c → κ.klt (kAt κ (arrOf st) (sa + na + i)) (kAt κ (arrOf st) (sa + na - 1)) := fun i hi => by
    have := c2 i hi
    unfold bey at this
    simp only [if_true] at this
    rw [← ck]
    exact this
  have c3' : ∀ i, c ≤ i → i < nb → κ.kle (kAt κ (arrOf st) (sa + na - 1)) (kAt κ (arrOf st) (sa + na + i)) := fun i hi hj => by
    have := c3 i hi hj
    unfold bey at this
    simp only [if_true] at this
    rw [← ck]
    exact this
  by_cases e3 : c = 0
  · rw [if_pos (by simpa using e3)]
    obtain ⟨b1, b2, b3⟩ := same _ (SG.refl _)
    refine wpS_pure (h _ b1 (by rw [b2]; exact Off.refl _ _ _) ?_ b3)
    rw [b2]
    exact up_join ua ub hna (c3' 0 (by (first | lia | omega)) hnb)
  rw [if_neg (by simpa using e3)]
  generalize hX : (arrOf st).extract (sa + k) (sa + na) = X
  generalize hY : (arrOf st).extract (sa + na) (sa + na + c) = Y
  have xl : X.toList = seg (arrOf st) (sa + k) (na - k) := by
    have := seg_ext (xs := arrOf st) (lo := sa + k) (n := na - k)
    rw [← hX]
    rwa [show sa + k + (na - k) = sa + na by (first | lia | omega)] at this
  have yl : Y.toList = seg (arrOf st) (sa + na) c := by rw [← hY]; exact seg_ext
  have xz : X.size = na - k := by
    have := congrArg List.length xl
    rwa [Array.length_toList, seg_length (by (first | lia | omega))] at this
  have yz : Y.size = c := by
    have := congrArg List.length yl
    rwa [Array.length_toList, seg_length (by (first | lia | omega))] at this
  have xg : ∀ i (hi : i < X.size), X[i] = (arrOf st)[sa + k + i]'(by (first | lia | omega)) := fun i hi => by
    have e : X[i]? = (arrOf st)[sa + k + i]? := by
      rw [← Array.getElem?_toList, xl]
      exact seg_get (by (first | lia | omega)) (by (first | lia | omega))
    rw [Array.getElem?_eq_getElem hi, Array.getElem?_eq_getElem (by (first | lia | omega))] at e
    exact Option.some.inj e
  have yg : ∀ i (hi : i < Y.size), Y[i] = (arrOf st)[sa + na + i]'(by (first | lia | omega)) := fun i hi => by
    have e : Y[i]? = (arrOf st)[sa + na + i]? := by
      rw [← Array.getElem?_toList, yl]
      exact seg_get (by (first | lia | omega)) (by (first | lia | omega))
    rw [Array.getElem?_eq_getElem hi, Array.getElem?_eq_getElem (by (first | lia | omega))] at e
    exact Option.some.inj e
  have xm : ∀ q ∈ X.toList, ∃ i, k ≤ i ∧ i < na ∧ ky κ q = kAt κ (arrOf st) (sa + i) ∧ q ∈ (arrOf st).toList := fun q hq => by
    rw [xl] at hq
    obtain ⟨j, j1, j2, e⟩ := seg_mem (by (first | lia | omega)) hq
    refine ⟨j - sa, by (first | lia | omega), by (first | lia | omega), ?_, ?_⟩
    · rw [show sa + (j - sa) = j by (first | lia | omega), kAt_some e]
    · rw [← Array.getElem?_toList] at e
      exact List.mem_of_getElem? e
  have ym : ∀ q ∈ Y.toList, ∃ i, i < c ∧ ky κ q = kAt κ (arrOf st) (sa + na + i) ∧ q ∈ (arrOf st).toList := fun q hq => by
    rw [yl] at hq
    obtain ⟨j, j1, j2, e⟩ := seg_mem (by (first | lia | omega)) hq
    refine ⟨j - (sa + na), by (first | lia | omega), ?_, ?_⟩
    · rw [show sa + na + (j - (sa + na)) = j by (first | lia | omega), kAt_some e]
    · rw [← Array.getElem?_toList] at e
      exact List.mem_of_getElem? e
  have kX : ∀ q ∈ X.toList, Keyd κ q := fun q hq => by obtain ⟨_, _, _, _, z⟩ := xm q hq; exact hB.keys q z
  have kY : ∀ q ∈ Y.toList, Keyd κ q := fun q hq => by obtain ⟨_, _, _, z⟩ := ym q hq; exact hB.keys q z
  have sX : SL κ X.toList := by
    rw [xl]
    exact seg_up (by (first | lia | omega)) (fun i j q1 q2 q3 => ua i j (by (first | lia | omega)) q2 (by (first | lia | omega)))
  have sY : SL κ Y.toList := by
    rw [yl]
    exact seg_up (by (first | lia | omega)) (fun i j q1 q2 q3 => ub i j q1 q2 (by (first | lia | omega)))
  have y0 : ∀ (hb : 0 < Y.size), ky κ Y[0] = kAt κ (arrOf st) (sa + na) := fun hb => by
    rw [yg 0 hb, ← kAt_get]
    rfl
  have lo0 : ∀ (hb : 0 < Y.size), ∀ q ∈ X.toList, le κ Y[0] q := fun hb q hq => by
    obtain ⟨i, i1, i2, e, _⟩ := xm q hq
    unfold le
    rw [y0 hb, e]
    exact KeyOrd.kle_of_klt (k3' i i1 i2)
  have xlast : ∀ (ha : X.size - 1 < X.size), ky κ X[X.size - 1] = kAt κ (arrOf st) (sa + na - 1) := fun ha => by
    rw [xg _ ha, ← kAt_get]
    congr 1
    (first | lia | omega)
  have hi0 : ∀ (ha : X.size - 1 < X.size), ∀ q ∈ Y.toList, le κ q X[X.size - 1] := fun ha q hq => by
    obtain ⟨i, i1, e, _⟩ := ym q hq
    unfold le
    rw [xlast ha, e]
    exact KeyOrd.kle_of_klt (c2' i i1)
  have fin : ∀ m st', Merged κ X Y m → SG (setPending st pend) st' → wpS (model prog w) A E s (do
      modify fun s => setArr s (m.toList.zipIdx.foldl (fun a (q : Keyed × Nat) => a.setIfInBounds (sa + k + q.2) q.1) (arrOf s))
      return (failedOf (← get)).isNone) Q st' := fun m st' hm g => by
    obtain ⟨b1, b2, b3⟩ := same _ g
    refine wpS_bind (wpS_modify ?_)
    refine wpS_bind (wpS_get ?_)
    have hf : failedOf (setArr st' (m.toList.zipIdx.foldl (fun a (q : Keyed × Nat) => a.setIfInBounds (sa + k + q.2) q.1) (arrOf st'))) = none := b1.failed
    rw [hf]
    rw [← hX, ← hY] at hm
    obtain ⟨o1, o2⟩ := merge_fits (by (first | lia | omega)) ua ub (by (first | lia | omega)) c1 (by (first | lia | omega)) k2' c3' hm
    refine wpS_pure (h _ ?_ ?_ ?_ b3)
    · refine b1.off (lo := sa) (hi := sa + (na + nb)) ?_
      rw [b2]
      exact o1
    · show Off (arrOf st) (back (arrOf st') (sa + k) m) _ _
      rw [b2]
      exact o1
    · show Up κ (back (arrOf st') (sa + k) m) _ _
      rw [b2]
      exact o2
  by_cases e4 : na - k ≤ c
  · rw [if_pos e4]
    refine wpS_bind ?_
    refine wp_mergeLo hO B0.kind kX kY sX sY (by (first | lia | omega)) (by (first | lia | omega)) (lo0 _) ?_ fun m st' hm g => fin m st' hm g
    intro q hq i hi x hx
    have : x = X[X.size - 1]'(by (first | lia | omega)) := by
      rw [show i = X.size - 1 by (first | lia | omega), drop_cons (by (first | lia | omega)), List.drop_eq_nil_of_le (by rw [Array.length_toList]; (first | lia | omega))] at hx
      exact List.mem_singleton.mp hx
    rw [this]
    exact hi0 _ q hq
  · rw [if_neg e4]
    refine wpS_bind ?_
    exact wp_mergeHi hO B0.kind kX kY sX sY (by (first | lia | omega)) (by (first | lia | omega)) (lo0 _) (hi0 (by (first | lia | omega))) fun m st' hm g => fin m st' hm g
end
end Tim
namespace Tim
open PySem PyProof.Rows
set_option autoImplicit false
section
variable {κ : KeyKind} {xs ys : Array Keyed}
def Runs (κ : KeyKind) (xs : Array Keyed) : List (Nat × Nat × Nat) → Nat → Nat → Prop
  | [], a, b => a = b
  | (s, n, _) :: r, a, b => s = a ∧ 0 < n ∧ Up κ xs a (a + n) ∧ Runs κ xs r (a + n) b
theorem Runs.le : ∀ {l : List (Nat × Nat × Nat)} {a b : Nat}, Runs κ xs l a b → a + l.length ≤ b
  | [], _, _, h => by rw [show _ = _ from h]; simp
  | (s, n, p) :: r, a, b, ⟨_, h1, _, h2⟩ => by
    have := Runs.le h2
    rw [List.length_cons]
    (first | lia | omega)
theorem Runs.split : ∀ {l m : List (Nat × Nat × Nat)} {a b : Nat}, Runs κ xs (l ++ m) a b → ∃ c, Runs κ xs l a c ∧ Runs κ xs m c b
  | [], m, a, b, h => ⟨a, rfl, h⟩
  | (s, n, p) :: r, m, a, b, ⟨h0, h1, h2, h3⟩ => by
    obtain ⟨c, c1, c2⟩ := Runs.split (l := r) h3
    exact ⟨c, ⟨h0, h1, h2, c1⟩, c2⟩
theorem Runs.glue : ∀ {l m : List (Nat × Nat × Nat)} {a b c : Nat}, Runs κ xs l a c → Runs κ xs m c b → Runs κ xs (l ++ m) a b
  | [], m, a, b, c, h, g => by rw [show a = c from h]; exact g
  | (s, n, p) :: r, m, a, b, c, ⟨h0, h1, h2, h3⟩, g => ⟨h0, h1, h2, Runs.glue h3 g⟩
theorem Up.off {lo hi a b : Nat} (h : Up κ xs a b) (o : Off xs ys lo hi) (d : b ≤ lo ∨ hi ≤ a) : Up κ ys a b := fun i j h1 h2 h3 => by
  rw [kAt_off o (by (first | lia | omega)), kAt_off o (by (first | lia | omega))]
  exact h i j h1 h2 h3
theorem Runs.off {lo hi : Nat} (o : Off xs ys lo hi) : ∀ {l : List (Nat × Nat × Nat)} {a b : Nat}, Runs κ xs l a b → (b ≤ lo ∨ hi ≤ a) → Runs κ ys l a b
  | [], _, _, h, _ => h
  | (s, n, p) :: r, a, b, ⟨h0, h1, h2, h3⟩, d => by
    have := Runs.le h3
    exact ⟨h0, h1, h2.off o (by (first | lia | omega)), Runs.off o h3 (by (first | lia | omega))⟩
theorem set_erase {α : Type} {x y v : α} {post : List α} : ∀ pre : List α, ((pre ++ x :: y :: post).set pre.length v).eraseIdx (pre.length + 1) = pre ++ v :: post
  | [] => rfl
  | p :: pre => by
    rw [List.cons_append, List.length_cons, List.set_cons_succ, List.eraseIdx_cons_succ, set_erase pre, List.cons_append]
end
section
variable {prog : Program} {w : World} {A : Around} {E : Value → Shared → Prop} {s : Shared} {κ : KeyKind} {kd : SortKind}
structure SI (κ : KeyKind) (kd : SortKind) (a₀ : Array Keyed) (lo : Nat) (st : SortSt) : Prop where
  tb : TB κ kd a₀.size st
  perm : (arrOf st).Perm a₀
  le : lo ≤ a₀.size
  runs : Runs κ (arrOf st) (pendingOf st).toList 0 lo
theorem wp_mergeRuns {a₀ : Array Keyed} {st : SortSt} {lo i : Nat} {Q : Bool → SortSt → Prop} (hO : LtG prog w A s κ kd) (hI : SI κ kd a₀ lo st) (hi : i + 1 < (pendingOf st).size)
    (h : ∀ st', SI κ kd a₀ lo st' → Off (arrOf st) (arrOf st') 0 lo → (pendingOf st').size + 1 = (pendingOf st).size → Q true st') : wpS (model prog w) A E s (mergeAt' i) Q st := by
  have hl : (pendingOf st).toList.length = (pendingOf st).size := Array.length_toList
  obtain ⟨pre, x, y, post, e, hp⟩ : ∃ pre x y post, (pendingOf st).toList = pre ++ x :: y :: post ∧ pre.length = i := by
    refine ⟨(pendingOf st).toList.take i, (pendingOf st).toList[i]'(by (first | lia | omega)), (pendingOf st).toList[i + 1]'(by (first | lia | omega)), (pendingOf st).toList.drop (i + 2), ?_, ?_⟩
    · rw [← List.drop_eq_getElem_cons, ← List.drop_eq_getElem_cons, List.take_append_drop]
    · rw [List.length_take]
      (first | lia | omega)
  obtain ⟨sa, na, pa⟩ := x
  obtain ⟨sb, nb, pb⟩ := y
  have hr := hI.runs
  rw [e] at hr
  obtain ⟨c, r1, h0, h1, ua, h2, h3, ub, r2⟩ := hr.split
  subst h0 h2
  have l1 := r2.le
  have l0 := hI.le
  have g1 : (pendingOf st)[i]? = some (sa, na, pa) := by
    rw [← Array.getElem?_toList, e, ← hp]
    simp
  have g2 : (pendingOf st)[i + 1]? = some (sa + na, nb, pb) := by
    rw [← Array.getElem?_toList, e, ← hp, List.getElem?_append_right (by (first | lia | omega)), show pre.length + 1 - pre.length = 1 by (first | lia | omega)]
    rfl
  refine wp_mergeAt hO hI.tb g1 g2 h1 h3 (by (first | lia | omega)) ua ub fun st' b1 b2 b3 b4 => ?_
  have e' : (pendingOf st').toList = pre ++ (sa, na + nb, pa) :: post := by
    rw [b4, Array.toList_eraseIdxIfInBounds, Array.toList_setIfInBounds, e, ← hp]
    exact set_erase pre
  refine h st' ⟨b1, b2.perm.trans hI.perm, hI.le, ?_⟩ (b2.wide (Nat.zero_le _) (by (first | lia | omega))) ?_
  · rw [e']
    refine (r1.off b2 (.inl (Nat.le_refl _))).glue ⟨rfl, by (first | lia | omega), b3, ?_⟩
    have := r2.off b2 (.inr (by (first | lia | omega)))
    rwa [show sa + na + nb = sa + (na + nb) by (first | lia | omega)] at this
  · have z1 := congrArg List.length e
    have z2 := congrArg List.length e'
    rw [Array.length_toList, List.length_append, List.length_cons] at z1 z2
    rw [List.length_cons] at z1
    (first | lia | omega)
end
end Tim
namespace Tim
open PySem PyProof.Rows
set_option autoImplicit false
section
variable {prog : Program} {w : World} {A : Around} {E : Value → Shared → Prop} {s : Shared} {κ : KeyKind} {kd : SortKind}
theorem Runs.modify {xs : Array Keyed} {p : Nat} : ∀ {l : List (Nat × Nat × Nat)} {a b : Nat} (i : Nat), Runs κ xs l a b → Runs κ xs (l.modify i fun x => (x.fst, x.2.fst, p)) a b
  | [], _, _, i, h => by
    cases i <;> exact h
  | (s, n, q) :: r, a, b, 0, h => h
  | (s, n, q) :: r, a, b, i + 1, ⟨h0, h1, h2, h3⟩ => ⟨h0, h1, h2, Runs.modify i h3⟩
theorem SI.setp {a₀ : Array Keyed} {lo hi : Nat} {st : SortSt} {p : Array (Nat × Nat × Nat)} (hI : SI κ kd a₀ lo st) (hz : hi ≤ a₀.size) (hr : Runs κ (arrOf st) p.toList 0 hi) : SI κ kd a₀ hi (setPending st p) :=
  ⟨⟨hI.tb.kind, hI.tb.keys, hI.tb.failed, hI.tb.size⟩, hI.perm, hz, hr⟩
theorem SI.pushed {a₀ : Array Keyed} {st : SortSt} {lo n : Nat} (hI : SI κ kd a₀ lo st) (hn : 0 < n) (hz : lo + n ≤ a₀.size) (hU : Up κ (arrOf st) lo (lo + n)) : SI κ kd a₀ (lo + n) (setPending st ((pendingOf st).push (lo, n, 0))) := by
  refine hI.setp hz ?_
  rw [Array.toList_push]
  exact hI.runs.glue ⟨rfl, hn, hU, rfl⟩
theorem SI.marked {a₀ : Array Keyed} {st : SortSt} {lo p : Nat} (hI : SI κ kd a₀ lo st) : SI κ kd a₀ lo (setPending st ((pendingOf st).modify ((pendingOf st).size - 1) fun x => (x.fst, x.2.fst, p))) := by
  refine hI.setp hI.le ?_
  rw [Array.toList_modify]
  exact hI.runs.modify _
theorem two_less {c : Prop} [Decidable c] {n : Nat} (h : 2 ≤ n) : (if c then n - 2 - 1 else n - 2) + 1 < n := by
  split <;> (first | lia | omega)
theorem wp_sortRuns {a₀ : Array Keyed} {st : SortSt} {Q : Unit → SortSt → Prop} (hO : LtG prog w A s κ kd) (hI : SI κ kd a₀ 0 st) (h2 : 2 ≤ a₀.size)
    (h : ∀ st', (arrOf st').Perm a₀ → failedOf st' = none → Up κ (arrOf st') 0 a₀.size → Q () st') : wpS (model prog w) A E s sortRuns' Q st := by
  rw [sortRuns'_eq]
  refine wpS_bind (wpS_get ?_)
  dsimp only
  simp only [hI.tb.size]
  generalize minRun' a₀.size a₀.size 0 = mr
  refine wpS_bind (wpS_mono (wpS_forRange (I := fun x c st' => ∃ lo, c = (none, lo) ∧ x ≤ lo ∧ SI κ kd a₀ lo st') (Q := fun c st' => c = (none, a₀.size) ∧ SI κ kd a₀ a₀.size st') ?step ?fin ⟨0, rfl, Nat.le_refl _, hI⟩) ?post)
  case fin =>
    rintro c st' ⟨lo, rfl, hx, hI'⟩
    have e : lo = a₀.size := by
      have := hI'.le
      (first | lia | omega)
    subst e
    exact ⟨rfl, hI'⟩
  case step =>
    rintro x c st' _ hx ⟨lo, rfl, hxl, hI'⟩
    have hle := hI'.le
    dsimp only
    by_cases hlo : lo ≥ a₀.size
    · rw [if_pos hlo]
      have e : lo = a₀.size := by (first | lia | omega)
      subst e
      exact wpS_pure ⟨rfl, hI'⟩
    · rw [if_neg hlo]
      refine wpS_bind (wp_countRun hO hI'.tb (by (first | lia | omega)) (by (first | lia | omega)) fun r st2 hr => ?_)
      obtain ⟨n, ys, rfl, n1, n2, rfl, ho, hU⟩ := hr
      have hI2 : SI κ kd a₀ lo (setArr st' ys) := ⟨hI'.tb.off ho, ho.perm.trans hI'.perm, hle, hI'.runs.off ho (.inl (Nat.le_refl _))⟩
      dsimp only
      by_cases hmr : n < mr
      · rw [if_pos hmr]
        refine wpS_bind (wpS_rule (wpS_bind (wp_binarySort hO hI2.tb (by (first | lia | omega)) (by (first | lia | omega)) hU fun zs oz uz => ?_)))
        simp only [Bool.not_true, Bool.false_eq_true, if_false]
        have hI3 : SI κ kd a₀ lo (setArr st' zs) := ⟨hI2.tb.off oz, oz.perm.trans hI2.perm, hle, hI2.runs.off oz (.inl (Nat.le_refl _))⟩
        refine wpS_bind (wpS_get ?_)
        cases hb : (pendingOf (setArr st' zs)).back? with
        | none =>
          dsimp only
          exact wpS_bind (wpS_modify (wpS_pure ⟨_, rfl, by (first | lia | omega), hI3.pushed (by (first | lia | omega)) (by (first | lia | omega)) uz⟩))
        | some x1 =>
          obtain ⟨s1, n1', p1⟩ := x1
          dsimp only
          refine wpS_bind (wpS_mono (wpS_forRange (I := fun _ c st5 => c = (none, ()) ∧ SI κ kd a₀ lo st5 ∧ Up κ (arrOf st5) lo (lo + (min (a₀.size - lo) mr))) (Q := fun c st5 => c = (none, ()) ∧ SI κ kd a₀ lo st5 ∧ Up κ (arrOf st5) lo (lo + (min (a₀.size - lo) mr))) ?_ (fun _ _ z => z) ⟨rfl, hI3, uz⟩) ?_)
          · rintro i c st5 _ _ ⟨rfl, hI5, hU5⟩
            refine wpS_bind (wpS_get ?_)
            by_cases h1 : (pendingOf st5).size > 1
            · rw [if_pos h1, Array.getElem?_eq_getElem (by (first | lia | omega))]
              obtain ⟨q1, q2, q3⟩ := (pendingOf st5)[(pendingOf st5).size - 2]'(by (first | lia | omega))
              dsimp only
              split
              · exact wpS_pure ⟨rfl, hI5, hU5⟩
              · refine wpS_bind (wp_mergeRuns hO hI5 (by (first | lia | omega)) fun st6 h3 h4 _ => ?_)
                simp only [Bool.not_true, Bool.false_eq_true, if_false]
                exact wpS_pure ⟨rfl, h3, hU5.off h4 (.inr (Nat.le_refl _))⟩
            · rw [if_neg h1]
              exact wpS_pure ⟨rfl, hI5, hU5⟩
          · rintro c st5 ⟨rfl, hI5, hU5⟩
            dsimp only
            exact wpS_bind (wpS_modify (wpS_bind (wpS_modify (wpS_pure ⟨_, rfl, by (first | lia | omega), SI.pushed (SI.marked hI5) (by (first | lia | omega)) (by (first | lia | omega)) hU5⟩))))
      · rw [if_neg hmr]
        refine wpS_bind (wpS_get ?_)
        cases hb : (pendingOf (setArr st' ys)).back? with
        | none =>
          dsimp only
          exact wpS_bind (wpS_modify (wpS_pure ⟨_, rfl, by (first | lia | omega), hI2.pushed (by (first | lia | omega)) (by (first | lia | omega)) hU⟩))
        | some x1 =>
          obtain ⟨s1, n1', p1⟩ := x1
          dsimp only
          refine wpS_bind (wpS_mono (wpS_forRange (I := fun _ c st5 => c = (none, ()) ∧ SI κ kd a₀ lo st5 ∧ Up κ (arrOf st5) lo (lo + n)) (Q := fun c st5 => c = (none, ()) ∧ SI κ kd a₀ lo st5 ∧ Up κ (arrOf st5) lo (lo + n)) ?_ (fun _ _ z => z) ⟨rfl, hI2, hU⟩) ?_)
          · rintro i c st5 _ _ ⟨rfl, hI5, hU5⟩
            refine wpS_bind (wpS_get ?_)
            by_cases h1 : (pendingOf st5).size > 1
            · rw [if_pos h1, Array.getElem?_eq_getElem (by (first | lia | omega))]
              obtain ⟨q1, q2, q3⟩ := (pendingOf st5)[(pendingOf st5).size - 2]'(by (first | lia | omega))
              dsimp only
              split
              · exact wpS_pure ⟨rfl, hI5, hU5⟩
              · refine wpS_bind (wp_mergeRuns hO hI5 (by (first | lia | omega)) fun st6 h3 h4 _ => ?_)
                simp only [Bool.not_true, Bool.false_eq_true, if_false]
                exact wpS_pure ⟨rfl, h3, hU5.off h4 (.inr (Nat.le_refl _))⟩
            · rw [if_neg h1]
              exact wpS_pure ⟨rfl, hI5, hU5⟩
          · rintro c st5 ⟨rfl, hI5, hU5⟩
            dsimp only
            exact wpS_bind (wpS_modify (wpS_bind (wpS_modify (wpS_pure ⟨_, rfl, by (first | lia | omega), SI.pushed (SI.marked hI5) (by (first | lia | omega)) (by (first | lia | omega)) hU5⟩))))
  case post =>
    rintro c st' ⟨rfl, hI'⟩
    dsimp only
    refine wpS_bind (wpS_mono (wpS_forRange (I := fun x c st'' => c = (none, ()) ∧ SI κ kd a₀ a₀.size st'' ∧ (pendingOf st'').size + x ≤ a₀.size + 1) (Q := fun c st'' => c = (none, ()) ∧ SI κ kd a₀ a₀.size st'' ∧ (pendingOf st'').size ≤ 1) ?_ ?_ ⟨rfl, hI', ?_⟩) ?_)
    · rintro x c st'' _ hx ⟨rfl, hJ, hz⟩
      refine wpS_bind (wpS_get ?_)
      by_cases h1 : (pendingOf st'').size ≤ 1
      · rw [if_pos h1]
        exact wpS_pure ⟨rfl, hJ, h1⟩
      · rw [if_neg h1]
        refine wpS_bind (wp_mergeRuns hO hJ ?_ fun st3 h3 _ h4 => ?_)
        · exact two_less (by (first | lia | omega))
        · simp only [Bool.not_true, Bool.false_eq_true, if_false]
          exact wpS_pure ⟨rfl, h3, by (first | lia | omega)⟩
    · rintro c st'' ⟨rfl, hJ, hz⟩
      exact ⟨rfl, hJ, by (first | lia | omega)⟩
    · have := hI'.runs.le
      rw [Array.length_toList] at this
      (first | lia | omega)
    · rintro c st'' ⟨rfl, hJ, hz⟩
      dsimp only
      refine wpS_pure (h _ hJ.perm hJ.tb.failed ?_)
      have hr := hJ.runs
      rw [← Array.length_toList] at hz
      match e : (pendingOf st'').toList, hz, hr with
      | [], _, hr =>
        have : 0 = a₀.size := hr
        (first | lia | omega)
      | [(s1, n1, p1)], _, hr =>
        obtain ⟨_, _, u, z⟩ := hr
        have z : 0 + n1 = a₀.size := z
        rw [z] at u
        exact u
end
end Tim
namespace Tim
open PySem PyProof.Rows
set_option autoImplicit false
section
variable {prog : Program} {w : World} {A : Around} {E : Value → Shared → Prop} {s : Shared} {κ : KeyKind} {kd : SortKind}
def KeptBut (a : Addr) (h h' : Heap) : Prop := ∀ b o, b ≠ a → h.get? b = some o → h'.get? b = some o
def keyV (κ : KeyKind) (v : Value) : κ.α := (κ.keyOf v).getD κ.dflt
theorem zip_own : ∀ vs : List Value, vs.zip vs = vs.map fun v => (v, v)
  | [] => rfl
  | v :: vs => by rw [List.zip_cons_cons, zip_own vs, List.map_cons]
theorem pair_mem {vs : List Value} {p : Keyed} (h : p ∈ (pairsOf vs).toList) : p.1 = p.2 ∧ p.1 ∈ vs := by
  have e : (pairsOf vs).toList = vs.zip vs := by
    unfold pairsOf
    simp
  rw [e] at h
  rw [zip_own] at h
  obtain ⟨v, hv, rfl⟩ := List.mem_map.mp h
  exact ⟨rfl, hv⟩
theorem pairs_snd (vs : List Value) : (pairsOf vs).toList.map (·.2) = vs := by
  have e : (pairsOf vs).toList = vs.zip vs := by
    unfold pairsOf
    simp
  rw [e, zip_own, List.map_map]
  have z : ((fun x : Keyed => x.2) ∘ fun v : Value => (v, v)) = id := rfl
  first
    | rw [z, List.map_id]
    | exact List.map_id vs
theorem out_of {vs : List Value} {xs : Array Keyed} (hp : xs.Perm (pairsOf vs)) (hU : Up κ xs 0 (pairsOf vs).size) :
    (xs.toList.map (·.2)).Perm vs ∧ (xs.toList.map (·.2)).Pairwise (fun x y => κ.kle (keyV κ x) (keyV κ y)) := by
  have hpl := Array.perm_iff_toList_perm.mp hp
  refine ⟨?_, ?_⟩
  · have := hpl.map (·.2)
    rwa [pairs_snd] at this
  · have hs : SL κ xs.toList := list_up (by rw [hp.size_eq]; exact hU)
    refine List.pairwise_map.mpr (hs.imp_of_mem fun {a b} ha hb hab => ?_)
    have ea := (pair_mem (hpl.mem_iff.mp ha)).1
    have eb := (pair_mem (hpl.mem_iff.mp hb)).1
    unfold le ky at hab
    unfold keyV
    rw [← ea, ← eb]
    exact hab
theorem sort_G {a : Addr} {vs : List Value} {n : Nat} {P : Fin → Shared → Prop} (ho : s.heap.get? a = some (seqObj "list" vs.toArray n)) (hz : vs.length ≤ sizeLine) (keys : ∀ v ∈ vs, ∃ k, κ.keyOf v = some k)
    (hlt : ∀ h', KeptBut a s.heap h' → LtG prog w A { s with heap := h' } κ kd)
    (hkd : ∀ (h' : Heap) (E : Value → Shared → Prop) (Q : SortKind → Shared → Prop), KeptBut a s.heap h' → 2 ≤ vs.length → Q kd { s with heap := h' } → wpAny (model prog w) A (keyKind' vs.toArray) Q E { s with heap := h' })
    (h : ∀ out : List Value, out.Perm vs → out.Pairwise (fun x y => κ.kle (keyV κ x) (keyV κ y)) → P (.done (.ret .none)) { s with heap := sortedHeap s.heap a vs out.toArray }) :
    wpAny (model prog w) A (Builtin.«list.sort» ⟨[.ref a], []⟩) P E s := by
  rw [list_sort_plain]
  have hlt0 : a < s.heap.objs.size := Heap.lt_size ho
  refine wpAny_bind (listItems_at ho rfl ?_)
  refine wpAny_bind (listUpdate_at ho rfl ?_ (by simpa using hz) (Nat.zero_le _))
  obtain ⟨m, ho1⟩ : ∃ m, (s.heap.update a (Obj.mapSeq fun _ => #[])).get? a = some (seqObj "list" #[] m) := ⟨_, get?_update_seq ho (fun _ => #[])⟩
  refine wpAny_bind (seqEpoch_at ho1 rfl ?_)
  refine wpAny_bind (wpAny_newTuple ?_ (by simpa using hz))
  refine wpAny_bind (wpAny_newList ?_)
  refine wpAny_holding ?_
  have z1 : (s.heap.update a (Obj.mapSeq fun _ => #[])).objs.size = s.heap.objs.size := by rw [Heap.size_update]
  have hk : KeptBut a s.heap (((s.heap.update a (Obj.mapSeq fun _ => #[])).push (seqObj "tuple" vs.toArray 0)).push (seqObj "list" #[] 0)) := fun b o hb e =>
    Heap.get?_push_of_some _ (Heap.get?_push_of_some _ ((Heap.get?_update_other _ _ (Ne.symm hb)).trans e))
  have ho6 : (((s.heap.update a (Obj.mapSeq fun _ => #[])).push (seqObj "tuple" vs.toArray 0)).push (seqObj "list" #[] 0)).get? a = some (seqObj "list" #[] m) := Heap.get?_push_of_some _ (Heap.get?_push_of_some _ ho1)
  show wpAny (model prog w) A _ P E { s with heap := ((s.heap.update a (Obj.mapSeq fun _ => #[])).push (seqObj "tuple" vs.toArray 0)).push (seqObj "list" #[] 0) }
  dsimp only
  have fin : ∀ st' : SortSt, (arrOf st').Perm (pairsOf vs) → failedOf st' = none → Up κ (arrOf st') 0 (pairsOf vs).size → wpAny (model prog w) A (do
      let touched := (← seqEpoch a) != m
      Builtin.List.listUpdate (.ref a) fun _ => (arrOf st').map (·.2)
      if let some e := failedOf st' then rule "list.sort.comparison-raised"; throw e
      if touched then rule "list.sort.modified"; raiseError "ValueError" "list modified during sort"
      ret .none) P E { s with heap := ((s.heap.update a (Obj.mapSeq fun _ => #[])).push (seqObj "tuple" vs.toArray 0)).push (seqObj "list" #[] 0) } := fun st' hp hf hU => by
    refine wpAny_bind (seqEpoch_at ho6 rfl ?_)
    refine wpAny_bind (listUpdate_at ho6 rfl ?_ (Nat.zero_le _) (by
      refine Nat.le_trans (Nat.le_of_eq ((Array.size_map ..).trans (hp.size_eq.trans (pairsOf_size _)))) ?_
      (first | lia | omega)))
    rw [hf]
    simp only [bne_self_eq_false, Bool.false_eq_true, if_false]
    obtain ⟨o1, o2⟩ := out_of hp hU
    have := h _ o1 o2
    have e : ((arrOf st').toList.map (·.2)).toArray = (arrOf st').map (·.2) := by rw [← Array.toList_map, Array.toArray_toList]
    rw [e] at this
    exact wpAny_pure this
  by_cases h2 : vs.toArray.size < 2
  · rw [if_pos h2, if_pos h2]
    refine wpAny_bind (wpAny_pure ?_)
    rw [StateT.run_pure]
    refine wpAny_bind (wpAny_pure ?_)
    refine fin (SortSt.mk' general' (vs.toArray.zip vs.toArray) #[] 7 none) (Array.Perm.refl _) rfl ?_
    intro i j q1 q2 q3
    have : i = j := by
      rw [pairsOf_size] at q3
      simp at h2
      (first | lia | omega)
    subst this
    exact KeyOrd.kle_refl _
  · rw [if_neg h2, if_neg h2]
    have h2' : 2 ≤ vs.length := by
      simp at h2
      (first | lia | omega)
    refine wpAny_bind (hkd _ _ _ hk h2' ?_)
    refine wpAny_bind (wpAny_mono (wp_sortRuns (κ := κ) (hlt _ hk) (a₀ := pairsOf vs) (st := SortSt.mk' kd (vs.toArray.zip vs.toArray) #[] 7 none)
      (Q := fun _ st' => (arrOf st').Perm (pairsOf vs) ∧ failedOf st' = none ∧ Up κ (arrOf st') 0 (pairsOf vs).size)
      ⟨⟨rfl, fun p hp => keys _ (pair_mem hp).2, rfl, rfl⟩, Array.Perm.refl _, Nat.zero_le _, rfl⟩ (by rw [pairsOf_size]; (first | lia | omega)) fun st' a1 a2 a3 => ⟨a1, a2, a3⟩) ?_ fun _ _ e => e)
    rintro ⟨⟨⟩, st'⟩ s' ⟨rfl, hp, hf, hs⟩
    exact fin st' hp hf hs
theorem kept_sorted {h : Heap} {a : Addr} {vs out : List Value} {n : Nat} (ho : h.get? a = some (seqObj "list" vs.toArray n)) : KeptBut a h (sortedHeap h a vs out.toArray) ∧ ∃ c, (sortedHeap h a vs out.toArray).get? a = some (seqObj "list" out.toArray c) := by
  unfold sortedHeap
  refine ⟨fun b o hb e => (Heap.get?_update_other _ _ (Ne.symm hb)).trans (Heap.get?_push_of_some _ (Heap.get?_push_of_some _ ((Heap.get?_update_other _ _ (Ne.symm hb)).trans e))), ?_⟩
  exact ⟨_, get?_update_seq (Heap.get?_push_of_some _ (Heap.get?_push_of_some _ (get?_update_seq ho (fun _ => #[])))) fun _ => out.toArray⟩
theorem sorted_G {l : Addr} {vs : List Value} {Q : Value → Shared → Prop} (hl : s.heap.IsList l vs.toArray) (hz : vs.length ≤ sizeLine) (keys : ∀ v ∈ vs, ∃ k, κ.keyOf v = some k)
    (hlt : ∀ h', (∀ b o, s.heap.get? b = some o → h'.get? b = some o) → LtG prog w A.in1.in1 { s with heap := h' } κ kd)
    (hkd : ∀ (h' : Heap) (E : Value → Shared → Prop) (Q : SortKind → Shared → Prop), (∀ b o, s.heap.get? b = some o → h'.get? b = some o) → 2 ≤ vs.length → Q kd { s with heap := h' } → wpAny (model prog w) A.in1.in1 (keyKind' vs.toArray) Q E { s with heap := h' })
    (h : ∀ (out : List Value) (h' : Heap) (c : Nat), out.Perm vs → out.Pairwise (fun x y => κ.kle (keyV κ x) (keyV κ y)) → (∀ b o, s.heap.get? b = some o → h'.get? b = some o) →
      h'.get? (s.heap.objs.size + 1) = some (seqObj "list" out.toArray c) → Q (.ref (s.heap.objs.size + 1)) { s with heap := h' }) :
    wpAny (model prog w) A (call (.builtin "sorted") [.ref l]) Q E s := by
  refine Calls.call_function_entry kind_sorted plain_sorted entry_sorted (args_sorted1 _) ?_
  unfold Builtin.«sorted»
  refine wpAny_bind (m := checkCount "sorted" 1 1 _) (wpAny_pure ?_)
  refine wpAny_bind (collect_list hl ?_ hz)
  refine wpAny_bind (wpAny_newList ?_ (by simpa using hz))
  have z1 : ((s.heap.push (seqObj "list" #[] 0)).update s.heap.objs.size (Obj.mapSeq (· ++ vs.toArray))).objs.size = s.heap.objs.size + 1 := by
    rw [Heap.size_update, size_push']
  have hn : (((s.heap.push (seqObj "list" #[] 0)).update s.heap.objs.size (Obj.mapSeq (· ++ vs.toArray))).push (seqObj "list" vs.toArray 0)).get? (s.heap.objs.size + 1) = some (seqObj "list" vs.toArray 0) := by
    rw [← z1]
    exact Heap.get?_push_size _ rfl
  have hk : ∀ b o, s.heap.get? b = some o → (((s.heap.push (seqObj "list" #[] 0)).update s.heap.objs.size (Obj.mapSeq (· ++ vs.toArray))).push (seqObj "list" vs.toArray 0)).get? b = some o := fun b o e =>
    Heap.get?_push_of_some _ ((Heap.get?_update_other _ _ (Nat.ne_of_gt (Heap.lt_size e))).trans (Heap.get?_push_of_some _ e))
  show wpAny _ _ _ _ _ { s with heap := ((s.heap.push (seqObj "list" #[] 0)).update s.heap.objs.size (Obj.mapSeq (· ++ vs.toArray))).push (seqObj "list" vs.toArray 0) }
  rw [z1]
  generalize ((s.heap.push (seqObj "list" #[] 0)).update s.heap.objs.size (Obj.mapSeq (· ++ vs.toArray))).push (seqObj "list" vs.toArray 0) = h1 at hn hk ⊢
  have up : ∀ h', KeptBut (s.heap.objs.size + 1) h1 h' → ∀ b o, s.heap.get? b = some o → h'.get? b = some o := fun h' kb b o e => kb b o (fun z => by
    have := Heap.lt_size e
    rw [z] at this
    exact absurd this (Nat.not_lt.mpr (Nat.le_succ _))) (hk b o e)
  refine wpAny_bind (wpAny_holding (wpAny_call_entry slot_list_sort ⟨_, hn, rfl⟩ entry_list_sort (sort_G (s := { s with heap := h1 }) hn hz keys (fun h' kb => hlt h' (up h' kb)) (fun h' E Q kb h2 q => hkd h' E Q (up h' kb) h2 q) fun out p1 p2 => ⟨_, rfl, ?_⟩) (args_list_sort _)))
  obtain ⟨kb, c, hc⟩ := kept_sorted (out := out) hn
  exact wpAny_pure ⟨_, rfl, h out _ c p1 p2 (up _ kb) hc⟩
end
end Tim
namespace Tim
open PySem PySem.Spec PyProof.Rows PySem.W
set_option autoImplicit false
set_option maxRecDepth 100000
def RawD (d : Addr) (es : Array DictEntry) (ep : Nat) (h : Heap) : Prop := ∃ o, h.get? d = some o ∧ o.ExactDict ∧ o.data = .dict es ep
section
variable {prog : Program} {w : World} {A : Around} {E : Value → Shared → Prop} {s : Shared} {d it : Addr} {es : Array DictEntry} {ep : Nat}
theorem RawD.ty (x : RawD d es ep s.heap) : s.TypeIs (.ref d) "dict" := by
  obtain ⟨o, e, c, _⟩ := x
  exact ⟨o, e, c.1⟩
theorem RawD.keep {h h' : Heap} (x : RawD d es ep h) (k : ∀ o, h.get? d = some o → h'.get? d = some o) : RawD d es ep h' := by
  obtain ⟨o, e, r⟩ := x
  exact ⟨o, k o e, r⟩
end
end Tim
namespace Tim
open PySem PySem.Spec PyProof.Rows PySem.W
section
variable {prog : Program} {w : World} {A : Around} {E : Value → Shared → Prop} {s : Shared} {d : Addr} {es : Array DictEntry} {ep : Nat}
end
end Tim
namespace L2
open PySem PySem.Spec PyProof.Rows
structure DF (K : PySem.W.Frag) (mg : Str → Option Value) (x : Str) (st : Stmt) (ps : List Str) : Prop where
  ex : ∃ f fd, Fun K x x st f fd ∧ Binds K fd ps [] ∧ mg x = some (.ref f)
structure FC (P : Program) (w : World) (K : PySem.W.Frag) (mg : Str → Option Value) (base : Heap) (k : Nat) (x : Str) (ps : List Str) (sp : Sp) : Prop where
  ex : ∃ f fd, FnOk P w K mg base CX0 k f fd ps sp ∧ Binds K fd ps [] ∧ PySem.W.keepIn K (.ref f) = true ∧ mg x = some (.ref f) ∧ ∃ oc od osl, K.lookup f = some ⟨oc, od, .func fd, osl⟩
theorem FC.at {P : Program} {w : World} {K : PySem.W.Frag} {mg : Str → Option Value} {base : Heap} {k : Nat} {x : Str} {ps : List Str} {sp : Sp} {f : Addr} {fd : FuncData} {oc : Value} {od : Option Addr} {osl : Array (Option Value)} (F : FC P w K mg base k x ps sp) (m : mg x = some (.ref f)) (l : K.lookup f = some ⟨oc, od, .func fd, osl⟩) : FnOk P w K mg base CX0 k f fd ps sp := by
  obtain ⟨f', fd', ok, _, _, m', oc', od', osl', l'⟩ := F.ex
  rw [m] at m'
  cases m'
  rw [l] at l'
  cases l'
  exact ok
theorem DF.ok {P : Program} {w : World} {K : PySem.W.Frag} {mg : Str → Option Value} {base : Heap} {x : Str} {st : Stmt} {N ps : List Str} {k : Nat} {sp : Sp} (D : DF K mg x st ps) (S : FnScope N ps (defScope st)) (len : ∀ vs H Q E, sp vs H Q E → vs.length = ps.length)
    (hbody : ∀ (f : Addr) (cdv : Value) (A : Around) (outer : List Env) (s : Shared) (H : Hp) (vs : List V) (Q : VK) (E : XK), Room k (A.deeper (envOfC x (defScope st) s.heap.objs.size f cdv)) → sp vs H Q E →
      ∃ t, PSs (cxOf CX0 P w K mg base N x (defScope st) f cdv A outer s H E).nox (defBody st) t ∧ t { nx := fun _ H' => Q .non H', rt := Q } (start N vs) H) : FC P w K mg base (k + 1) x ps sp := by
  obtain ⟨f, fd, F, b, m⟩ := D.ex
  exact ⟨f, fd, F.ok S len fun cdv A outer s H vs Q E hr h => hbody f cdv A outer s H vs Q E hr h, b, F.kp, m, by
    obtain ⟨oc, od, kV, doc, pm, an, cdv, ct, osl, rfl, lk, hcd⟩ := F.ex
    exact ⟨oc, od, osl, lk⟩⟩
theorem pe_fc {X : Cx} {j k : Nat} {x : Str} {ps : List Str} {sp : Sp} {e : Expr} {es : List Expr} {t : TA} {p pos : Pos} (F : FC X.prog X.w X.K X.mg X.base j x ps sp) (hr : Room k X.A) (ha : PA X (e :: es) t) (hjk : j ≤ k := by decide) (hg : Gl X x := by rfl)
    (hdb : (x == ("__debug__" : Str)) = false := by decide) (he : starEach (e :: es) X.env = (false, eval e X.env) :: starEach es X.env := by rfl) (hpl : (backTo pos (starEach es X.env)).any (·.1) = false := by rfl) : PE X (.Call (.Name x p) (e :: es) [] pos) (tCall sp [] E0 t) := by
  obtain ⟨f, fd, ok, b, kp, m, _⟩ := F.ex
  exact pe_call ok (hr.mono hjk) hg m kp b .nil pass0 ha hdb he hpl
def tSeqM (t u : TS) : TS := fun D σ H => ∃ M : St → Hp → Prop, t { D with nx := M } σ H ∧ ∀ σ' H', M σ' H' → u D σ' H'
theorem pss_join {X : Cx} {st : Stmt} {rest : List Stmt} {t u : TS} (h1 : PS X st t) (h2 : PSs X rest u) : PSs X (st :: rest) (tSeqM t u) := by
  intro pins s σ H D I h
  obtain ⟨M, h, hM⟩ := h
  refine wpAny_execs_cons (thn (h1 pins s σ H { D with nx := M } I h) fun f s1 q => ?_)
  cases f with
  | next =>
    obtain ⟨σ', H', I', q⟩ := q
    exact h2 pins s1 σ' H' D I' (hM σ' H' q)
  | ret v => exact q
  | brk => exact q
  | cont => exact q
def CDivB (i j : Int) : Prop := 0 < j ∧ j < 2 ^ 4000
section
variable {X : Cx}
def kitO (a b : String) : Option Bool := if (Value.type a == Value.type b) = true then some true else if PySem.W.kitMeta b = true then (PySem.fastBuiltinMro a).map (·.contains (.type b)) else none
theorem kitO_of {K : PySem.W.Frag} {a b : String} : PySem.W.kitOne K (.type a) (.type b) = kitO a b := rfl
def rIsi (K : PySem.W.Frag) : List V → Hp → VK → Prop := fun xs H Q => ∃ x n t b, xs = [x, .ty n] ∧ TyOf K H x (.type t) ∧ kitO t n = some b ∧ Q (.bl b) H
theorem call_isi : CallR X (.builtin "isinstance") (rIsi X.K) := by
  intro pins s σ H xs us Q I r h
  obtain ⟨x, n, t, b, e, ty, ki, q⟩ := h
  subst e
  obtain ⟨u, w', e, r1, r2⟩ := vals2 r
  subst e
  cases r2
  exact isinst_ok I r1 ty (kitO_of.trans ki) fun tk => ⟨.bl b, H, I.tok tk, rfl, q⟩
theorem kit_ii : kitO "int" "int" = some true := by decide +kernel
theorem kit_ib : kitO "int" "bool" = some false := by decide +kernel
theorem kit_bb : kitO "bool" "bool" = some true := by decide +kernel
def rBitLen : V → List V → Hp → VK → Prop := fun x xs H Q => ∃ i, x = .int i ∧ xs = [] ∧ Q (.int (Builtin.Int.intBits i : Nat)) H
end
theorem iteDF {c A B : Prop} [Decidable c] (hc : ¬ c) (h : B) : if decide c = true then A else B := by
  rw [decide_eq_false hc]
  exact iteF h
theorem iteDT {c A B : Prop} [Decidable c] (hc : c) (h : A) : if decide c = true then A else B := by
  rw [decide_eq_true hc]
  exact iteT h
def lawSt (L : Addr) (a l : Int) : HO := .dK [(.inr "script", .ref L), (.inr "at", .int a), (.inr "left", .int l)]
def Keep (d : Addr) (H H' : Hp) : Prop := ∀ b o, b ≠ d → H b = some o → H' b = some o
theorem Keep.refl (d : Addr) (H : Hp) : Keep d H H := fun _ _ _ h => h
theorem Keep.trans {d : Addr} {H H1 H2 : Hp} (a : Keep d H H1) (b : Keep d H1 H2) : Keep d H H2 := fun c o n h => b c o n (a c o n h)
theorem Same.keep {d : Addr} {H H' : Hp} (s : Same H H') : Keep d H H' := fun b o _ h => s b o h
structure LS (K : PySem.W.Frag) (L d : Addr) (H : Hp) : Prop where
  ex : ∃ (ns : List Int) (a l : Int), H d = some (lawSt L a l) ∧ SqL K H L (ns.map V.int)
theorem seq_keep {K : PySem.W.Frag} {H H' : Hp} {L d : Addr} {xs : List V} {L' : Addr} {a l : Int} (hd : H d = some (lawSt L' a l)) (k : Keep d H H') (h : SqL K H L xs) : SqL K H' L xs := by
  have ne : ∀ o, H L = some o → (∀ kvs, o ≠ .dK kvs) → L ≠ d := fun o e n z => by
    rw [z, hd] at e
    cases e
    exact n _ rfl
  rcases h with (h | ⟨o, h⟩) | h
  · exact .inl (.inl (k L _ (ne _ h (fun _ z => nomatch z)) h))
  · exact .inl (.inr ⟨o, k L _ (ne _ h (fun _ z => nomatch z)) h⟩)
  · exact .inr h
theorem LS.set {K : PySem.W.Frag} {d L : Addr} {H : Hp} {ns : List Int} {a l a' l' : Int} (hd : H d = some (lawSt L a l)) (h : SqL K H L (ns.map V.int)) : LS K L d (upd H d (lawSt L a' l')) ∧ Keep d H (upd H d (lawSt L a' l')) := by
  have k : Keep d H (upd H d (lawSt L a' l')) := fun b o n e => by rw [upd_ne n]; exact e
  exact ⟨⟨ns, a', l', upd_same, seq_keep hd k h⟩, k⟩
theorem LS.same {K : PySem.W.Frag} {L d : Addr} {H H' : Hp} (s : LS K L d H) (k : Same H H') : LS K L d H' := by
  obtain ⟨ns, a, l, e, q⟩ := s.ex
  exact ⟨ns, a, l, k _ _ e, k.seq q⟩
theorem same_new {H : Hp} {p : Addr} (h : H p = none) (o : HO) : Same H (upd H p o) := fun b u q => by rw [upd_ne (ne_of_none q h)]; exact q
theorem LS.put {K : PySem.W.Frag} {L d p : Addr} {H0 H2 : Hp} {o : HO} (s : LS K L d H0) (hp : H0 p = none) (k : ∀ b o, b ≠ d → b ≠ p → H0 b = some o → H2 b = some o) (s2 : LS K L d H2) : LS K L d (upd H2 p o) := by
  obtain ⟨ns, a, l, e, q⟩ := s.ex
  obtain ⟨ns2, a2, l2, e2, _⟩ := s2.ex
  have hdp : d ≠ p := ne_of_none e hp
  have go : ∀ u, H0 L = some u → (∀ kvs, u ≠ .dK kvs) → upd H2 p o L = some u := fun u hu hn => by
    have h1 : L ≠ p := ne_of_none hu hp
    have h2 : L ≠ d := fun z => by
      rw [z, e] at hu
      cases hu
      exact hn _ rfl
    rw [upd_ne h1]
    exact k L u h2 h1 hu
  refine ⟨ns, a2, l2, by rw [upd_ne hdp]; exact e2, ?_⟩
  rcases q with (h | ⟨ob, h⟩) | h
  · exact .inl (.inl (go _ h (fun _ z => nomatch z)))
  · exact .inl (.inr ⟨ob, go _ h (fun _ z => nomatch z)⟩)
  · exact .inr h
section
variable {H : Hp} {d L : Addr} {a l : Int}
theorem key_ne {x y : Str} (h : x ≠ y) : (Sum.inr x : Key) ≠ Sum.inr y := fun z => h (Sum.inr.inj z)
theorem get_script (h : H d = some (lawSt L a l)) : DGet H d (.str "script") (some (.ref L)) := .inl ⟨_, .inr "script", .inl h, rfl, by rw [valV_pos rfl]⟩
theorem get_at (h : H d = some (lawSt L a l)) : DGet H d (.str "at") (some (.int a)) := .inl ⟨_, .inr "at", .inl h, rfl, by rw [valV_neg (key_ne (show ("script" : Str) ≠ "at" by decide +kernel)), valV_pos rfl]⟩
theorem get_left (h : H d = some (lawSt L a l)) : DGet H d (.str "left") (some (.int l)) := .inl ⟨_, .inr "left", .inl h, rfl, by rw [valV_neg (key_ne (show ("script" : Str) ≠ "left" by decide +kernel)), valV_neg (key_ne (show ("at" : Str) ≠ "left" by decide +kernel)), valV_pos rfl]⟩
theorem put_st {k : Key} {v : V} {kvs kvs' : List (Key × V)} (h : H d = some (.dK kvs)) (hl : kvs.length < sizeLine) (e : putK kvs k v = kvs') : DPut H d (kV k) v (upd H d (.dK kvs')) := by
  subst e
  exact DPut.k h hl
theorem put_at {a' : Int} (h : H d = some (lawSt L a l)) : DPut H d (.str "at") (.int a') (upd H d (lawSt L a' l)) :=
  put_st (k := .inr "at") h (by show 3 < sizeLine; decide) (by
    unfold putK
    rw [if_pos (by simp)]
    simp only [List.map_cons, List.map_nil, if_neg (key_ne (show ("script" : Str) ≠ "at" by decide +kernel)), if_neg (key_ne (show ("left" : Str) ≠ "at" by decide +kernel)), if_true])
theorem put_left {l' : Int} (h : H d = some (lawSt L a l)) : DPut H d (.str "left") (.int l') (upd H d (lawSt L a l')) :=
  put_st (k := .inr "left") h (by show 3 < sizeLine; decide) (by
    unfold putK
    rw [if_pos (by simp)]
    simp only [List.map_cons, List.map_nil, if_neg (key_ne (show ("script" : Str) ≠ "left" by decide +kernel)), if_neg (key_ne (show ("at" : Str) ≠ "left" by decide +kernel)), if_true])
end
def spTake (K : PySem.W.Frag) : Sp := fun vs H Q _ => ∃ (d L : Addr) (m : Int), vs = [.ref d, .int m] ∧ (0 < m ∧ m < 1073741824) ∧ LS K L d H ∧ ∀ (v : Int) (H' : Hp), 0 ≤ v → v < m → Keep d H H' → LS K L d H' → Q (.int v) H'
def spMixed : Sp := fun vs H Q _ => ∃ c k : Int, vs = [.int c, .int k] ∧ ∀ v : Int, Q (.int v) H
def spBegin (K : PySem.W.Frag) : Sp := fun vs H Q _ => ∃ (L : Addr) (ns : List Int), vs = [.ref L] ∧ SqL K H L (ns.map V.int) ∧ ∀ (d : Addr) (H' : Hp), H d = none → Same H H' → LS K L d H' → Q (.ref d) H'
def spLaw (K : PySem.W.Frag) : Sp := fun vs H Q _ => ∃ (a : Addr) (ns : List Int), vs = [.ref a] ∧ SqL K H a (ns.map V.int) ∧ ns.length ≤ 63 ∧ ∀ H', Q (.bl true) H'
theorem at_mod {ns : List Int} {k : Int} (h : 0 < ns.length) : ∃ v : Int, atI (ns.map V.int) (k % (((ns.map V.int).length : Nat) : Int)) = some (.int v) := by
  have e : (ns.map V.int).length = ns.length := List.length_map _
  have h1 : (0 : Int) < (((ns.map V.int).length : Nat) : Int) := by rw [e]; (first | lia | omega)
  have z0 := Int.emod_nonneg k (Int.ne_of_gt h1)
  have z1 := Int.emod_lt_of_pos k h1
  generalize hj : k % (((ns.map V.int).length : Nat) : Int) = j at z0 z1
  rw [e] at z1
  have hk : j.toNat < ns.length := by (first | lia | omega)
  obtain ⟨n, rfl⟩ : ∃ n : Nat, j = (n : Int) := ⟨j.toNat, by (first | lia | omega)⟩
  have hn : n < ns.length := by (first | lia | omega)
  exact ⟨ns[n], atI_nat (by rw [List.getElem?_map, List.getElem?_eq_getElem hn]; rfl)⟩
end L2
namespace L2
open PySem PySem.Spec PyProof.Rows PySem.SeqAt
def Ext (H H' : Hp) : Prop := ∀ b o, H b = some o → (∀ kvs, o ≠ .dK kvs) → H' b = some o
theorem Ext.refl (H : Hp) : Ext H H := fun _ _ h _ => h
theorem Ext.trans {H H1 H2 : Hp} (a : Ext H H1) (b : Ext H1 H2) : Ext H H2 := fun c o h n => b c o (a c o h n) n
theorem Same.ext {H H' : Hp} (s : Same H H') : Ext H H' := fun b o h _ => s b o h
theorem Keep.ext {d L : Addr} {a l : Int} {H H' : Hp} (k : Keep d H H') (h : H d = some (lawSt L a l)) : Ext H H' := fun b o e n => k b o (fun z => by
  rw [z, h] at e
  cases e
  exact n _ rfl) e
theorem LS.ext {K : PySem.W.Frag} {L d : Addr} {H H' : Hp} (s : LS K L d H) (k : Keep d H H') : Ext H H' := by
  obtain ⟨ns, a, l, e, _⟩ := s.ex
  exact k.ext e
theorem LS.of_new {K : PySem.W.Frag} {L d : Addr} {H : Hp} (s : LS K L d H) {p : Addr} (hp : H p = none) (o : HO) : LS K L d (upd H p o) := s.same (same_new hp o)
theorem SqL.ext {K : PySem.W.Frag} {H H' : Hp} {a : Addr} {xs : List V} (e : Ext H H') (h : SqL K H a xs) : SqL K H' a xs := by
  rcases h with (h | ⟨o, h⟩) | h
  · exact .inl (.inl (e _ _ h (fun _ z => nomatch z)))
  · exact .inl (.inr ⟨o, e _ _ h (fun _ z => nomatch z)⟩)
  · exact .inr h
theorem SqT.ext {K : PySem.W.Frag} {H H' : Hp} {a : Addr} {xs : List V} (e : Ext H H') (h : SqT K H a xs) : SqT K H' a xs := by
  rcases h with (h | ⟨o, h⟩) | h
  · exact .inl (.inl (e _ _ h (fun _ z => nomatch z)))
  · exact .inl (.inr ⟨o, e _ _ h (fun _ z => nomatch z)⟩)
  · exact .inr h
class Rep (α : Type) where
  dec : DecidableEq α
  depth : Nat
  has : PySem.W.Frag → Hp → α → V → Prop
  mono : ∀ {K : PySem.W.Frag} {H H' : Hp} {a : α} {v : V}, Ext H H' → has K H a v → has K H' a v
  inj : ∀ {X : Cx} {pins : List (Addr × Obj)} {σ : St} {H : Hp} {s : Shared} {a b : α} {v : V}, Inv X pins σ H s → has X.K H a v → has X.K H b v → a = b
  rc : ∀ {X : Cx} {pins : List (Addr × Obj)} {σ : St} {H : Hp} {s : Shared} {A : Around} {a b : α} {x y : V} {u v : Value}, Inv X pins σ H s → A.units + depth < cLine → has X.K H a x → has X.K H b y → RelV x u → RelV y v → RcAt A s u v (dec a b).decide
  rn : ∀ {X : Cx} {pins : List (Addr × Obj)} {σ : St} {H : Hp} {s : Shared} {A : Around} {a b : α} {x y : V} {u v : Value}, Inv X pins σ H s → A.units + depth < cLine → has X.K H a x → has X.K H b y → RelV x u → RelV y v → RcNeAt A s u v (!(dec a b).decide)
  eq : ∀ {X : Cx} {pins : List (Addr × Obj)} {σ : St} {H : Hp} {s : Shared} {A : Around} {a b : α} {x y : V} {u v : Value}, Inv X pins σ H s → A.units + depth < cLine → has X.K H a x → has X.K H b y → RelV x u → RelV y v → EqAt A s u v (dec a b).decide
instance (priority := low) repDec {α : Type} [Rep α] : DecidableEq α := Rep.dec
theorem beq_dec {i j : Int} : (i == j) = (Int.instDecidableEq i j).decide := by
  by_cases h : i = j
  · subst h; simp
  · rw [beq_eq_false_iff_ne.mpr h]; exact (decide_eq_false h).symm
instance : Rep Int where
  dec := Int.instDecidableEq
  depth := 0
  has := fun _ _ i v => v = .int i
  mono := fun _ h => h
  inj := fun _ h1 h2 => V.int.inj (h1.symm.trans h2)
  rc := fun _ _ h1 h2 r1 r2 => by
    subst h1 h2
    obtain ⟨t, rfl⟩ := r1
    obtain ⟨t', rfl⟩ := r2
    rw [← beq_dec]
    exact RcAt.int_int _ _ _ _
  rn := fun _ _ h1 h2 r1 r2 => by
    subst h1 h2
    obtain ⟨t, rfl⟩ := r1
    obtain ⟨t', rfl⟩ := r2
    rw [← beq_dec]
    exact RcNeAt.int_int _ _ _ _
  eq := fun _ _ h1 h2 r1 r2 => by
    subst h1 h2
    obtain ⟨t, rfl⟩ := r1
    obtain ⟨t', rfl⟩ := r2
    rw [← beq_dec]
    exact EqAt.int_int _ _ _ _
instance : Rep Bool where
  dec := instDecidableEqBool
  depth := 0
  has := fun _ _ i v => v = .bl i
  mono := fun _ h => h
  inj := fun _ h1 h2 => V.bl.inj (h1.symm.trans h2)
  rc := fun {_ _ _ _ _ _ a b _ _ _ _} _ _ h1 h2 r1 r2 => by
    subst h1 h2
    cases r1
    cases r2
    have e : (a == b) = (instDecidableEqBool a b).decide := by cases a <;> cases b <;> rfl
    rw [← e]
    exact RcAt.bool_bool _ _
  rn := fun {_ _ _ _ _ _ a b _ _ _ _} _ _ h1 h2 r1 r2 => by
    subst h1 h2
    cases r1
    cases r2
    have e : (a == b) = (instDecidableEqBool a b).decide := by cases a <;> cases b <;> rfl
    rw [← e]
    exact RcNeAt.bool_bool _ _
  eq := fun {_ _ _ _ _ _ a b _ _ _ _} _ _ h1 h2 r1 r2 => by
    subst h1 h2
    cases r1
    cases r2
    have e : (a == b) = (instDecidableEqBool a b).decide := by cases a <;> cases b <;> rfl
    rw [← e]
    exact EqAt.bool_bool _ _
def HasAll {α : Type} [Rep α] (K : PySem.W.Frag) (H : Hp) : List α → List V → Prop := Paired (Rep.has K H)
section
variable {α : Type} [Rep α] {K : PySem.W.Frag} {H H' : Hp}
theorem HasAll.mono (e : Ext H H') : ∀ {as : List α} {xs : List V}, HasAll K H as xs → HasAll K H' as xs
  | _, _, .nil => .nil
  | _, _, .cons h t => .cons (Rep.mono e h) (HasAll.mono e t)
theorem HasAll.length {as : List α} {xs : List V} (h : HasAll K H as xs) : as.length = xs.length := Paired.length h
theorem HasAll.get : ∀ {as : List α} {xs : List V} {i : Nat} {x : V}, HasAll K H as xs → xs[i]? = some x → ∃ a, as[i]? = some a ∧ Rep.has K H a x
  | _, _, _, _, .nil, e => by simp at e
  | _, _, 0, _, .cons h _, e => by simp at e; subst e; exact ⟨_, rfl, h⟩
  | _, _, i + 1, x, .cons _ t, e => by
    obtain ⟨a, h1, h2⟩ := HasAll.get (i := i) (x := x) t (by simpa using e)
    exact ⟨a, by simpa using h1, h2⟩
theorem HasAll.append : ∀ {as bs : List α} {xs ys : List V}, HasAll K H as xs → HasAll K H bs ys → HasAll K H (as ++ bs) (xs ++ ys)
  | _, _, _, _, .nil, s => s
  | _, _, _, _, .cons r t, s => .cons r (HasAll.append t s)
theorem HasAll.take : ∀ {as : List α} {xs : List V} (n : Nat), HasAll K H as xs → HasAll K H (as.take n) (xs.take n)
  | _, _, 0, _ => .nil
  | _, _, _ + 1, .nil => .nil
  | _, _, n + 1, .cons r t => .cons r (HasAll.take n t)
theorem HasAll.drop : ∀ {as : List α} {xs : List V} (n : Nat), HasAll K H as xs → HasAll K H (as.drop n) (xs.drop n)
  | _, _, 0, r => r
  | _, _, _ + 1, .nil => .nil
  | _, _, n + 1, .cons _ t => HasAll.drop n t
theorem HasAll.one {a : α} {x : V} (h : Rep.has K H a x) : HasAll K H [a] [x] := .cons h .nil
theorem HasAll.ints : ∀ {ns : List Int}, HasAll K H ns (ns.map V.int)
  | [] => .nil
  | _ :: _ => .cons rfl HasAll.ints
theorem HasAll.toInts : ∀ {ns : List Int} {xs : List V}, HasAll K H ns xs → xs = ns.map V.int
  | [], _, .nil => rfl
  | n :: ns, _, .cons h t => by
    have e : _ = V.int n := h
    rw [e, HasAll.toInts t]
    rfl
theorem HasAll.inj {X : Cx} {pins : List (Addr × Obj)} {σ : St} {s : Shared} (I : Inv X pins σ H s) : ∀ {as bs : List α} {xs : List V}, HasAll X.K H as xs → HasAll X.K H bs xs → as = bs
  | _, _, _, .nil, .nil => rfl
  | _, _, _, .cons h t, .cons h' t' => by rw [Rep.inj I h h', HasAll.inj I t t']
end
theorem all_decide {α : Type} [DecidableEq α] : ∀ (as bs : List α), as.length = bs.length → ((List.range as.length).all fun j => decide (as[j]? = bs[j]?)) = decide (as = bs) := by
  intro as bs hl
  by_cases h : as = bs
  · subst h
    simp
  · rw [decide_eq_false h, List.all_eq_false]
    false_or_by_contra
    rename_i z
    apply h
    apply List.ext_getElem?
    intro i
    by_cases hi : i < as.length
    · false_or_by_contra
      rename_i q
      exact z ⟨i, List.mem_range.mpr hi, by simpa using q⟩
    · rw [List.getElem?_eq_none (by (first | lia | omega)), List.getElem?_eq_none (by (first | lia | omega))]
section
variable {α : Type} [r : Rep α]
theorem in1_units {A : Around} : A.in1.units ≤ A.units + 1 := by
  first
    | exact Nat.le_refl _
    | (unfold Around.in1; simp)
theorem items_eq {X : Cx} {pins : List (Addr × Obj)} {σ : St} {H : Hp} {s : Shared} {A : Around} {as bs : List α} {xs ys : List V} {us vs : List Value} (I : Inv X pins σ H s) (hu : A.units + Rep.depth α < cLine)
    (h1 : HasAll X.K H as xs) (h2 : HasAll X.K H bs ys) (r1 : Vals xs us) (r2 : Vals ys vs) : ∀ j (q1 : j < us.toArray.size) (q2 : j < vs.toArray.size), EqAt A s us.toArray[j] vs.toArray[j] (decide (as[j]? = bs[j]?)) := by
  intro j q1 q2
  have l1 := r1.length
  have l2 := r2.length
  have m1 := h1.length
  have m2 := h2.length
  have j1 : j < us.length := by simpa using q1
  have j2 : j < vs.length := by simpa using q2
  obtain ⟨a, ea, ha⟩ := h1.get (i := j) (List.getElem?_eq_getElem (by (first | lia | omega)))
  obtain ⟨b, eb, hb⟩ := h2.get (i := j) (List.getElem?_eq_getElem (by (first | lia | omega)))
  obtain ⟨u, eu, ru⟩ := r1.get (i := j) (List.getElem?_eq_getElem (by (first | lia | omega)))
  obtain ⟨v, ev, rv⟩ := r2.get (i := j) (List.getElem?_eq_getElem (by (first | lia | omega)))
  have gu : us.toArray[j] = u := by
    have : us[j]? = some us[j] := List.getElem?_eq_getElem j1
    rw [eu] at this
    simpa using (Option.some.inj this).symm
  have gv : vs.toArray[j] = v := by
    have : vs[j]? = some vs[j] := List.getElem?_eq_getElem j2
    rw [ev] at this
    simpa using (Option.some.inj this).symm
  rw [gu, gv, ea, eb]
  have e : decide (some a = some b) = (Rep.dec a b).decide := by
    by_cases z : a = b
    · subst z; simp
    · rw [decide_eq_false (fun q => z (Option.some.inj q))]; exact (decide_eq_false z).symm
  rw [e]
  exact Rep.eq I hu ha hb ru rv
end
def hasL {α : Type} [Rep α] (K : PySem.W.Frag) (H : Hp) (as : List α) (v : V) : Prop := ∃ a xs, v = .ref a ∧ SqL K H a xs ∧ HasAll K H as xs
section
variable {α : Type} [r : Rep α] {X : Cx} {pins : List (Addr × Obj)} {σ : St} {H : Hp} {s : Shared} {A : Around} {as bs : List α} {x y : V} {u v : Value}
theorem hasL_inj (I : Inv X pins σ H s) (h1 : hasL X.K H as x) (h2 : hasL X.K H bs x) : as = bs := by
  obtain ⟨a, xs, rfl, q1, h1⟩ := h1
  obtain ⟨b, ys, e, q2, h2⟩ := h2
  cases e
  rw [I.list_inj q2 q1] at h2
  exact h1.inj I h2
theorem hasL_rc (I : Inv X pins σ H s) (hu : A.units + (Rep.depth α + 1) < cLine) (h1 : hasL X.K H as x) (h2 : hasL X.K H bs y) (r1 : RelV x u) (r2 : RelV y v) : RcAt A s u v (decide (as = bs)) := by
  obtain ⟨a, xs, rfl, q1, h1⟩ := h1
  obtain ⟨b, ys, rfl, q2, h2⟩ := h2
  cases r1
  cases r2
  obtain ⟨us, ru, pu, _⟩ := I.list q1
  obtain ⟨vs, rv, pv, _⟩ := I.list q2
  have l1 := ru.length
  have l2 := rv.length
  have m1 := h1.length
  have m2 := h2.length
  have hin : A.in1.units + Rep.depth α < cLine := Nat.lt_of_le_of_lt (Nat.add_le_add_right in1_units _) (by (first | lia | omega))
  by_cases hl : as.length = bs.length
  · have e := all_decide as bs hl
    rw [← e]
    have z : as.length = us.toArray.size := by simp; (first | lia | omega)
    rw [z]
    exact RcAt.lists pu.isList pv.isList (by simp; (first | lia | omega)) (by (first | lia | omega)) (items_eq I hin h1 h2 ru rv)
  · rw [decide_eq_false (fun z => hl (by rw [z]))]
    exact RcAt.lists_lengths pu.isList pv.isList (by simp; (first | lia | omega)) (by (first | lia | omega))
theorem hasL_rn (I : Inv X pins σ H s) (hu : A.units + (Rep.depth α + 1) < cLine) (h1 : hasL X.K H as x) (h2 : hasL X.K H bs y) (r1 : RelV x u) (r2 : RelV y v) : RcNeAt A s u v (!decide (as = bs)) := by
  obtain ⟨a, xs, rfl, q1, h1⟩ := h1
  obtain ⟨b, ys, rfl, q2, h2⟩ := h2
  cases r1
  cases r2
  obtain ⟨us, ru, pu, _⟩ := I.list q1
  obtain ⟨vs, rv, pv, _⟩ := I.list q2
  have l1 := ru.length
  have l2 := rv.length
  have m1 := h1.length
  have m2 := h2.length
  have hin : A.in1.units + Rep.depth α < cLine := Nat.lt_of_le_of_lt (Nat.add_le_add_right in1_units _) (by (first | lia | omega))
  by_cases hl : as.length = bs.length
  · have e := all_decide as bs hl
    rw [← e]
    have z : as.length = us.toArray.size := by simp; (first | lia | omega)
    rw [z]
    exact RcNeAt.lists pu.isList pv.isList (by simp; (first | lia | omega)) (by (first | lia | omega)) (items_eq I hin h1 h2 ru rv)
  · rw [decide_eq_false (fun z => hl (by rw [z])), Bool.not_false]
    exact RcNeAt.lists_lengths pu.isList pv.isList (by simp; (first | lia | omega)) (by (first | lia | omega))
theorem hasL_eq (I : Inv X pins σ H s) (hu : A.units + (Rep.depth α + 1) < cLine) (h1 : hasL X.K H as x) (h2 : hasL X.K H bs y) (r1 : RelV x u) (r2 : RelV y v) : EqAt A s u v (decide (as = bs)) := by
  have rc := hasL_rc (A := A) I hu h1 h2 r1 r2
  obtain ⟨a, xs, rfl, q1, h1⟩ := h1
  obtain ⟨b, ys, rfl, q2, h2⟩ := h2
  cases r1
  cases r2
  by_cases hab : a = b
  · subst hab
    rw [I.list_inj q2 q1] at h2
    rw [decide_eq_true (h1.inj I h2)]
    exact EqAt.same _
  · exact EqAt.of_refs hab rc
end
instance {α : Type} [Rep α] : Rep (List α) where
  dec := inferInstance
  depth := Rep.depth α + 1
  has := hasL
  mono := fun e ⟨a, xs, h1, h2, h3⟩ => ⟨a, xs, h1, h2.ext e, h3.mono e⟩
  inj := fun I h1 h2 => hasL_inj I h1 h2
  rc := fun I hu h1 h2 r1 r2 => hasL_rc I hu h1 h2 r1 r2
  rn := fun I hu h1 h2 r1 r2 => hasL_rn I hu h1 h2 r1 r2
  eq := fun I hu h1 h2 r1 r2 => hasL_eq I hu h1 h2 r1 r2
def hasP {α β : Type} [Rep α] [Rep β] (K : PySem.W.Frag) (H : Hp) (p : α × β) (v : V) : Prop := ∃ a x y, v = .ref a ∧ H a = some (.tup [x, y]) ∧ Rep.has K H p.1 x ∧ Rep.has K H p.2 y
section
variable {α β : Type} [ra : Rep α] [rb : Rep β] {X : Cx} {pins : List (Addr × Obj)} {σ : St} {H : Hp} {s : Shared} {A : Around} {p q : α × β} {x y : V} {u v : Value}
theorem hasP_inj (I : Inv X pins σ H s) (h1 : hasP X.K H p x) (h2 : hasP X.K H q x) : p = q := by
  obtain ⟨a, x1, x2, rfl, q1, e1, e2⟩ := h1
  obtain ⟨b, y1, y2, e, q2, f1, f2⟩ := h2
  cases e
  have z := I.tuple_inj (SqT.of q2) (SqT.of q1)
  cases z
  have g1 := Rep.inj I e1 f1
  have g2 := Rep.inj I e2 f2
  obtain ⟨p1, p2⟩ := p
  obtain ⟨s1, s2⟩ := q
  cases g1
  cases g2
  rfl
theorem hasP_rc (I : Inv X pins σ H s) (hu : A.units + (Rep.depth α + Rep.depth β + 1) < cLine) (h1 : hasP X.K H p x) (h2 : hasP X.K H q y) (r1 : RelV x u) (r2 : RelV y v) : RcAt A s u v (decide (p = q)) := by
  obtain ⟨a, x1, x2, rfl, q1, e1, e2⟩ := h1
  obtain ⟨b, y1, y2, rfl, q2, f1, f2⟩ := h2
  cases r1
  cases r2
  obtain ⟨us, ru, pu, _⟩ := I.tuple (SqT.of q1)
  obtain ⟨vs, rv, pv, _⟩ := I.tuple (SqT.of q2)
  obtain ⟨u1, u2, rfl, ru1, ru2⟩ := vals2 ru
  obtain ⟨v1, v2, rfl, rv1, rv2⟩ := vals2 rv
  have hin : ∀ n, n ≤ Rep.depth α + Rep.depth β → A.in1.units + n < cLine := fun n hn => Nat.lt_of_le_of_lt (Nat.add_le_add_right in1_units _) (by (first | lia | omega))
  have c1 := Rep.eq (A := A.in1) I (hin _ (by (first | lia | omega))) e1 f1 ru1 rv1
  have c2 := Rep.eq (A := A.in1) I (hin _ (by (first | lia | omega))) e2 f2 ru2 rv2
  have := RcAt.tuples (A := A) (s := s) (l := a) (b := b) (items := #[u1, u2]) (items2 := #[v1, v2]) (e := fun j => if j = 0 then (Rep.dec p.1 q.1).decide else (Rep.dec p.2 q.2).decide) pu pv (by (first | lia | omega)) (by
    intro j h1 h2
    have h1' : j < 2 := h1
    have z : j = 0 ∨ j = 1 := by (first | lia | omega)
    rcases z with rfl | rfl
    · exact c1
    · exact c2)
  have e : ((List.range (min (#[u1, u2] : Array Value).size (#[v1, v2] : Array Value).size)).all (fun j => if j = 0 then (Rep.dec p.1 q.1).decide else (Rep.dec p.2 q.2).decide) && (#[u1, u2] : Array Value).size == (#[v1, v2] : Array Value).size) = decide (p = q) := by
    obtain ⟨p1, p2⟩ := p
    obtain ⟨s1, s2⟩ := q
    show (((List.range 2).all fun j => if j = 0 then (Rep.dec p1 s1).decide else (Rep.dec p2 s2).decide) && true) = _
    rw [show List.range 2 = [0, 1] from rfl]
    simp only [List.all_cons, List.all_nil, Bool.and_true, if_true]
    rw [if_neg (by decide)]
    by_cases z1 : p1 = s1
    · by_cases z2 : p2 = s2
      · subst z1 z2; simp
      · subst z1; simp [z2]
    · simp [z1]
  rw [e] at this
  exact this
theorem hasP_rn (I : Inv X pins σ H s) (hu : A.units + (Rep.depth α + Rep.depth β + 1) < cLine) (h1 : hasP X.K H p x) (h2 : hasP X.K H q y) (r1 : RelV x u) (r2 : RelV y v) : RcNeAt A s u v (!decide (p = q)) := by
  obtain ⟨a, x1, x2, rfl, q1, e1, e2⟩ := h1
  obtain ⟨b, y1, y2, rfl, q2, f1, f2⟩ := h2
  cases r1
  cases r2
  obtain ⟨us, ru, pu, _⟩ := I.tuple (SqT.of q1)
  obtain ⟨vs, rv, pv, _⟩ := I.tuple (SqT.of q2)
  obtain ⟨u1, u2, rfl, ru1, ru2⟩ := vals2 ru
  obtain ⟨v1, v2, rfl, rv1, rv2⟩ := vals2 rv
  have hin : ∀ n, n ≤ Rep.depth α + Rep.depth β → A.in1.units + n < cLine := fun n hn => Nat.lt_of_le_of_lt (Nat.add_le_add_right in1_units _) (by (first | lia | omega))
  have c1 := Rep.eq (A := A.in1) I (hin _ (by (first | lia | omega))) e1 f1 ru1 rv1
  have c2 := Rep.eq (A := A.in1) I (hin _ (by (first | lia | omega))) e2 f2 ru2 rv2
  have := RcNeAt.tuples (A := A) (s := s) (l := a) (b := b) (items := #[u1, u2]) (items2 := #[v1, v2]) (e := fun j => if j = 0 then (Rep.dec p.1 q.1).decide else (Rep.dec p.2 q.2).decide) pu pv (by (first | lia | omega)) (by
    intro j h1 h2
    have h1' : j < 2 := h1
    have z : j = 0 ∨ j = 1 := by (first | lia | omega)
    rcases z with rfl | rfl
    · exact c1
    · exact c2)
  have e : ((List.range (min (#[u1, u2] : Array Value).size (#[v1, v2] : Array Value).size)).all (fun j => if j = 0 then (Rep.dec p.1 q.1).decide else (Rep.dec p.2 q.2).decide) && (#[u1, u2] : Array Value).size == (#[v1, v2] : Array Value).size) = decide (p = q) := by
    obtain ⟨p1, p2⟩ := p
    obtain ⟨s1, s2⟩ := q
    show (((List.range 2).all fun j => if j = 0 then (Rep.dec p1 s1).decide else (Rep.dec p2 s2).decide) && true) = _
    rw [show List.range 2 = [0, 1] from rfl]
    simp only [List.all_cons, List.all_nil, Bool.and_true, if_true]
    rw [if_neg (by decide)]
    by_cases z1 : p1 = s1
    · by_cases z2 : p2 = s2
      · subst z1 z2; simp
      · subst z1; simp [z2]
    · simp [z1]
  rw [e] at this
  exact this
theorem hasP_eq (I : Inv X pins σ H s) (hu : A.units + (Rep.depth α + Rep.depth β + 1) < cLine) (h1 : hasP X.K H p x) (h2 : hasP X.K H q y) (r1 : RelV x u) (r2 : RelV y v) : EqAt A s u v (decide (p = q)) := by
  have rc := hasP_rc (A := A) I hu h1 h2 r1 r2
  have h1' := id h1
  have h2' := id h2
  obtain ⟨a, x1, x2, rfl, q1, e1, e2⟩ := h1
  obtain ⟨b, y1, y2, rfl, q2, f1, f2⟩ := h2
  cases r1
  cases r2
  by_cases hab : a = b
  · subst hab
    rw [decide_eq_true (hasP_inj I h1' h2')]
    exact EqAt.same _
  · exact EqAt.of_refs hab rc
end
instance {α β : Type} [Rep α] [Rep β] : Rep (α × β) where
  dec := inferInstance
  depth := Rep.depth α + Rep.depth β + 1
  has := hasP
  mono := fun e ⟨a, x, y, h1, h2, h3, h4⟩ => ⟨a, x, y, h1, e _ _ h2 (fun _ z => nomatch z), Rep.mono e h3, Rep.mono e h4⟩
  inj := fun I h1 h2 => hasP_inj I h1 h2
  rc := fun I hu h1 h2 r1 r2 => hasP_rc I hu h1 h2 r1 r2
  rn := fun I hu h1 h2 r1 r2 => hasP_rn I hu h1 h2 r1 r2
  eq := fun I hu h1 h2 r1 r2 => hasP_eq I hu h1 h2 r1 r2
theorem huD {A : Around} {k : Nat} {α : Type} [Rep α] (hr : Room k A) (h : Rep.depth α ≤ 64 := by decide) : A.units + Rep.depth α < cLine := Nat.lt_of_le_of_lt (Nat.add_le_add_left h _) hr.units
def rEqD (α : Type) [Rep α] (K : PySem.W.Frag) : R2 := fun x y H Q => ∃ a b : α, Rep.has K H a x ∧ Rep.has K H b y ∧ Q (.bl (decide (a = b))) H
def rNeD (α : Type) [Rep α] (K : PySem.W.Frag) : R2 := fun x y H Q => ∃ a b : α, Rep.has K H a x ∧ Rep.has K H b y ∧ Q (.bl (!decide (a = b))) H
section
variable {X : Cx}
theorem op_eqD (α : Type) [Rep α] (hu : X.A.units + Rep.depth α < cLine) : OpR X (compareOp .Eq) (rEqD α X.K) := by
  intro pins s σ H x y v u Q I rx ry h
  obtain ⟨a, b, ha, hb, q⟩ := h
  refine Rep.rc I hu ha hb rx ry X.prog X.w X.xe _ ⟨.bl _, H, I, rfl, ?_⟩
  have e : (Rep.dec a b).decide = decide (a = b) := rfl
  rw [e]
  exact q
theorem op_neD (α : Type) [Rep α] (hu : X.A.units + Rep.depth α < cLine) : OpR X (compareOp .NotEq) (rNeD α X.K) := by
  intro pins s σ H x y v u Q I rx ry h
  obtain ⟨a, b, ha, hb, q⟩ := h
  refine Rep.rn I hu ha hb rx ry X.prog X.w X.xe _ ⟨.bl _, H, I, rfl, ?_⟩
  have e : (Rep.dec a b).decide = decide (a = b) := rfl
  rw [e]
  exact q
end
end L2
namespace L2
open PySem PySem.Spec PyProof.Rows
section
variable {X : Cx} {pins : List (Addr × Obj)} {σ : St} {H : Hp} {s : Shared} {h' : Heap}
theorem Inv.turnedNew {t' : Nat} {fp : List Addr} {p : Addr} {o : HO} (I : Inv X pins σ H s) (k : ∀ b ob, b ∉ fp → s.heap.get? b = some ob → h'.get? b = some ob) (hf : ∀ b ∈ fp, FpOk X pins H b)
    (hp : s.heap.objs.size ≤ p) (new : ObjOk X.prog X.w (upd H p o) h' p o) : Inv X pins σ (upd H p o) { s with heap := h', toks := t' } := by
  have hn : H p = none := I.hok.fresh hp
  have nfp : ∀ b u, H b = some u → b ∉ fp := fun b u e z => by rw [(hf b z).1] at e; cases e
  have nep : ∀ b ob, s.heap.get? b = some ob → b ≠ p := fun b ob e => Nat.ne_of_lt (Nat.lt_of_lt_of_le (Heap.lt_size e) hp)
  refine I.step (g' := s.gens) (d' := s.drawn) (ch := fp) (fun b hb => ?_) (fun b ob _ _ hc e _ => k b ob hc e) (fun b ob _ _ hc e _ => ⟨ob.slots, k b ob hc e⟩) (fun b ob _ e n => by rw [upd_ne (nep b ob e)]; exact n)
    (fun b ob hc e => ⟨ob, k b ob hc e⟩) (fun b xs e => by rw [upd_ne (ne_of_none e hn)]; exact e) (fun b ob u e => by rw [upd_ne (ne_of_none e hn)]; exact e) (fun b ps e => ⟨#[], by rw [upd_ne (ne_of_none e hn), e]; simp⟩) (fun m hm => ?_) (fun b u e => ?_) I.bare
  · obtain ⟨_, h2, _, h4, h5, h6⟩ := hf b hb
    exact ⟨h4, h2, h5, h6⟩
  · obtain ⟨ob, es, ep, ho, r⟩ := hm
    exact ⟨ob, es, ep, k _ ob (fun z => (hf _ z).2.1 rfl) ho, r⟩
  · by_cases hb : b = p
    · subst hb; rw [upd_same] at e; cases e; exact new
    · rw [upd_ne hb] at e
      refine (I.hok b u e).stay (fun c v hc q => k c v ?_ q) (fun c q => by rw [upd_ne (ne_of_none q hn)]; exact q) fun c xs q => by rw [upd_ne (ne_of_none q hn)]; exact q
      rcases hc with z | z
      · rw [z]; exact nfp b u e
      · exact nfp c _ z
theorem tup2_ok {P : Program} {w : World} {H : Hp} {h : Heap} {p : Addr} {x y : V} {u v : Value} (rx : RelV x u) (ry : RelV y v) (e : h.get? p = some { cls := .type "tuple", data := .seq #[u, v] }) : ObjOk P w H h p (.tup [x, y]) :=
  ⟨by show 2 ≤ sizeLine; decide, [u, v], .cons rx (.cons ry .nil), _, e, rfl, 0, rfl⟩
end
def Ite (K : PySem.W.Frag) (a : Addr) : It :=
  ⟨fun i H => ∃ xs x, SqL K H a xs ∧ xs[i]? = some x, fun i H x H' => ∃ p y, x = .ref p ∧ H p = none ∧ (∀ xs, SqL K H a xs → xs[i]? = some y) ∧ H' = upd H p (.tup [.int i, y]), fun i H => ∃ xs, SqL K H a xs ∧ xs.length ≤ i⟩
theorem turn_enum {P : Program} {w : World} {K : PySem.W.Frag} {es : List Expr} {k0} {pos : Pos} (a it e : Addr) (hne : e ≠ it) : Turn P w K (.Tuple es k0 pos) (Ite K a) [e, it] e (fun i h => (∃ old, IsEnum h e it i old) ∧ h.IsListIter it a i) where
  mem := by simp
  obj := fun i h st b hb => by
    obtain ⟨⟨old, he⟩, o, ho, c, d⟩ := st
    rcases List.mem_cons.mp hb with z | z
    · subst z
      exact ⟨_, he, fun v z => by cases z⟩
    · have z := List.mem_singleton.mp z
      subst z
      exact ⟨o, ho, fun v z => by rw [d] at z; cases z⟩
  keep := fun i h h' st k => by
    obtain ⟨⟨old, he⟩, hi⟩ := st
    exact ⟨⟨old, k e (by simp) _ he⟩, hi.at fun o q => k it (by simp) o q⟩
  item := by
    intro X hP hw hK hc i pins s σ H E I hf st hg
    subst hP hw hK
    obtain ⟨⟨old, he⟩, hi⟩ := st
    obtain ⟨xs, x, hq, hx⟩ := hg
    obtain ⟨its, rv, p, hz⟩ := I.list hq
    obtain ⟨u, hu, ru⟩ := rv.get hx
    refine wpAny_pyNext_enum_item he hi p.isList (x := u) (by simpa using hu) hne fun h1 he1 hi1 ht1 _ k1 => ?_
    refine ⟨_, rfl, wpAny_letOwnedTupleGo_enum (s := { s with heap := h1, toks := s.toks + 1 }) he1 fun h2 he2 sb => ?_⟩
    have np : s.heap.objs.size ≠ e := Nat.ne_of_gt (Heap.lt_size he)
    have ht2 : h2.get? s.heap.objs.size = some { cls := .type "tuple", data := .seq #[.int i s.toks, u] } := (sb.2 _ np).trans ht1
    have I2 : Inv X pins σ (upd H s.heap.objs.size (.tup [.int i, x])) { s with heap := h2, toks := s.toks + 1 } :=
      I.turnedNew (fp := [e, it]) (fun b ob hb q => (sb.2 b (fun z => hb (by simp [z]))).trans (k1 b ob (fun z => hb (by simp [z])) (fun z => hb (by simp [z])) q)) hf (Nat.le_refl _) (tup2_ok ⟨_, rfl⟩ ru ht2)
    refine ⟨.ref s.heap.objs.size, _, I2, rfl, ⟨_, x, rfl, I.hok.fresh (Nat.le_refl _), fun ys hy => by rw [I.list_inj hy hq]; exact hx, rfl⟩, ⟨⟨u, ?_⟩, ?_⟩, fun b hb => ?_⟩
    · have z : IsEnum h2 e it ((i : Int) + 1) u := he2
      exact z
    · exact hi1.at fun o q => (sb.2 it (Ne.symm hne)).trans q
    · have z := (hf b hb).1
      rw [upd_ne ?_]
      · exact z
      · rcases List.mem_cons.mp hb with q | q
        · rw [q]; exact Ne.symm np
        · rw [List.mem_singleton.mp q]
          obtain ⟨o, ho, _⟩ := hi
          exact Nat.ne_of_lt (Heap.lt_size ho)
  done := by
    intro X hP hw hK hc i pins s σ H E I hf st hg
    subst hP hw hK
    obtain ⟨⟨old, he⟩, hi⟩ := st
    obtain ⟨xs, hq, hx⟩ := hg
    obtain ⟨its, rv, p, hz⟩ := I.list hq
    obtain ⟨f0, f1, f2, f3, f4, f5⟩ := hf it (by simp)
    have hl := rv.length
    exact wpAny_pyNext_enum_end (I.ok.hd hc) he hi p.isList (by simp; (first | lia | omega)) fun h' eb => ⟨rfl, I.turned (t' := s.toks) (fun b o hb q => eb b o hb q) f0 f1 f3 f4 f5⟩
  self := fun _ _ _ _ _ st h => by
    obtain ⟨⟨old, he⟩, _⟩ := st
    exact wpAny_pyIter_enum he h
def iEnum (K : PySem.W.Frag) (ta : TA) : TI := fun σ H R => ta σ H fun vs H1 => ∃ a, vs = [.ref a] ∧ (∃ xs, SqL K H1 a xs) ∧ R (Ite K a) H1
section
variable {X : Cx}
theorem pi_enumerate {es : List Expr} {k0} {tp : Pos} {a : Expr} {ta : TA} {p pos : Pos} (hg : Gl X "enumerate") (hm : X.mg "enumerate" = none) (ha : PA X [a] ta) (hs : starEach [a] X.env = [(false, eval a X.env)] := by rfl) : PI X (.Tuple es k0 tp) (.Call (.Name "enumerate" p) [a] [] pos) (iEnum X.K ta) := by
  intro pins s σ H R I h
  refine Call_ (ld_blt I hg hm boot_enumerate (PyProof.Rows.callWith_type1 (thn (ha pos pins s σ H _ I h) fun us s1 ⟨vs, H1, I1, r1, q1⟩ => ?_) hs rfl))
  obtain ⟨l, e, ⟨xs, hq⟩, q⟩ := q1
  subst e
  cases r1 with
  | cons r rr =>
    cases rr
    cases r
    obtain ⟨its, rv, pl, hz⟩ := I1.list hq
    refine call_enumerate_list pl.isList fun h' he hi _ hk => ?_
    have I2 : Inv X pins σ H1 { s1 with heap := h' } := I1.kept (t' := s1.toks) hk
    refine wpAny_pyIter_enum (s := { s1 with heap := h' }) he ⟨_, [s1.heap.objs.size + 1, s1.heap.objs.size], _, _, H1, rfl, I2, turn_enum l s1.heap.objs.size (s1.heap.objs.size + 1) (Nat.succ_ne_self _), ⟨⟨_, he⟩, hi⟩, fun b hb => ?_, q⟩
    have hb' : s1.heap.objs.size ≤ b := by
      rcases List.mem_cons.mp hb with z | z
      · rw [z]; exact Nat.le_succ _
      · rw [List.mem_singleton.mp z]; exact Nat.le_refl _
    exact I1.fpOk hb' (I1.hok.fresh hb')
end
theorem for_enum {K : PySem.W.Frag} {a : Addr} {xs : List V} {g : TG} {tb : TS} {D : Ends} {σ : St} {H : Hp} (Pv : Nat → St → Hp → Prop) (h0 : Pv 0 σ H) (hl : ∀ i σ H, i ≤ xs.length → Pv i σ H → SqL K H a xs)
    (hs : ∀ i x σ H p, xs[i]? = some x → Pv i σ H → H p = none → g (.ref p) σ (upd H p (.tup [.int i, x])) fun σ2 H2 => tb { D with nx := Pv (i + 1), ct := Pv (i + 1), bk := D.nx } σ2 H2) (hd : ∀ σ H, Pv xs.length σ H → D.nx σ H) :
    ∃ W : Nat → Nat → St → Hp → Prop, (∃ m, W 0 m σ H) ∧ ∀ i m σ H, W i m σ H → ((Ite K a).stop i H ∧ D.nx σ H) ∨ ((Ite K a).go i H ∧ ∃ N : St → Hp → Prop, (∀ σ' H', N σ' H' → ∃ m', m' < m ∧ W (i + 1) m' σ' H') ∧ ∀ x H', (Ite K a).yld i H x H' → g x σ H' fun σ2 H2 => tb { D with nx := N, ct := N, bk := D.nx } σ2 H2) := by
  refine ⟨fun i m σ H => i + m = xs.length ∧ Pv i σ H, ⟨xs.length, by (first | lia | omega), h0⟩, fun i m σ H ⟨e, pv⟩ => ?_⟩
  have hS := hl i σ H (by (first | lia | omega)) pv
  by_cases hi : i < xs.length
  · refine .inr ⟨⟨xs, xs[i], hS, List.getElem?_eq_getElem hi⟩, Pv (i + 1), fun σ' H' q => ⟨m - 1, by (first | lia | omega), by (first | lia | omega), q⟩, fun x H' y => ?_⟩
    obtain ⟨p, z, rfl, hp, hz, rfl⟩ := y
    exact hs i z σ H p (hz xs hS) pv hp
  · have : i = xs.length := by (first | lia | omega)
    subst this
    exact .inl ⟨⟨xs, hS, Nat.le_refl _⟩, hd σ H pv⟩
def Itz (K : PySem.W.Frag) (a b : Addr) : It :=
  ⟨fun i H => ∃ xs ys x y, SqL K H a xs ∧ SqL K H b ys ∧ xs[i]? = some x ∧ ys[i]? = some y, fun i H x H' => ∃ p y z, x = .ref p ∧ H p = none ∧ (∀ xs, SqL K H a xs → xs[i]? = some y) ∧ (∀ xs, SqL K H b xs → xs[i]? = some z) ∧ H' = upd H p (.tup [y, z]), fun i H => ∃ xs ys, SqL K H a xs ∧ SqL K H b ys ∧ (xs.length ≤ i ∨ ys.length ≤ i)⟩
theorem turn_zip {P : Program} {w : World} {K : PySem.W.Frag} {es : List Expr} {k0} {pos : Pos} {a b z TI TO i1 i2 : Addr} (D : ZipApart z TI TO i1 i2 a b) : Turn P w K (.Tuple es k0 pos) (Itz K a b) [z, TI, TO, i1, i2] z
    (fun i h => IsZip h z TI TO .none ∧ IsPair h TI (.ref i1) (.ref i2) ∧ (∃ u v, IsPair h TO u v) ∧ h.IsListIter i1 a i ∧ h.IsListIter i2 b i) where
  mem := by simp
  obj := fun i h st c hc => by
    obtain ⟨hz, hTI, ⟨u, v, hTO⟩, ⟨o1, e1, _, d1⟩, ⟨o2, e2, _, d2⟩⟩ := st
    simp only [List.mem_cons, List.not_mem_nil, or_false] at hc
    rcases hc with rfl | rfl | rfl | rfl | rfl
    · exact ⟨_, hz, fun v q => by cases q⟩
    · exact ⟨_, hTI, fun v q => by cases q⟩
    · exact ⟨_, hTO, fun v q => by cases q⟩
    · exact ⟨o1, e1, fun v q => by rw [d1] at q; cases q⟩
    · exact ⟨o2, e2, fun v q => by rw [d2] at q; cases q⟩
  keep := fun i h h' st k => by
    obtain ⟨hz, hTI, ⟨u, v, hTO⟩, h1, h2⟩ := st
    exact ⟨k z (by simp) _ hz, k TI (by simp) _ hTI, ⟨u, v, k TO (by simp) _ hTO⟩, h1.at fun o q => k i1 (by simp) o q, h2.at fun o q => k i2 (by simp) o q⟩
  item := by
    intro X hP hw hK hc i pins s σ H E I hf st hg
    subst hP hw hK
    obtain ⟨hz, hTI, ⟨u0, v0, hTO⟩, h1, h2⟩ := st
    obtain ⟨xs, ys, x, y, hqa, hqb, hx, hy⟩ := hg
    obtain ⟨its, rv, p, _⟩ := I.list hqa
    obtain ⟨jts, rw', p', _⟩ := I.list hqb
    obtain ⟨u, hu, ru⟩ := rv.get hx
    obtain ⟨v, hv, rv'⟩ := rw'.get hy
    refine wpAny_pyNext_zip_item D hz hTI hTO h1 h2 p.isList p'.isList (x := u) (y := v) (by simpa using hu) (by simpa using hv) fun h1' hz1 hTO1 hi1 hi2 ht1 _ k1 => ?_
    refine ⟨_, rfl, wpAny_letOwnedTupleGo_zip (s := { s with heap := h1' }) hz1 fun h2' hz2 sb => ?_⟩
    have np : s.heap.objs.size ≠ z := Nat.ne_of_gt (Heap.lt_size hz)
    have ht2 : h2'.get? s.heap.objs.size = some { cls := .type "tuple", data := .seq #[u, v] } := (sb.2 _ np).trans ht1
    have I2 : Inv X pins σ (upd H s.heap.objs.size (.tup [x, y])) { s with heap := h2', toks := s.toks } :=
      I.turnedNew (fp := [z, TI, TO, i1, i2]) (fun c ob hb q => (sb.2 c (fun r => hb (by simp [r]))).trans (k1 c ob (fun r => hb (by simp [r])) (fun r => hb (by simp [r])) (fun r => hb (by simp [r])) (fun r => hb (by simp [r])) q)) hf (Nat.le_refl _) (tup2_ok ru rv' ht2)
    refine ⟨.ref s.heap.objs.size, _, I2, rfl, ⟨_, x, y, rfl, I.hok.fresh (Nat.le_refl _), fun ys hy' => by rw [I.list_inj hy' hqa]; exact hx, fun ys hy' => by rw [I.list_inj hy' hqb]; exact hy, rfl⟩, ⟨hz2, (sb.2 _ D.TIz).trans (k1 TI _ D.TIz D.TITO D.TIi1 D.TIi2 hTI), ⟨_, _, (sb.2 _ D.TOz).trans hTO1⟩, hi1.at fun o q => (sb.2 i1 D.i1z).trans q, hi2.at fun o q => (sb.2 i2 D.i2z).trans q⟩, fun c hb => ?_⟩
    have zf := (hf c hb).1
    have lt : c < s.heap.objs.size := by
      simp only [List.mem_cons, List.not_mem_nil, or_false] at hb
      obtain ⟨o1, e1, _⟩ := h1
      obtain ⟨o2, e2, _⟩ := h2
      rcases hb with rfl | rfl | rfl | rfl | rfl
      · exact Heap.lt_size hz
      · exact Heap.lt_size hTI
      · exact Heap.lt_size hTO
      · exact Heap.lt_size e1
      · exact Heap.lt_size e2
    rw [upd_ne (Nat.ne_of_lt lt)]
    exact zf
  done := by
    intro X hP hw hK hc i pins s σ H E I hf st hg
    subst hP hw hK
    obtain ⟨hz, hTI, ⟨u0, v0, hTO⟩, h1, h2⟩ := st
    obtain ⟨xs, ys, hqa, hqb, hend⟩ := hg
    obtain ⟨its, rv, p, _⟩ := I.list hqa
    obtain ⟨jts, rw', p', _⟩ := I.list hqb
    have l1 := rv.length
    have l2 := rw'.length
    refine wpAny_pyNext_zip_end (I.ok.hd hc) D hz hTI hTO h1 h2 p.isList p'.isList (by
      rcases hend with q | q
      · left; simp; (first | lia | omega)
      · right; simp; (first | lia | omega)) fun h' kk => ⟨rfl, ?_⟩
    refine I.step (g' := s.gens) (d' := s.drawn) (t' := s.toks) (ch := [z, TI, TO, i1, i2]) (fun c hb => ?_) (fun c ob _ _ hn q _ => kk c ob (fun r => hn (by simp [r])) (fun r => hn (by simp [r])) (fun r => hn (by simp [r])) (fun r => hn (by simp [r])) q)
      (fun c ob _ _ hn q _ => ⟨ob.slots, kk c ob (fun r => hn (by simp [r])) (fun r => hn (by simp [r])) (fun r => hn (by simp [r])) (fun r => hn (by simp [r])) q⟩) (fun _ _ _ _ n => n)
      (fun c ob hn q => ⟨ob, kk c ob (fun r => hn (by simp [r])) (fun r => hn (by simp [r])) (fun r => hn (by simp [r])) (fun r => hn (by simp [r])) q⟩) (fun _ _ q => q) (fun _ _ _ q => q) (fun c ps q => ⟨#[], by rw [q]; simp⟩) (fun m hm => ?_) (fun c u e => ?_) I.bare
    · obtain ⟨_, q2, _, q4, q5, q6⟩ := hf c hb
      exact ⟨q4, q2, q5, q6⟩
    · obtain ⟨ob, es, ep, ho, r⟩ := hm
      have nL : ∀ c ∈ [z, TI, TO, i1, i2], X.env.locals ≠ c := fun c hc => Ne.symm (hf c hc).2.1
      exact ⟨ob, es, ep, kk _ ob (nL z (by simp)) (nL TO (by simp)) (nL i1 (by simp)) (nL i2 (by simp)) ho, r⟩
    · have nf : ∀ c' u, H c' = some u → ∀ q ∈ [z, TI, TO, i1, i2], c' ≠ q := fun c' u e q hq r => by rw [r, (hf q hq).1] at e; cases e
      refine (I.hok c u e).stay (fun c' v hc' q => ?_) (fun _ q => q) fun _ _ q => q
      have go : ∀ u', H c' = some u' → h'.get? c' = some v := fun u' e' => kk c' v (nf c' _ e' z (by simp)) (nf c' _ e' TO (by simp)) (nf c' _ e' i1 (by simp)) (nf c' _ e' i2 (by simp)) q
      rcases hc' with r | r
      · exact go u (by rw [r]; exact e)
      · exact go _ r
  self := fun _ _ _ _ _ st h => wpAny_pyIter_zip st.1 h
theorem zip_apart {l l' n : Nat} (hl : l < n) (hl' : l' < n) : ZipApart (n + 4) (n + 2) (n + 3) n (n + 1) l l' := by
  constructor <;> (intro z; have z' : (_ : Nat) = _ := z; (first | lia | omega))
theorem zip_in {n c : Nat} (h : c ∈ [n + 4, n + 2, n + 3, n, n + 1]) : n ≤ c := by
  simp only [List.mem_cons, List.not_mem_nil, or_false] at h
  (first | lia | omega)
def iZip (K : PySem.W.Frag) (ta : TA) : TI := fun σ H R => ta σ H fun vs H1 => ∃ a b, vs = [.ref a, .ref b] ∧ (∃ xs, SqL K H1 a xs) ∧ (∃ xs, SqL K H1 b xs) ∧ R (Itz K a b) H1
section
variable {X : Cx}
theorem pi_zip {es : List Expr} {k0} {tp : Pos} {a b : Expr} {ta : TA} {p pos : Pos} (hg : Gl X "zip") (hm : X.mg "zip" = none) (ha : PA X [a, b] ta) (hs : starEach [a, b] X.env = [(false, eval a X.env), (false, eval b X.env)] := by rfl) (hs2 : starEach [b] X.env = [(false, eval b X.env)] := by rfl) : PI X (.Tuple es k0 tp) (.Call (.Name "zip" p) [a, b] [] pos) (iZip X.K ta) := by
  intro pins s σ H R I h
  refine Call_ (ld_blt I hg hm boot_zip (PyProof.Rows.callWith_type1 (thn (ha pos pins s σ H _ I h) fun us s1 ⟨vs, H1, I1, r1, q1⟩ => ?_) (by rw [hs, hs2]) (by rw [hs2]; rfl)))
  obtain ⟨l, l', e, ⟨xs, hq⟩, ⟨ys, hq'⟩, q⟩ := q1
  subst e
  cases r1 with
  | cons r rr =>
    cases rr with
    | cons r' rr =>
      cases rr
      cases r
      cases r'
      obtain ⟨its, rv, pl, hz⟩ := I1.list hq
      obtain ⟨jts, rv', pl', hz'⟩ := I1.list hq'
      have hl : l < s1.heap.objs.size := by obtain ⟨o, _, e, _⟩ := pl; exact Heap.lt_size e
      have hl' : l' < s1.heap.objs.size := by obtain ⟨o, _, e, _⟩ := pl'; exact Heap.lt_size e
      refine call_zip_2 pl.isList pl'.isList fun h' hz hTI hTO hi hi' _ hk => ?_
      have I2 : Inv X pins σ H1 { s1 with heap := h' } := I1.kept (t' := s1.toks) hk
      refine wpAny_pyIter_zip (s := { s1 with heap := h' }) hz ⟨_, [s1.heap.objs.size + 4, s1.heap.objs.size + 2, s1.heap.objs.size + 3, s1.heap.objs.size, s1.heap.objs.size + 1], _, _, H1, rfl, I2, turn_zip (zip_apart hl hl'), ⟨hz, hTI, ⟨_, _, hTO⟩, hi, hi'⟩, fun c hb => ?_, q⟩
      have hb' : s1.heap.objs.size ≤ c := zip_in hb
      exact I1.fpOk hb' (I1.hok.fresh hb')
end
end L2
namespace L2
open PySem PySem.Spec PyProof.Rows
def cxComp (X : Cx) (N : List Str) (scope : Scope) (cl : List (Str × Addr)) (C : Addr) (s₂ : Shared) (H₂ : Hp) (fp : List Addr) : Cx :=
  { X with N := N, s₀ := s₂, H₀ := H₂, env := compEnvC scope cl C X.env, outer := X.stack, stack := X.stack, ex := fp, fn := fun _ => false, xe := fun _ _ => False }
structure Closed (scope : Scope) (env : Env) (cl : List (Str × Addr)) : Prop where
  eq : closureFor scope env = pure cl
  sub : ∀ x c, cl.lookup x = some c → env.cells.lookup x = some c
  has : ∀ x, (x, NameKind.free) ∈ scope.names → ∃ c, cl.lookup x = some c
theorem closed_go {env : Env} : ∀ (names : List (Str × NameKind)) (cs : List (Str × Addr)), (∀ x, (x, NameKind.free) ∈ names → ∃ c, env.cells.lookup x = some c) → (∀ x c, cs.lookup x = some c → env.cells.lookup x = some c) →
    ∃ cl : List (Str × Addr), (forIn names cs (fun (x : Str × NameKind) (r : List (Str × Addr)) => if (x.2 == NameKind.free) = true then (do let c ← cellOf env x.1; pure (ForInStep.yield ((x.1, c) :: r))) else pure (ForInStep.yield r)) : Sem (List (Str × Addr))) = pure cl ∧
      (∀ x c, cl.lookup x = some c → env.cells.lookup x = some c) ∧ (∀ x c, cs.lookup x = some c → ∃ c', cl.lookup x = some c') ∧ ∀ x, (x, NameKind.free) ∈ names → ∃ c, cl.lookup x = some c
  | [], cs, _, h2 => ⟨cs, by rw [List.forIn_nil], h2, fun x c e => ⟨c, e⟩, fun _ z => nomatch z⟩
  | (n, k) :: r, cs, h1, h2 => by
    by_cases hk : k = .free
    · subst hk
      obtain ⟨c, hc⟩ := h1 n List.mem_cons_self
      have hn : ∀ x c', ((n, c) :: cs).lookup x = some c' → env.cells.lookup x = some c' := fun x c' e => by
        rw [List.lookup_cons] at e
        cases hx : x == n with
        | true =>
          rw [hx] at e
          cases e
          rw [eq_of_beq hx]
          exact hc
        | false =>
          rw [hx] at e
          exact h2 x c' e
      obtain ⟨cl, e, s1, s2, s3⟩ := closed_go r ((n, c) :: cs) (fun x hx => h1 x (List.mem_cons_of_mem _ hx)) hn
      have here : ∃ c', cl.lookup n = some c' := s2 n c (by rw [List.lookup_cons, beq_self_eq_true])
      refine ⟨cl, ?_, s1, fun x c' q => ?_, fun x hx => ?_⟩
      · rw [List.forIn_cons, if_pos (by rfl)]
        have q : cellOf env n = pure c := by unfold cellOf; rw [hc]
        rw [q]
        simp only [pure_bind]
        exact e
      · cases hxn : x == n with
        | true => rw [eq_of_beq hxn]; exact here
        | false => exact s2 x c' (by rw [List.lookup_cons, hxn]; exact q)
      · rcases List.mem_cons.mp hx with z | z
        · cases z; exact here
        · exact s3 x z
    · obtain ⟨cl, e, s1, s2, s3⟩ := closed_go r cs (fun x hx => h1 x (List.mem_cons_of_mem _ hx)) h2
      refine ⟨cl, ?_, s1, s2, fun x hx => ?_⟩
      · have hb : (k == NameKind.free) = false := by simpa using hk
        rw [List.forIn_cons, if_neg (by rw [hb]; exact Bool.false_ne_true)]
        simp only [pure_bind]
        exact e
      · rcases List.mem_cons.mp hx with z | z
        · cases z; exact absurd rfl hk
        · exact s3 x z
theorem closed_of {scope : Scope} {env : Env} (h : ∀ x, (x, NameKind.free) ∈ scope.names → ∃ c, env.cells.lookup x = some c) : ∃ cl, Closed scope env cl := by
  obtain ⟨cl, e, s1, _, s3⟩ := closed_go scope.names [] h (fun _ _ z => nomatch z)
  refine ⟨cl, ?_, s1, s3⟩
  unfold closureFor
  exact (by simpa using e)
theorem lookup_relabel_free {env : Env} : ∀ {names : List (Str × NameKind)} {x : Str}, names.lookup x = some .free →
    (names.map fun (n, k) => if (k == NameKind.free && env.scope.kind == .function && env.kindOf n == some .cell) then (n, NameKind.cell) else (n, k)).lookup x = some .cell ∨
    (names.map fun (n, k) => if (k == NameKind.free && env.scope.kind == .function && env.kindOf n == some .cell) then (n, NameKind.cell) else (n, k)).lookup x = some .free
  | [], _, h => by simp at h
  | (n, k) :: r, x, h => by
    have ih := @lookup_relabel_free env r x
    show List.lookup x ((if (k == NameKind.free && env.scope.kind == .function && env.kindOf n == some .cell) = true then (n, NameKind.cell) else (n, k)) :: _) = _ ∨ List.lookup x ((if (k == NameKind.free && env.scope.kind == .function && env.kindOf n == some .cell) = true then (n, NameKind.cell) else (n, k)) :: _) = _
    cases hx : x == n with
    | true =>
      simp only [List.lookup_cons, hx] at h
      cases h
      by_cases hc : (NameKind.free == NameKind.free && env.scope.kind == .function && env.kindOf n == some .cell) = true
      · rw [if_pos hc]; left; simp only [List.lookup_cons, hx]
      · rw [if_neg hc]; right; simp only [List.lookup_cons, hx]
    | false =>
      simp only [List.lookup_cons, hx] at h
      by_cases hc : (k == NameKind.free && env.scope.kind == .function && env.kindOf n == some .cell) = true
      · rw [if_pos hc]; simp only [List.lookup_cons, hx]; exact ih h
      · rw [if_neg hc]; simp only [List.lookup_cons, hx]; exact ih h
theorem relabel_inv {env : Env} : ∀ {names : List (Str × NameKind)} {x : Str} {k' : NameKind}, (names.map fun (n, k) => if (k == NameKind.free && env.scope.kind == .function && env.kindOf n == some .cell) then (n, NameKind.cell) else (n, k)).lookup x = some k' → k' = .cell ∨ k' = .free →
    (∀ y ∈ names, y.2 ≠ .cell) → (x, NameKind.free) ∈ names
  | [], _, _, h, _, _ => by simp at h
  | (n, k) :: r, x, k', h, hk, hc => by
    have ih := @relabel_inv env r x k'
    have h' : List.lookup x ((if (k == NameKind.free && env.scope.kind == .function && env.kindOf n == some .cell) = true then (n, NameKind.cell) else (n, k)) :: r.map fun (n, k) => if (k == NameKind.free && env.scope.kind == .function && env.kindOf n == some .cell) then (n, NameKind.cell) else (n, k)) = some k' := h
    cases hx : x == n with
    | true =>
      have e := eq_of_beq hx
      subst e
      by_cases hf : k = .free
      · subst hf; exact List.mem_cons_self
      · have hb : (k == NameKind.free) = false := by simpa using hf
        rw [if_neg (by rw [hb]; simp), List.lookup_cons, hx] at h'
        cases h'
        rcases hk with z | z
        · exact absurd z (hc (x, k) List.mem_cons_self)
        · exact absurd z hf
    | false =>
      refine List.mem_cons_of_mem _ (ih ?_ hk fun y hy => hc y (List.mem_cons_of_mem _ hy))
      by_cases hcd : (k == NameKind.free && env.scope.kind == .function && env.kindOf n == some .cell) = true
      · rw [if_pos hcd, List.lookup_cons, hx] at h'; exact h'
      · rw [if_neg hcd, List.lookup_cons, hx] at h'; exact h'
def startC (own : Nat) (cap : List Nat) (σ : St) : St := List.replicate own none ++ cap.map fun i => (σ[i]?).getD none
structure CompOk (X : Cx) (scope : Scope) (N : List Str) (own : Nat) (cap : List Nat) : Prop where
  kind : scope.kind = .function
  nocell : (scope.names.all fun y => y.2 != .cell) = true
  locs : (scope.names.all fun y => y.2 != .local || scope.names.lookup y.1 == some .local) = true
  frees : (scope.names.all fun y => y.2 != .free || (X.env.kindOf y.1 == some .cell || X.env.kindOf y.1 == some .free)) = true
  len : N.length = own + cap.length
  caps : ((List.range cap.length).all fun j => (N[own + j]? == X.N[cap[j]!]?) && (match N[own + j]? with | some x => scope.names.lookup x == some .free && (X.env.kindOf x == some .cell || X.env.kindOf x == some .free) | none => false)) = true
section
variable {prog : Program} {w : World} {A : Around} {R : Result → Shared → Prop} {s : Shared}
theorem compLoop_go {elt target iter : Expr} {ifs : List Expr} {scope : Scope} {pos : Pos} {it acc : Value} {env : Env} (I : Nat → Shared → Prop)
    (turn : ∀ n s, I n s → wpAny (model prog w) A (pyNext it) (fun r s₁ => match r with
      | none => R (.ok .next) s₁
      | some v => wpAny (model prog w) A (letOwnedTupleGo target it v) (fun _ s₁' => wpAny (model prog w) A (assign target env v) (fun _ s₂ =>
          wpAny (model prog w) A (forIn ifs true fun c r => if r = true then do let ok ← isTrue c env (eval c env); pure (ForInStep.yield ok) else pure (ForInStep.yield r)) (fun ok s₃ =>
            if ok = true then wpAny (model prog w) A (eval elt env) (fun x s₄ =>
              wpAny (model prog w) A (call (.builtin "list.append") [acc, x]) (fun _ s₅ => ∃ m, m < n ∧ I m s₅) (fun _ _ => False) s₄) (fun _ _ => False) s₃
            else ∃ m, m < n ∧ I m s₃) (fun _ _ => False) s₂) (fun _ _ => False) s₁') (fun _ _ => False) s₁) (fun _ _ => False) s)
    (n : Nat) (h : I n s) :
    codeAny (model prog w) A (.compLoop (.ListComp elt [⟨target, iter, ifs, 0⟩] scope pos) 0 it acc env) R s := by
  refine codeAny_loop rfl I (fun n s hI => ?_) n h
  show wpAny _ A ((compTurn (.ListComp elt [⟨target, iter, ifs, 0⟩] scope pos) 0 it acc env).onRaise (fun x => do noteFrame x env; theTreesLotGoes x)) _ _ s
  refine wpAny_noted ?_
  rw [compTurn_list]
  refine wpAny_bind (wpAny_standAt (wpAny_bind (wpAny_mono (turn n s hI) (fun r s₁ h₁ => ?_) fun _ _ h' => h'.elim)))
  cases r with
  | none => exact wpAny_pure h₁
  | some v =>
    refine wpAny_bind (wpAny_mono h₁ (fun _ s₁' h₁' => ?_) fun _ _ h' => h'.elim)
    refine wpAny_bind (wpAny_mono h₁' (fun _ s₂ h₂ => wpAny_bind (wpAny_mono h₂ (fun ok s₃ h₃ => ?_) fun _ _ h' => h'.elim)) fun _ _ h' => h'.elim)
    cases ok with
    | true =>
      simp only [if_true] at h₃ ⊢
      exact wpAny_bind (wpAny_bind (wpAny_mono h₃ (fun x s₄ h₄ => wpAny_bind (wpAny_mono h₄ (fun _ s₅ h₅ => wpAny_pure (wpAny_pure ⟨rfl, h₅⟩)) fun _ _ h' => h'.elim)) fun _ _ h' => h'.elim))
    | false =>
      simp only [Bool.false_eq_true, if_false] at h₃ ⊢
      exact wpAny_pure ⟨rfl, h₃⟩
end
section
variable {X : Cx}
def PTs (X : Cx) (ifs : List Expr) (t : TT) : Prop :=
  ∀ (pins : List (Addr × Obj)) (s : Shared) (σ : St) (H : Hp) (Q : Bool → Hp → Prop), Inv X pins σ H s → t σ H Q →
    wpAny (model X.prog X.w) X.A (forIn ifs true fun c r => if r = true then do let ok ← isTrue c X.env (eval c X.env); pure (ForInStep.yield ok) else pure (ForInStep.yield r)) (TP X pins σ Q) X.xe s
def tYes : TT := fun _ H Q => Q true H
theorem pts_nil : PTs X [] tYes := fun _ _ _ H _ I h => wpAny_tests_nil ⟨H, I, h⟩
theorem inv_comp {pins : List (Addr × Obj)} {σ : St} {H : Hp} {s : Shared} {N : List Str} {own : Nat} {cap : List Nat} {scope : Scope} {cl : List (Str × Addr)} {C : Addr} {fp : List Addr} {h₁ : Heap} {tk : Nat} {D : Addr}
    (I : Inv X pins σ H s) (c : CompOk X scope N own cap) (hcl : Closed scope X.env cl) (f : ∀ b ∈ fp, FpOk X pins H b) (hD : s.heap.objs.size ≤ D) (hC : s.heap.objs.size ≤ C) (hCD : D ≠ C)
    (kp : ∀ b o, s.heap.get? b = some o → h₁.get? b = some o) (hnew : h₁.get? D = some { cls := .type "list", data := .seq #[] }) (hns : ∃ m, h₁.Ns C m) (hfp : ∀ b ∈ fp, b < s.heap.objs.size) (hcalm : X.calm = true) :
    Inv (cxComp X N scope cl C s H fp) pins (startC own cap σ) (upd H D (.lst [])) { s with heap := h₁, toks := tk } := by
  have hfr : H D = none := I.hok.fresh hD
  have hfrC : H C = none := I.hok.fresh hC
  have sz : ∀ b o, s.heap.get? b = some o → b ≠ D ∧ b ≠ C := fun b o e => ⟨Nat.ne_of_lt (Nat.lt_of_lt_of_le (Heap.lt_size e) hD), Nat.ne_of_lt (Nat.lt_of_lt_of_le (Heap.lt_size e) hC)⟩
  have cells : ∀ x cc, cl.lookup x = some cc → ∃ v, s.heap.IsCell cc v := fun x cc e => I.cell x cc (hcl.sub x cc e)
  have cellne : ∀ x cc, cl.lookup x = some cc → cc ≠ D ∧ cc ≠ C := fun x cc e => by
    obtain ⟨v, o, ho, _⟩ := cells x cc e
    exact sz cc o ho
  have ok : (cxComp X N scope cl C s H fp).Ok := by
    refine ⟨I.ok.mod, c.kind, I.ok.glob, I.ok.blt, hC, fun x y cc e1 e2 => I.ok.inj x y cc (hcl.sub x cc e1) (hcl.sub y cc e2), fun x hx => ?_, (fun x cc z _ => nomatch z), I.ok.hd, I.ok.frames, .inl rfl, fun b hb => ?_, fun b o e => I.bs b o e, ?_, fun b o e hb => ?_, fun b hb z => ?_, I.stack, fun b hb => I.stkFree b hb⟩
    · have hm : (x, NameKind.free) ∈ scope.names := by
        rcases hx with z | z
        · exact relabel_inv (env := X.env) (names := scope.names) (x := x) (k' := .cell) z (.inl rfl) fun y hy q => by
            have := List.all_eq_true.mp c.nocell y hy
            rw [q] at this
            exact absurd this (by decide)
        · exact relabel_inv (env := X.env) (names := scope.names) (x := x) (k' := .free) z (.inr rfl) fun y hy q => by
            have := List.all_eq_true.mp c.nocell y hy
            rw [q] at this
            exact absurd this (by decide)
      exact hcl.has x hm
    · exact ⟨Nat.ne_of_lt (Nat.lt_of_lt_of_le (hfp b hb) hC), fun x cc e z => (f b hb).2.2.2.2.1 x cc (hcl.sub x cc e) z⟩
    · exact Nat.le_trans I.ok.bsz I.sz
    · obtain ⟨_, _, _, h4, _⟩ := f b hb
      rcases h4 with z | z
      · exact I.ok.noex b o e z
      · exact absurd (Nat.lt_of_lt_of_le (Heap.lt_size e) (Nat.le_trans I.ok.bsz z)) (Nat.lt_irrefl _)
    · obtain ⟨_, h2, h3, _⟩ := f b hb
      rcases List.mem_cons.mp (I.stkSub b z) with q | q
      · exact h2 q
      · exact h3 q
  have hokN : ObjOk X.prog X.w (upd H D (.lst [])) h₁ D (.lst []) := ⟨Nat.zero_le _, [], 0, .nil, hnew⟩
  refine ⟨ok, I.os.symm ▸ rfl, I.bare, Un.laid kp hD hfr, ?_, fun x cc e => ?_, ?_, fun x cc e => ?_, fun p hp => ?_, I.hok.laid kp hD hokN, ?_⟩
  · obtain ⟨m, hm⟩ := hns
    refine ⟨m, hm, fun i x v e1 e2 e3 => ?_⟩
    have hi : own ≤ i := by
      false_or_by_contra
      rename_i z
      unfold startC at e2
      rw [List.getElem?_append_left (by rw [List.length_replicate]; (first | lia | omega)), List.getElem?_replicate] at e2
      split at e2 <;> cases e2
    obtain ⟨j, rfl⟩ : ∃ j, i = own + j := ⟨i - own, by (first | lia | omega)⟩
    have hj : j < cap.length := by
      have := (List.getElem?_eq_some_iff.mp e1).1
      have z := c.len
      have this' : own + j < N.length := this
      (first | lia | omega)
    have hc := List.all_eq_true.mp c.caps j (List.mem_range.mpr hj)
    have e1' : N[own + j]? = some x := e1
    rw [e1'] at hc
    simp only [Bool.and_eq_true, beq_iff_eq, Bool.or_eq_true] at hc
    obtain ⟨hN, hf, hk⟩ := hc
    have e2' : σ[cap[j]!]? = some (some v) := by
      unfold startC at e2
      rw [List.getElem?_append_right (by rw [List.length_replicate]; (first | lia | omega)), List.length_replicate, show own + j - own = j by (first | lia | omega), List.getElem?_map] at e2
      have g : cap[j]! = cap[j] := by simp [hj]
      rw [List.getElem?_eq_getElem hj, Option.map_some] at e2
      rw [g]
      have e2 := Option.some.inj e2
      cases q : σ[cap[j]]? with
      | none => rw [q] at e2; cases e2
      | some z => rw [q] at e2; exact congrArg some e2
    obtain ⟨m0, _, hl⟩ := I.loc
    obtain ⟨u, ru, lk⟩ := hl (cap[j]!) x v hN.symm e2' (by
      rcases hk with z | z
      · exact .inr (.inl z)
      · exact .inr (.inr z))
    refine ⟨u, ru, .inr ⟨lookup_relabel_free (env := X.env) hf, ?_⟩⟩
    rcases lk with ⟨z, _⟩ | ⟨_, cc, ec, ic⟩
    · rcases hk with q | q
      · rw [q] at z; cases z
      · rw [q] at z; cases z
    · obtain ⟨c', hc'⟩ := hcl.has x (by
        have : (x, NameKind.free) ∈ scope.names := by
          have hlk := hf
          obtain ⟨l1, l2, hs, hno⟩ := List.lookup_eq_some_iff.mp hlk
          rw [hs]
          exact List.mem_append_right _ List.mem_cons_self
        exact this)
      have := hcl.sub x c' hc'
      rw [ec] at this
      cases this
      obtain ⟨o, ho, hd⟩ := ic
      exact ⟨cc, hc', o, kp cc o ho, hd⟩
  · obtain ⟨v, o, ho, hd⟩ := cells x cc e
    exact ⟨v, o, kp cc o ho, hd⟩
  · show upd H D (.lst []) C = none
    rw [upd_ne (Ne.symm hCD)]
    exact hfrC
  · show upd H D (.lst []) cc = none
    rw [upd_ne (cellne x cc e).1]
    exact I.freeC x cc (hcl.sub x cc e)
  · obtain ⟨e, n, ne, nf, d⟩ := I.pin p hp
    refine ⟨kp _ _ e, ?_, (sz _ _ e).2, fun z => ?_, d⟩
    · show upd H D (.lst []) p.1 = none
      rw [upd_ne (sz _ _ e).1]
      exact n
    · rcases List.mem_cons.mp (I.stkSub p.1 z) with q | q
      · exact ne q
      · exact nf q
  · show (startC own cap σ).length = N.length
    unfold startC
    rw [List.length_append, List.length_replicate, List.length_map, c.len]
def tComp (own : Nat) (cap : List Nat) (wi : TI) (g : TG) (ts : TT) (te : TE) : TE := fun σ H Q => wi σ H fun J H1 => ∀ D, H1 D = none → ∃ W : Nat → Nat → St → Hp → Prop, (∃ m, W 0 m (startC own cap σ) (upd H1 D (.lst []))) ∧ ∀ i m σ H, W i m σ H →
  (J.stop i H ∧ Q (.ref D) H) ∨ (J.go i H ∧ ∀ x H', J.yld i H x H' → g x σ H' fun σ2 H2 => ts σ2 H2 fun b H3 => if b = true then te σ2 H3 fun y H4 => ∃ xs, H4 D = some (.lst xs) ∧ xs.length < sizeLine ∧ ∃ m', m' < m ∧ W (i + 1) m' σ2 (upd H4 D (.lst (xs ++ [y]))) else ∃ m', m' < m ∧ W (i + 1) m' σ2 H3)
theorem comp_core {pins : List (Addr × Obj)} {σ : St} {H2 : Hp} {s2 : Shared} {N : List Str} {own : Nat} {cap : List Nat} {scope : Scope} {cl : List (Str × Addr)} {fp : List Addr} {tg elt iter : Expr} {ifs : List Expr} {pos : Pos} {J : It} {it : Addr} {tn : Nat → Heap → Prop} {g : TG} {ts : TT} {te : TE} {Q : VK}
    {E : Value → Shared → Prop} {RR : Value → Addr → Result → Shared → Prop}
    (hcalm : X.calm = true) (c : CompOk X scope N own cap) (hcl : Closed scope X.env cl)
    (hg : ∀ cl C s₂ H₂ fp, PG (cxComp X N scope cl C s₂ H₂ fp) tg g) (hts : ∀ cl C s₂ H₂ fp, PTs (cxComp X N scope cl C s₂ H₂ fp) ifs ts) (he : ∀ cl C s₂ H₂ fp, PE (cxComp X N scope cl C s₂ H₂ fp) elt te)
    (I2 : Inv X pins σ H2 s2) (T : Turn X.prog X.w X.K tg J fp it tn) (st2 : tn 0 s2.heap) (f2 : ∀ b ∈ fp, FpOk X pins H2 b)
    (rd : ∀ D, H2 D = none → ∃ W : Nat → Nat → St → Hp → Prop, (∃ m, W 0 m (startC own cap σ) (upd H2 D (.lst []))) ∧ ∀ i m σ H, W i m σ H →
      (J.stop i H ∧ Q (.ref D) H) ∨ (J.go i H ∧ ∀ x H', J.yld i H x H' → g x σ H' fun σ2 H2 => ts σ2 H2 fun b H3 => if b = true then te σ2 H3 fun y H4 => ∃ xs, H4 D = some (.lst xs) ∧ xs.length < sizeLine ∧ ∃ m', m' < m ∧ W (i + 1) m' σ2 (upd H4 D (.lst (xs ++ [y]))) else ∃ m', m' < m ∧ W (i + 1) m' σ2 H3))
    (hRR : ∀ D C s' H', Inv X pins σ H' s' → (∃ m, s'.heap.Ns C m) → FpOk X pins H' C → Q (.ref D) H' → RR (.ref D) C (.ok .next) s') :
    wpAny (model X.prog X.w) X.A (newList []) (fun acc s₃ => wpAny (model X.prog X.w) X.A (newFunctionEnv scope X.env.globals cl [] X.env.qual none .none (some X.env)) (fun cenv s₄ =>
      codeAny (model X.prog X.w) X.A (.compStart (.ListComp elt [⟨tg, iter, ifs, 0⟩] scope pos) 0 (.ref it) acc { cenv with scope := relabel scope X.env }) (RR acc cenv.locals) s₄) E s₃) E s2 := by
  have hcell : ∀ y ∈ scope.names, y.2 ≠ .cell := fun y hy q => by
    have := List.all_eq_true.mp c.nocell y hy
    rw [q] at this
    exact absurd this (by decide)
  have hfp : ∀ b ∈ fp, b < s2.heap.objs.size := fun b hb => by
    obtain ⟨o, e, _⟩ := T.obj 0 _ st2 b hb
    exact Heap.lt_size e
  refine wpAny_newObj_type (wpAny_newFunctionEnv hcell (by intro y hy; simp at hy) (fun h₁ hns₁ hsb₁ => ?_) c.kind)
  dsimp only at hns₁ hsb₁ ⊢
  generalize hHH : s2.heap.push { cls := .type "list", dict := none, data := .seq ([] : List Value).toArray } = HH at hns₁ hsb₁ ⊢
  have hC : HH.objs.size = s2.heap.objs.size + 1 := by rw [← hHH, Heap.size_push]
  have hDC : s2.heap.objs.size ≠ HH.objs.size := by rw [hC]; exact Nat.ne_of_lt (Nat.lt_succ_self _)
  have hCle : s2.heap.objs.size ≤ HH.objs.size := by rw [hC]; exact Nat.le_succ _
  have old : ∀ b o, s2.heap.get? b = some o → h₁.get? b = some o := fun b o e => hsb₁.extBut b o (Nat.ne_of_lt (by rw [hC]; exact Nat.lt_succ_of_lt (Heap.lt_size e))) (Heap.get?_push_of_some _ (hHH ▸ Heap.get?_push_of_some _ e))
  have hnew : h₁.get? s2.heap.objs.size = some { cls := .type "list", data := .seq #[] } := hsb₁.extBut _ _ hDC (Heap.get?_push_of_some _ (hHH ▸ Heap.get?_push_size _ rfl))
  have I3 : ∀ tk, Inv (cxComp X N scope cl HH.objs.size s2 H2 fp) pins (startC own cap σ) (upd H2 s2.heap.objs.size (.lst [])) { s2 with heap := h₁, toks := tk } := fun tk =>
    inv_comp I2 c hcl f2 (Nat.le_refl _) hCle hDC old hnew ⟨_, hns₁⟩ hfp hcalm
  obtain ⟨W, ⟨m0, w0⟩, turn⟩ := rd s2.heap.objs.size (I2.hok.fresh (Nat.le_refl _))
  have st3 : tn 0 h₁ := T.keep _ _ _ st2 fun b _ o e => old b o e
  have fr3 : ∀ b ∈ fp, upd H2 s2.heap.objs.size (.lst []) b = none := fun b hb => by rw [upd_ne (Nat.ne_of_lt (hfp b hb))]; exact (f2 b hb).1
  have stat : ∀ {H' : Hp}, (∀ b ∈ fp, H' b = none) → ∀ b ∈ fp, FpOk (cxComp X N scope cl HH.objs.size s2 H2 fp) pins H' b := fun hn b hb => by
    obtain ⟨_, h2, h3, _, h5, h6⟩ := f2 b hb
    refine ⟨hn b hb, Nat.ne_of_lt (Nat.lt_of_lt_of_le (hfp b hb) hCle), fun z => ?_, .inl hb, fun x cc e => h5 x cc (hcl.sub x cc e), h6⟩
    rcases List.mem_cons.mp (I2.stkSub b z) with q | q
    · exact h2 q
    · exact h3 q
  have loop : ∀ s₃ : Shared, s₃ = { s2 with heap := h₁, toks := s2.toks + ([] : List (Str × Value)).length } →
      codeAny (model X.prog X.w) X.A (.compLoop (.ListComp elt [⟨tg, iter, ifs, 0⟩] scope pos) 0 (.ref it) (.ref s2.heap.objs.size) (compEnvC scope cl HH.objs.size X.env)) (RR (.ref s2.heap.objs.size) HH.objs.size) s₃ := by
    rintro s₃ rfl
    refine compLoop_go (fun n s' => ∃ i σ' H', Inv (cxComp X N scope cl HH.objs.size s2 H2 fp) pins σ' H' s' ∧ tn i s'.heap ∧ (∀ b ∈ fp, H' b = none) ∧ W i n σ' H') ?_ m0 ⟨0, _, _, I3 _, st3, fr3, w0⟩
    rintro n s3 ⟨i, σ3, H3, J3, t3, fr, w3⟩
    rcases turn i n σ3 H3 w3 with ⟨stop, qn⟩ | ⟨go, step⟩
    · refine thn (T.done (cxComp X N scope cl HH.objs.size s2 H2 fp) rfl rfl rfl hcalm i pins s3 σ3 H3 (fun _ _ => False) J3 (stat fr) t3 stop) fun r s4 ⟨hr, I4⟩ => ?_
      subst hr
      obtain ⟨mm, hmm, _⟩ := I4.loc
      refine hRR _ _ s4 H3 (I2.call' I4.os I4.base I4.hok I4.bare fun b hb => ?_) ⟨mm, hmm⟩ (I2.fpOk hCle I4.free) qn
      obtain ⟨_, h2, _, h4, h5, h6⟩ := f2 b hb
      exact ⟨h4, h2, h5, h6⟩
    · refine thn (T.item (cxComp X N scope cl HH.objs.size s2 H2 fp) rfl rfl rfl hcalm i pins s3 σ3 H3 (fun _ _ => False) J3 (stat fr) t3 go) fun r s4 ⟨u, hr, h4⟩ => ?_
      subst hr
      refine thn h4 fun _ s5 ⟨x, H5, I5, r5, y5, st5, fr5⟩ => ?_
      have I5' := I5.pinned (stat fr5) (T.obj _ _ st5)
      have back : ∀ {σ7 : St} {H7 : Hp} {s7 : Shared} {m' : Nat}, Inv (cxComp X N scope cl HH.objs.size s2 H2 fp) (pins ++ pinsAt fp s5.heap) σ7 H7 s7 → W (i + 1) m' σ7 H7 → ∃ i σ' H', Inv (cxComp X N scope cl HH.objs.size s2 H2 fp) pins σ' H' s7 ∧ tn i s7.heap ∧ (∀ b ∈ fp, H' b = none) ∧ W i m' σ' H' := fun {σ7 H7 s7 m'} I7 w7 => by
        refine ⟨i + 1, σ7, H7, I7.unpinned, T.keep _ _ _ st5 fun b hb o e => (I7.pin (b, o) (List.mem_append_right _ (List.mem_append_right _ (mem_pinsAt hb e)))).1, fun b hb => ?_, w7⟩
        obtain ⟨o, e, d⟩ := T.obj _ _ st5 b hb
        exact (I7.pin (b, o) (List.mem_append_right _ (List.mem_append_right _ (mem_pinsAt hb e)))).2.1
      refine thn (hg cl HH.objs.size s2 H2 fp _ s5 σ3 H5 x u _ I5' r5 (step x H5 y5)) fun _ s6 ⟨σ6, H6, I6, q6⟩ => ?_
      refine thn (hts cl HH.objs.size s2 H2 fp _ s6 σ6 H6 _ I6 q6) fun b s7 ⟨H7, I7, q7⟩ => ?_
      cases b with
      | false =>
        rw [if_neg Bool.false_ne_true] at q7 ⊢
        obtain ⟨m', hm, w7⟩ := q7
        exact ⟨m', hm, back I7 w7⟩
      | true =>
        rw [if_pos rfl] at q7 ⊢
        refine thn (he cl HH.objs.size s2 H2 fp _ s7 σ6 H7 _ I7 q7) fun v s8 ⟨y, H8, I8, r8, q8⟩ => ?_
        obtain ⟨xs, hx, hz, m', hm, w8⟩ := q8
        refine thn (mt_append (X := cxComp X N scope cl HH.objs.size s2 H2 fp) _ s8 σ6 H8 (.ref s2.heap.objs.size) [y] (.ref s2.heap.objs.size) [v] (fun _ H9 => H9 = upd H8 s2.heap.objs.size (.lst (xs ++ [y]))) I8 rfl (.cons r8 .nil) ⟨_, xs, y, rfl, rfl, hx, hz, rfl⟩) fun _ s9 ⟨_, H9, I9, _, e9⟩ => ?_
        subst e9
        exact ⟨m', hm, back I9 w8⟩
  refine codeAny_compStart_list (loop _ rfl) ?_
  exact T.self _ 0 _ _ _ st3 (loop _ rfl)
theorem pe_comp {N : List Str} {own : Nat} {cap : List Nat} {scope : Scope} {tg elt iter : Expr} {ifs : List Expr} {pos : Pos} {wi : TI} {g : TG} {ts : TT} {te : TE} (hcalm : X.calm = true) (hi : PI X tg iter wi) (c : CompOk X scope N own cap)
    (hg : ∀ cl C s₂ H₂ fp, PG (cxComp X N scope cl C s₂ H₂ fp) tg g) (hts : ∀ cl C s₂ H₂ fp, PTs (cxComp X N scope cl C s₂ H₂ fp) ifs ts) (he : ∀ cl C s₂ H₂ fp, PE (cxComp X N scope cl C s₂ H₂ fp) elt te)
    (hs : ∀ x, foldedSetIterable iter X.env x = pure x := by intro _; rfl) : PE X (.ListComp elt [⟨tg, iter, ifs, 0⟩] scope pos) (tComp own cap wi g ts te) := by
  intro pins s σ H Q I h
  obtain ⟨cl, hcl⟩ := closed_of (scope := scope) (env := X.env) fun x hx => I.ok.has x (by
    have := List.all_eq_true.mp c.frees _ hx
    simpa using this)
  rw [eval_ListComp]
  refine wpAny_comprehension_free (use := none) rfl hs hcl.eq c.kind (fun x hx hl => by
    have := List.all_eq_true.mp c.locs x hx
    rw [hl] at this
    simpa using this) (thn (hi pins s σ H _ I h) fun v s1 h1 => thn h1 fun itv s2 h2 => ?_)
  obtain ⟨it, fp, tn, J, H2, e, I2, T, st2, f2, rd⟩ := h2
  subst e
  refine comp_core (RR := fun acc C => compPost (model X.prog X.w) X.A X.xe none (EP X pins σ Q) acc C) hcalm c hcl hg hts he I2 T st2 f2 rd ?_
  intro D C s' H' I' hm fC q
  obtain ⟨m, hm⟩ := hm
  obtain ⟨f0, f1, f2, f3, f4, f5⟩ := fC
  exact ⟨m, hm, fun h' hsb => ⟨.ref D, H', I'.turned (t' := s'.toks) (fun b o hb e => (hsb.2 b hb).trans e) f0 f1 f3 f4 f5, rfl, q⟩⟩
theorem ps_setC {i : Nat} {x : Str} {N : List Str} {own : Nat} {cap : List Nat} {scope : Scope} {tg elt iter : Expr} {ifs : List Expr} {pos pos' spos : Pos} {wi : TI} {g : TG} {ts : TT} {te : TE} (hN : X.N.Nodup) (hxi : X.N[i]? = some x) (hx : X.env.scope.names.lookup x = some .local) (hcalm : X.calm = true) (hi : PI X tg iter wi) (c : CompOk X scope N own cap)
    (hg : ∀ cl C s₂ H₂ fp, PG (cxComp X N scope cl C s₂ H₂ fp) tg g) (hts : ∀ cl C s₂ H₂ fp, PTs (cxComp X N scope cl C s₂ H₂ fp) ifs ts) (he : ∀ cl C s₂ H₂ fp, PE (cxComp X N scope cl C s₂ H₂ fp) elt te)
    (hsw : swapsWith (.ListComp elt [⟨tg, iter, ifs, 0⟩] scope pos) (some (.Name x pos')) spos.line X.env = pure true := by rfl)
    (hs : ∀ x, foldedSetIterable iter X.env x = pure x := by intro _; rfl) : PS X (.Assign [.Name x pos'] (.ListComp elt [⟨tg, iter, ifs, 0⟩] scope pos) spos) (tAsg (tComp own cap wi g ts te) (gName i)) := by
  intro pins s σ H D I h
  obtain ⟨cl, hcl⟩ := closed_of (scope := scope) (env := X.env) fun x hx => I.ok.has x (by
    have := List.all_eq_true.mp c.frees _ hx
    simpa using this)
  rw [exec_Assign_Name_used _ _ _ _ hsw]
  refine wpAny_bind (wpAny_standAt (wpAny_bind ?_))
  show wpAny _ X.A (do let _ ← comprehension (.ListComp elt [⟨tg, iter, ifs, 0⟩] scope pos) scope X.env _ (newList []) false (eval iter X.env) (some (assign (.Name x pos') X.env))) _ _ s
  refine wpAny_bind (wpAny_mono (wpAny_comprehension_free (use := some (assign (.Name x pos') X.env)) (Q := fun _ s' => SP X pins D .next s') rfl hs hcl.eq c.kind (fun x hx hl => by
    have := List.all_eq_true.mp c.locs x hx
    rw [hl] at this
    simpa using this) (thn (hi pins s σ H _ I h) fun v s1 h1 => thn h1 fun itv s2 h2 => ?_)) (fun _ s' hq => wpAny_pure (wpAny_pure hq)) fun _ _ e => e)
  obtain ⟨it, fp, tn, J, H2, e, I2, T, st2, f2, rd⟩ := h2
  subst e
  refine comp_core (RR := fun acc C => compPost (model X.prog X.w) X.A X.xe (some (assign (.Name x pos') X.env)) (fun _ s' => SP X pins D .next s') acc C) (Q := fun x H1 => gName i x σ H1 D.nx) hcalm c hcl hg hts he I2 T st2 f2 rd ?_
  intro Dd C s' H' I' hm fC q
  obtain ⟨m, hm⟩ := hm
  have hne : ∀ a, (a = X.env.locals ∨ X.env.cells.lookup x = some a) → a ≠ C := fun a z => by
    obtain ⟨f0, f1, f2, f3, f4, f5⟩ := fC
    rcases z with z | z
    · rw [z]; exact Ne.symm f1
    · exact f4 x a z
  show wpAny _ X.A (assign (.Name x pos') X.env (.ref Dd)) _ _ _
  refine wpAny_assign_Name (store_ok2 I' hN hxi (.inl hx) (v := .ref Dd) rfl (fun s'' I'' hch => ?_) (.inr hx))
  obtain ⟨a, hsb, ha⟩ := hch
  refine ⟨m, hm.sameBut hsb (Ne.symm (hne a ha)), fun h' hs' => ?_⟩
  obtain ⟨f0, f1, f2, f3, f4, f5⟩ := fC
  exact ⟨_, H', I''.turned (t' := s''.toks) (fun b o hb e => (hs'.2 b hb).trans e) f0 f1 f3 f4 f5, q⟩
end
end L2
namespace L2
open PySem PySem.Spec PyProof.Rows PySem.SeqAt
theorem Paired.right {α β : Type} {F : α → β → Prop} : ∀ {l : List α} {m : List β} {b : β}, Paired F l m → b ∈ m → ∃ a, a ∈ l ∧ F a b
  | _, _, _, .nil, h => nomatch h
  | _, _, _, .cons r t, h => by
    rcases List.mem_cons.mp h with z | z
    · subst z
      exact ⟨_, List.mem_cons_self, r⟩
    · obtain ⟨a, h1, h2⟩ := Paired.right t z
      exact ⟨a, List.mem_cons_of_mem _ h1, h2⟩
class Srt (α : Type) [Rep α] where
  blt : α → α → Bool
  irrefl : ∀ a, blt a a = false
  trans : ∀ a b c, blt a b = true → blt b c = true → blt a c = true
  negTrans : ∀ a b c, blt a c = true → blt a b = true ∨ blt b c = true
  total : ∀ a b, blt a b = false → blt b a = false → a = b
  kd : SortKind
  one : α
  lt : ∀ {X : Cx} {pins : List (Addr × Obj)} {σ : St} {H : Hp} {s : Shared} {A : Around} {a b : α} {x y : V} {u v : Value} {Q : Bool → Shared → Prop} {E : Value → Shared → Prop}, Inv X pins σ H s → Rep.has X.K H a x → Rep.has X.K H b y → RelV x u → RelV y v → Q (blt a b) s → wpAny (model X.prog X.w) A (keyLt' kd u v) Q E s
  kind : ∀ {X : Cx} {pins : List (Addr × Obj)} {σ : St} {H : Hp} {s : Shared} {A : Around} {as : List α} {xs : List V} {us : List Value} {Q : SortKind → Shared → Prop} {E : Value → Shared → Prop}, Inv X pins σ H s → HasAll X.K H as xs → Vals xs us → 2 ≤ us.length → Q kd s → wpAny (model X.prog X.w) A (keyKind' us.toArray) Q E s
section
variable {α : Type} [Rep α] [Srt α]
noncomputable def srtKind (α : Type) [Rep α] [Srt α] (K : PySem.W.Frag) (H : Hp) : PyProof.Rows.KeyKind where
  α := α
  blt := Srt.blt
  irrefl := Srt.irrefl
  trans := Srt.trans
  negTrans := Srt.negTrans
  total := Srt.total
  keyOf := fun u => open Classical in if h : ∃ a : α, ∃ x, RelV x u ∧ Rep.has K H a x then some (Classical.choose h) else none
  dflt := Srt.one
theorem keyOf_is {X : Cx} {pins : List (Addr × Obj)} {σ : St} {H : Hp} {s : Shared} {a : α} {x : V} {u : Value} (I : Inv X pins σ H s) (r : RelV x u) (h : Rep.has X.K H a x) : (srtKind α X.K H).keyOf u = some a := by
  have e : ∃ a : α, ∃ x, RelV x u ∧ Rep.has X.K H a x := ⟨a, x, r, h⟩
  unfold srtKind
  dsimp only
  rw [dif_pos e]
  obtain ⟨y, ry, hy⟩ := Classical.choose_spec e
  have z := ry.inj r
  subst z
  exact congrArg some (Rep.inj I hy h)
theorem keyOf_some {K : PySem.W.Frag} {H : Hp} {a : α} {u : Value} (h : (srtKind α K H).keyOf u = some a) : ∃ x, RelV x u ∧ Rep.has K H a x := by
  unfold srtKind at h
  dsimp only at h
  split at h
  · rename_i e
    cases h
    exact Classical.choose_spec e
  · cases h
def sortD (as : List α) : List α := as.mergeSort fun a b => !Srt.blt b a
theorem sortD_perm (as : List α) : (sortD as).Perm as := List.mergeSort_perm _ _
theorem sortD_mem {as : List α} {a : α} : a ∈ sortD as ↔ a ∈ as := (sortD_perm as).mem_iff
theorem sortD_length (as : List α) : (sortD as).length = as.length := (sortD_perm as).length_eq
theorem blt_asymm {a b : α} (h : Srt.blt a b = true) : Srt.blt b a = false := by
  cases e : Srt.blt b a with
  | false => rfl
  | true =>
    have := Srt.trans _ _ _ h e
    rw [Srt.irrefl] at this
    cases this
theorem sortD_up (as : List α) : (sortD as).Pairwise fun a b => Srt.blt b a = false := by
  have h := List.pairwise_mergeSort (le := fun a b : α => !Srt.blt b a) (fun a b c h1 h2 => by
    simp only [Bool.not_eq_true'] at h1 h2 ⊢
    cases e : Srt.blt c a with
    | false => rfl
    | true =>
      rcases Srt.negTrans c b a e with z | z
      · rw [h2] at z; cases z
      · rw [h1] at z; cases z) (fun a b => by
    cases e : Srt.blt b a with
    | false => rfl
    | true => rw [blt_asymm e]; rfl) as
  exact h.imp fun {a b} z => by simpa using z
theorem sortD_is {as bs : List α} (hp : bs.Perm as) (hs : bs.Pairwise fun a b => Srt.blt b a = false) : bs = sortD as :=
  List.Perm.eq_of_pairwise (fun a b _ _ h1 h2 => Srt.total a b h2 h1) hs (sortD_up as) (hp.trans (sortD_perm as).symm)
theorem sortD_rise {as : List α} (hn : as.Nodup) : (sortD as).Pairwise fun a b => Srt.blt a b = true := by
  have h1 := sortD_up as
  have h2 : (sortD as).Nodup := (sortD_perm as).nodup_iff.mpr hn
  refine (h1.and h2).imp fun {a b} z => ?_
  cases e : Srt.blt a b with
  | true => rfl
  | false => exact absurd (Srt.total a b e z.1) z.2
theorem lift_vals {K : PySem.W.Frag} {H : Hp} : ∀ {out : List Value}, (∀ v ∈ out, ∃ a : α, ∃ x, RelV x v ∧ Rep.has K H a x ∧ (srtKind α K H).keyOf v = some a) →
    ∃ (ws : List V) (bs : List α), Vals ws out ∧ HasAll K H bs ws ∧ bs = out.map (Tim.keyV (srtKind α K H))
  | [], _ => ⟨[], [], .nil, .nil, rfl⟩
  | v :: out, h => by
    obtain ⟨ws, bs, h1, h2, h3⟩ := lift_vals (out := out) fun u hu => h u (List.mem_cons_of_mem _ hu)
    obtain ⟨a, x, r, e, k⟩ := h v List.mem_cons_self
    refine ⟨x :: ws, a :: bs, .cons r h1, .cons e h2, ?_⟩
    rw [List.map_cons, ← h3]
    have z : Tim.keyV (srtKind α K H) v = a := by
      unfold Tim.keyV
      rw [k]
      rfl
    rw [z]
    rfl
theorem keys_of {X : Cx} {pins : List (Addr × Obj)} {σ : St} {H : Hp} {s : Shared} (I : Inv X pins σ H s) : ∀ {as : List α} {xs : List V} {us : List Value}, HasAll X.K H as xs → Vals xs us → us.map (Tim.keyV (srtKind α X.K H)) = as ∧ ∀ v ∈ us, ∃ a : α, ∃ x, RelV x v ∧ Rep.has X.K H a x ∧ (srtKind α X.K H).keyOf v = some a
  | _, _, _, .nil, .nil => ⟨rfl, fun _ z => nomatch z⟩
  | _, _, _, .cons e t, .cons r q => by
    obtain ⟨h1, h2⟩ := keys_of I t q
    have k := keyOf_is I r e
    refine ⟨?_, fun v hv => ?_⟩
    · rw [List.map_cons, h1]
      unfold Tim.keyV
      rw [k]
      rfl
    · rcases List.mem_cons.mp hv with z | z
      · subst z
        exact ⟨_, _, r, e, k⟩
      · exact h2 v z
end
def rSortD (α : Type) [Rep α] [Srt α] (K : PySem.W.Frag) : List V → Hp → VK → Prop := fun xs H Q => ∃ (p : Addr) (vs : List V) (as : List α), xs = [.ref p] ∧ SqL K H p vs ∧ HasAll K H as vs ∧
  ∀ l ws, H l = none → HasAll K H (sortD as) ws → Q (.ref l) (upd H l (.lst ws))
section
variable {X : Cx}
theorem call_sortD (α : Type) [Rep α] [Srt α] : CallR X (.builtin "sorted") (rSortD α X.K) := by
  intro pins s σ H xs us Q I r h
  obtain ⟨p, vs, as, rfl, hq, ha, q⟩ := h
  obtain ⟨u, rfl, rx⟩ := vals1 r
  cases rx
  obtain ⟨its, rv, pl, hz⟩ := I.list hq
  have hlen := rv.length
  obtain ⟨km, kk⟩ := keys_of I ha rv
  refine Tim.sorted_G (κ := srtKind α X.K H) (kd := Srt.kd α) pl.isList (by (first | lia | omega)) (fun v hv => ?_) (fun h' k E x y a b Q hx hy q => ?_) (fun h' E Q k h2 q => Srt.kind (Inv.kept (t' := s.toks) I k) ha rv h2 q) fun out h' c p1 p2 k hc => ?_
  · obtain ⟨a, _, _, _, e⟩ := kk v hv
    exact ⟨a, e⟩
  · obtain ⟨x1, r1, e1⟩ := keyOf_some hx
    obtain ⟨y1, r2, e2⟩ := keyOf_some hy
    exact Srt.lt (Inv.kept (t' := s.toks) I k) e1 e2 r1 r2 q
  · obtain ⟨ws, bs, w1, w2, w3⟩ := lift_vals (α := α) (K := X.K) (H := H) (out := out) fun v hv => kk v (p1.mem_iff.mp hv)
    have eb : bs = sortD as := by
      refine sortD_is ?_ ?_
      · rw [w3, ← km]
        exact p1.map _
      · rw [w3]
        exact List.pairwise_map.mpr p2
    rw [eb] at w2
    have hw : ws.length ≤ sizeLine := by
      have := w1.length
      have := p1.length_eq
      (first | lia | omega)
    exact ⟨.ref (s.heap.objs.size + 1), _, I.laid (a := s.heap.objs.size + 1) (o := .lst ws) (t' := s.toks) k (Nat.le_succ _) ⟨hw, out, c, w1, hc⟩, rfl, q _ ws (I.hok.fresh (Nat.le_succ _)) w2⟩
end
instance : Srt Int where
  blt := fun a b => decide (a < b)
  irrefl := fun a => by simp
  trans := fun a b c h1 h2 => by
    simp only [decide_eq_true_eq] at *
    (first | lia | omega)
  negTrans := fun a b c h => by
    simp only [decide_eq_true_eq] at *
    (first | lia | omega)
  total := fun a b h1 h2 => by
    simp only [decide_eq_false_iff_not] at *
    (first | lia | omega)
  kd := oneType'
  one := 0
  lt := fun {X pins σ H s A a b x y u v Q E} _ h1 h2 r1 r2 q => by
    have h1 : x = .int a := h1
    have h2 : y = .int b := h2
    subst h1 h2
    obtain ⟨t, rfl⟩ := r1
    obtain ⟨t', rfl⟩ := r2
    exact PySem.W.kat_lt_int q
  kind := fun {X pins σ H s A as xs us Q E} _ h r hl q => by
    have e := HasAll.toInts h
    subst e
    have hi : IntsAre us as := by
      clear q hl
      induction as generalizing us with
      | nil => cases r; exact .nil
      | cons a as ih =>
        cases r with
        | cons r1 r2 =>
          obtain ⟨t, rfl⟩ := r1
          exact .cons a t (ih (by first | exact HasAll.ints | assumption) r2)
    match us, hl, hi with
    | v₁ :: v₂ :: rest, _, hi =>
      rw [keyKind_ints hi]
      exact wpAny_pure q
def pLt (a b : Int × Int) : Bool := decide (a.1 < b.1) || (decide (a.1 = b.1) && decide (a.2 < b.2))
theorem pLt_iff {a b : Int × Int} : pLt a b = true ↔ a.1 < b.1 ∨ (a.1 = b.1 ∧ a.2 < b.2) := by
  unfold pLt
  simp
theorem pLt_not {a b : Int × Int} : pLt a b = false ↔ ¬ (a.1 < b.1 ∨ (a.1 = b.1 ∧ a.2 < b.2)) := by
  rw [← pLt_iff]
  simp
theorem pair_obj {X : Cx} {pins : List (Addr × Obj)} {σ : St} {H : Hp} {s : Shared} {a : Int × Int} {x : V} {u : Value} (I : Inv X pins σ H s) (h : Rep.has X.K H a x) (r : RelV x u) :
    ∃ (p : Addr) (o : Obj) (n : Nat) (t t' : Tok), u = .ref p ∧ s.heap.get? p = some o ∧ o.cls = .type "tuple" ∧ o.data = .seq #[.int a.1 t, .int a.2 t'] n := by
  obtain ⟨p, x1, x2, rfl, q, e1, e2⟩ := (show hasP X.K H a x from h)
  have e1 : x1 = .int a.1 := e1
  have e2 : x2 = .int a.2 := e2
  subst e1 e2
  cases r
  obtain ⟨us, ru, pu, _⟩ := I.tuple (SqT.of q)
  obtain ⟨u1, u2, rfl, ⟨t, rfl⟩, ⟨t', rfl⟩⟩ := vals2 ru
  obtain ⟨o, ho, hc, n, hd⟩ := pu
  exact ⟨p, o, n, t, t', rfl, ho, hc, hd⟩
theorem one_lt {prog : Program} {w : World} {A : Around} {E : Value → Shared → Prop} {s : Shared} {x y : Int} {t u : Tok} {Q : Bool → Shared → Prop} (b : Bool) (h : Q (decide (x < y)) s) : wpAny (model prog w) A (oneLt' b (.int x t) (.int y u)) Q E s := by
  cases b with
  | true =>
    rw [← keyLt'_oneType]
    exact PySem.W.kat_lt_int h
  | false => exact PySem.W.kat_one _ _ (lt_int h)
instance : Srt (Int × Int) where
  blt := pLt
  irrefl := fun a => by rw [pLt_not]; (first | lia | omega)
  trans := fun a b c h1 h2 => by
    rw [pLt_iff] at *
    (first | lia | omega)
  negTrans := fun a b c h => by
    rw [pLt_iff] at *
    rw [pLt_iff]
    (first | lia | omega)
  total := fun a b h1 h2 => by
    rw [pLt_not] at *
    obtain ⟨a1, a2⟩ := a
    obtain ⟨b1, b2⟩ := b
    have : a1 = b1 ∧ a2 = b2 := by dsimp only at *; (first | lia | omega)
    rw [this.1, this.2]
  kd := tuples' true
  one := (0, 0)
  lt := fun {X pins σ H s A a b x y u v Q E} I h1 h2 r1 r2 q => by
    obtain ⟨p, o, n, t1, t2, rfl, ho, hc, hd⟩ := pair_obj I h1 r1
    obtain ⟨p', o', n', t3, t4, rfl, ho', hc', hd'⟩ := pair_obj I h2 r2
    refine PySem.W.kat_lt ho hd ho' hd' ?_
    show PySem.W.KatLex X.prog X.w A true _ Q [(.int a.1 t1, .int b.1 t3), (.int a.2 t2, .int b.2 t4)] 0 s
    refine PySem.W.kat_cons (EqAt.int_int a.1 t1 b.1 t3 _ _ _ _ (PySem.W.kat_go (fun e => PySem.W.kat_yes ?_) (fun e => PySem.W.kat_no ?_)))
    · have e1 : a.1 = b.1 := eq_of_beq e
      refine PySem.W.kat_cons (EqAt.int_int a.2 t2 b.2 t4 _ _ _ _ (PySem.W.kat_go (fun e => PySem.W.kat_yes (PySem.W.kat_nil ?_)) (fun e => PySem.W.kat_no (one_lt _ ?_))))
      · have e2 : a.2 = b.2 := eq_of_beq e
        have z : pLt a b = false := by rw [pLt_not]; (first | lia | omega)
        rw [z] at q
        exact q
      · have z : pLt a b = decide (a.2 < b.2) := by
          unfold pLt
          rw [decide_eq_false (by (first | lia | omega) : ¬ a.1 < b.1), decide_eq_true e1]
          rfl
        rw [z] at q
        exact q
    · have e1 : ¬ a.1 = b.1 := fun z => by rw [z] at e; simp at e
      refine one_lt _ ?_
      have z : pLt a b = decide (a.1 < b.1) := by
        unfold pLt
        rw [decide_eq_false e1]
        simp
      rw [z] at q
      exact q
  kind := fun {X pins σ H s A as xs us Q E} I h r hl q => by
    have go : ∀ {as : List (Int × Int)} {xs : List V} {us : List Value}, HasAll X.K H as xs → Vals xs us → ∃ fs, PySem.W.KatTups s.heap us fs ∧ fs.length = us.length ∧ ∀ v ∈ fs, ∃ i t, v = Value.int i t := by
      intro as
      induction as with
      | nil =>
        intro xs us h r
        cases h
        cases r
        exact ⟨[], .nil, rfl, fun _ z => nomatch z⟩
      | cons a as ih =>
        intro xs us h r
        cases h with
        | cons h1 h2 =>
          cases r with
          | cons r1 r2 =>
            obtain ⟨fs, f1, f2, f3⟩ := ih h2 r2
            obtain ⟨p, o, n, t, t', rfl, ho, hc, hd⟩ := pair_obj I h1 r1
            refine ⟨.int a.1 t :: fs, PySem.W.KatTups.cons ho hc hd rfl f1, by rw [List.length_cons, List.length_cons, f2], fun v hv => ?_⟩
            rcases List.mem_cons.mp hv with z | z
            · exact ⟨_, _, z⟩
            · exact f3 v z
    obtain ⟨fs, f1, f2, f3⟩ := go h r
    refine PySem.W.kat_kind (T := .type "int") f1 (by (first | lia | omega)) (fun v hv => ?_) (by decide) ?_
    · obtain ⟨i, t, rfl⟩ := f3 v hv
      exact PySem.W.Looks.of_pure rfl
    · exact q
def rListD (K : PySem.W.Frag) : List V → Hp → VK → Prop := fun xs H Q => ∃ (p : Addr) (kvs : List (List Key × V)), xs = [.ref p] ∧ Rd H p (.dT kvs) ∧
  ∀ l bs, H l = none → Paired (fun (kv : List Key × V) (b : Addr) => H b = some (.tup (kv.1.map kV))) kvs bs → Q (.ref l) (upd H l (.lst (bs.map V.ref)))
section
variable {X : Cx}
end
end L2
namespace L2
open PySem PySem.Spec PyProof.Rows
section
variable {X : Cx}
theorem pe_globI {x : Str} {i : Int} {pos : Pos} (hg : Gl X x) (hm : ∃ t, X.mg x = some (.int i t)) (hd : (x == ("__debug__" : Str)) = false := by decide) : PE X (.Name x pos) (tC (.int i)) := by
  obtain ⟨t, e⟩ := hm
  exact pe_glob hg e ⟨t, rfl⟩ hd
end
theorem comp_list {K : PySem.W.Frag} {a D : Addr} {xs : List V} {g : TG} {ts : TT} {te : TE} {σ : St} {H : Hp} {Q : Hp → Prop} (Pv : Nat → St → Hp → Prop) (h0 : Pv 0 σ H) (hl : ∀ i σ H, i ≤ xs.length → Pv i σ H → SqL K H a xs)
    (hs : ∀ i m x σ H, xs[i]? = some x → i + m = xs.length → Pv i σ H → g x σ H fun σ2 H2 => ts σ2 H2 fun b H3 => if b = true then te σ2 H3 fun y H4 => ∃ zs, H4 D = some (.lst zs) ∧ zs.length < sizeLine ∧ ∃ m', m' < m ∧ (i + 1 + m' = xs.length ∧ Pv (i + 1) σ2 (upd H4 D (.lst (zs ++ [y])))) else ∃ m', m' < m ∧ (i + 1 + m' = xs.length ∧ Pv (i + 1) σ2 H3))
    (hd : ∀ σ H, Pv xs.length σ H → Q H) :
    ∃ W : Nat → Nat → St → Hp → Prop, (∃ m, W 0 m σ H) ∧ ∀ i m σ H, W i m σ H → ((Itl K a).stop i H ∧ Q H) ∨ ((Itl K a).go i H ∧ ∀ x H', (Itl K a).yld i H x H' → g x σ H' fun σ2 H2 => ts σ2 H2 fun b H3 => if b = true then te σ2 H3 fun y H4 => ∃ xs, H4 D = some (.lst xs) ∧ xs.length < sizeLine ∧ ∃ m', m' < m ∧ W (i + 1) m' σ2 (upd H4 D (.lst (xs ++ [y]))) else ∃ m', m' < m ∧ W (i + 1) m' σ2 H3) := by
  refine ⟨fun i m σ H => i + m = xs.length ∧ Pv i σ H, ⟨xs.length, by (first | lia | omega), h0⟩, fun i m σ H ⟨e, pv⟩ => ?_⟩
  have hS := hl i σ H (by (first | lia | omega)) pv
  by_cases hi : i < xs.length
  · refine .inr ⟨⟨xs, xs[i], hS, List.getElem?_eq_getElem hi⟩, fun x H' y => ?_⟩
    obtain ⟨e1, y⟩ := y
    subst e1
    exact hs i m x σ _ (y xs hS) e pv
  · have : i = xs.length := by (first | lia | omega)
    subst this
    exact .inl ⟨⟨xs, hS, Nat.le_refl _⟩, hd σ H pv⟩
theorem comp_range {lo : Int} {n : Nat} {D : Addr} {g : TG} {ts : TT} {te : TE} {σ : St} {H : Hp} {Q : Hp → Prop} (Pv : Nat → St → Hp → Prop) (h0 : Pv 0 σ H)
    (hs : ∀ i m σ H, i + m = n → i < n → Pv i σ H → g (.int (lo + i)) σ H fun σ2 H2 => ts σ2 H2 fun b H3 => if b = true then te σ2 H3 fun y H4 => ∃ zs, H4 D = some (.lst zs) ∧ zs.length < sizeLine ∧ ∃ m', m' < m ∧ (i + 1 + m' = n ∧ Pv (i + 1) σ2 (upd H4 D (.lst (zs ++ [y])))) else ∃ m', m' < m ∧ (i + 1 + m' = n ∧ Pv (i + 1) σ2 H3))
    (hd : ∀ σ H, Pv n σ H → Q H) :
    ∃ W : Nat → Nat → St → Hp → Prop, (∃ m, W 0 m σ H) ∧ ∀ i m σ H, W i m σ H → ((Itr lo n).stop i H ∧ Q H) ∨ ((Itr lo n).go i H ∧ ∀ x H', (Itr lo n).yld i H x H' → g x σ H' fun σ2 H2 => ts σ2 H2 fun b H3 => if b = true then te σ2 H3 fun y H4 => ∃ xs, H4 D = some (.lst xs) ∧ xs.length < sizeLine ∧ ∃ m', m' < m ∧ W (i + 1) m' σ2 (upd H4 D (.lst (xs ++ [y]))) else ∃ m', m' < m ∧ W (i + 1) m' σ2 H3) := by
  refine ⟨fun i m σ H => i + m = n ∧ Pv i σ H, ⟨n, by (first | lia | omega), h0⟩, fun i m σ H ⟨e, pv⟩ => ?_⟩
  by_cases hi : i < n
  · refine .inr ⟨hi, fun x H' y => ?_⟩
    obtain ⟨e1, y⟩ := y
    subst e1 y
    exact hs i m σ _ e hi pv
  · have : i = n := by (first | lia | omega)
    subst this
    exact .inl ⟨Nat.le_refl _, hd σ H pv⟩
end L2
namespace L2
open PySem PySem.Spec PyProof.Rows
def metI (ns : List Int) : List Int := firstMet (fun i => ns.getD i 0) ns.length
theorem range_getD : ∀ ns : List Int, (List.range ns.length).map (fun i => ns.getD i 0) = ns := fun ns => by
  apply List.ext_getElem?
  intro i
  rw [List.getElem?_map]
  by_cases h : i < ns.length
  · rw [List.getElem?_range h, Option.map_some, List.getD_eq_getElem?_getD, List.getElem?_eq_getElem h]
    rfl
  · rw [List.getElem?_eq_none (by rw [List.length_range]; (first | lia | omega)), List.getElem?_eq_none (by (first | lia | omega))]
    rfl
theorem dedup_nodup : ∀ (ns σ : List Int), (σ ++ ns).Nodup → ns.foldl step_dedup σ = σ ++ ns
  | [], σ, _ => by simp
  | n :: ns, σ, h => by
    have hn : ¬ (σ.any (· == n)) = true := fun z => by
      obtain ⟨x, hx, e⟩ := List.any_eq_true.mp z
      have e := eq_of_beq e
      subst e
      rw [List.nodup_append] at h
      exact h.2.2 x hx x List.mem_cons_self rfl
    rw [List.foldl_cons]
    have e : step_dedup σ n = σ ++ [n] := by
      unfold step_dedup
      rw [if_neg hn]
    rw [e, dedup_nodup ns (σ ++ [n]) (by rw [List.append_assoc]; exact h), List.append_assoc]
    rfl
theorem metI_nodup {ns : List Int} (h : ns.Nodup) : metI ns = ns := by
  unfold metI firstMet
  rw [range_getD]
  exact dedup_nodup ns [] h
theorem vals_intsAre : ∀ {ns : List Int} {us : List Value}, Vals (ns.map V.int) us → IntsAre us ns
  | [], _, .nil => .nil
  | n :: _, _, .cons ⟨t, e⟩ q => by
    subst e
    exact .cons n t (vals_intsAre q)
def rSetI (K : PySem.W.Frag) : List V → Hp → VK → Prop := fun xs H Q => ∃ (p : Addr) (ns : List Int), xs = [.ref p] ∧ SqL K H p (ns.map V.int) ∧ ns.length ≤ 1000 ∧
  ∀ l, H l = none → Q (.ref l) (upd H l (.set (fun k => (metI ns).any (· == k)) (metI ns).length))
section
variable {X : Cx}
theorem call_setI (hc : X.calm = true) : CallR X (.type "set") (rSetI X.K) := by
  intro pins s σ H xs us Q I r h
  obtain ⟨p, ns, rfl, hq, hz, q⟩ := h
  obtain ⟨u, rfl, rx⟩ := vals1 r
  cases rx
  obtain ⟨its, rv, pl, _⟩ := I.list hq
  have hl := rv.length
  rw [List.length_map] at hl
  refine call_set_list (ns := ns) (I.ok.hd hc) pl.isList (by simpa using vals_intsAre rv) (by unfold scanBound; simp only [List.size_toArray]; (first | lia | omega)) fun h' tk hS hk => ?_
  have e : its.toArray.size = ns.length := by simp only [List.size_toArray]; (first | lia | omega)
  rw [e] at hS
  exact ⟨.ref s.heap.objs.size, _, I.laid (a := s.heap.objs.size) (o := .set _ _) (t' := tk) (fun b o eb => hk b o (Heap.lt_size eb) eb) (Nat.le_refl _) hS, rfl, q _ (I.hok.fresh (Nat.le_refl _))⟩
theorem call_len_S : CallR X (.builtin "len") (fun xs H Q => ∃ p S n, xs = [.ref p] ∧ H p = some (.set S n) ∧ n ≤ 1000 ∧ Q (.int (n : Nat)) H) := by
  intro pins s σ H xs us Q I r h
  obtain ⟨p, S, n, rfl, hp, hn, q⟩ := h
  obtain ⟨u, rfl, rx⟩ := vals1 r
  cases rx
  have ok : s.heap.SetOf (intKind X.prog X.w) p S n := I.hok p _ hp
  obtain ⟨o, ho, hex, es, ep, t, hd, _, _, hm, hf⟩ := ok.objOf
  subst hm
  exact call_len_set ho hex hd hf (by (first | lia | omega)) ⟨.int _, H, I.tok _, ⟨_, rfl⟩, q⟩
end
end L2
namespace L2
open PySem PySem.Spec PyProof.Rows
section
variable {X : Cx}
end
end L2
namespace L2
theorem iteYes {i : Nat} {x : V} {σ : St} {H : Hp} {A B : St → Hp → Prop} (h : A (σ.set i (some x)) H) : gName i x σ H fun σ2 H2 => tYes σ2 H2 fun b H3 => if b = true then A σ2 H3 else B σ2 H3 := by
  show (if true = true then A (σ.set i (some x)) H else B (σ.set i (some x)) H)
  rw [if_pos rfl]
  exact h
end L2
namespace L2
open PySem PySem.Spec PyProof.Rows
theorem vals_bools : ∀ {bs : List Bool} {us : List Value}, Vals (bs.map V.bl) us → us = bs.map Value.bool
  | [], _, .nil => rfl
  | b :: _, _, .cons e q => by
    have e : _ = Value.bool b := e
    rw [e, vals_bools q]
    rfl
section
variable {X : Cx}
theorem call_allB (hc : X.calm = true) : CallR X (.builtin "all") (fun xs H Q => ∃ (p : Addr) (bs : List Bool), xs = [.ref p] ∧ SqL X.K H p (bs.map V.bl) ∧ Q (.bl (bs.all id)) H) := by
  intro pins s σ H xs us Q I r h
  obtain ⟨p, bs, rfl, hq, q⟩ := h
  obtain ⟨u, rfl, rx⟩ := vals1 r
  cases rx
  obtain ⟨its, rv, pl, _⟩ := I.list hq
  have e := vals_bools rv
  subst e
  have hl := pl.isList
  have hlt : p < s.heap.objs.size := by obtain ⟨_, e, _⟩ := hl; exact Heap.lt_size e
  refine call_all_walk (wpAny_pyIter_list hl ?_)
  refine ⟨s.heap.objs.size, [s.heap.objs.size, p], [s.heap.objs.size], (bs.map Value.bool).toArray.size, _, _, fun i => (bs[i]?).getD true, rfl, Walks.list (A := X.A.in1) (I.ok.hd hc) _ p (Nat.ne_of_lt hlt) _,
    ⟨⟨_, Heap.get?_push_size _ rfl, rfl, rfl⟩, hl.push _⟩, fun i v s' Q' E' hP hQ => ?_, fun h' tk hk => ?_⟩
  · have hP : (bs.map Value.bool)[i]? = some v := by simpa using hP
    rw [List.getElem?_map] at hP
    cases e : bs[i]? with
    | none => rw [e] at hP; cases hP
    | some b =>
      rw [e] at hP
      cases hP
      simp only [e, Option.getD_some] at hQ
      exact wpAny_truthy_bool hQ
  · have e : ((List.range (bs.map Value.bool).toArray.size).all fun i => (bs[i]?).getD true) = bs.all id := by
      rw [List.size_toArray, List.length_map]
      exact PyProof.Rows.LSm.range_all bs
    rw [e]
    have kk : ∀ b o, s.heap.get? b = some o → h'.get? b = some o := fun b o eb => hk b o (fun hm => by rw [List.mem_singleton.mp hm] at eb; exact Nat.lt_irrefl _ (Heap.lt_size eb)) (Heap.get?_push_of_some _ eb)
    have I' : Inv X pins σ H { s with heap := h', toks := tk } := I.kept (t' := tk) kk
    exact ⟨.bl _, H, I', rfl, q⟩
theorem call_sumI (hc : X.calm = true) : CallR X (.builtin "sum") (fun xs H Q => ∃ (p : Addr) (ns : List Int), xs = [.ref p] ∧ SqL X.K H p (ns.map V.int) ∧ Q (.int ns.sum) H) := by
  intro pins s σ H xs us Q I r h
  obtain ⟨p, ns, rfl, hq, q⟩ := h
  obtain ⟨u, rfl, rx⟩ := vals1 r
  cases rx
  obtain ⟨its, rv, pl, _⟩ := I.list hq
  have hi := vals_intsAre rv
  obtain ⟨xs, hx⟩ := hi.allInts.items
  have hl' : s.heap.IsList p (intItems xs) := hx ▸ pl.isList
  refine sum_intListG (I.ok.hd hc) hl' fun h' tk t' hk => ?_
  have e1 : ns = xs.toList.map (·.1) := by
    rw [← nums_intItems, ← hx]
    exact (show numsOf its.toArray.toList = ns from hi.numsOf).symm
  have e2 : preSum (numAt xs) xs.size = ns.sum := by
    rw [preSum_eq, List.take_of_length_le (by simp), e1]
  rw [e2]
  exact ⟨.int _, H, Inv.kept (t' := tk) I hk, ⟨t', rfl⟩, q⟩
def tRev (K : PySem.W.Frag) (te : TE) (th : TO) : TE := fun σ H Q => te σ H fun x H1 => th σ H1 fun u H2 => ∃ a xs, x = .ref a ∧ u = some (-1) ∧ SqL K H2 a xs ∧ ∀ p, H2 p = none → Q (.ref p) (upd H2 p (.lst xs.reverse))
end
end L2
namespace L2
open PySem PySem.Spec PyProof.Rows
section
variable {X : Cx} {K : PySem.W.Frag}
theorem call_len_seqC (h : X.K = K := by rfl) : CallR X (.builtin "len") (fun xs H Q => ∃ p ys, xs = [.ref p] ∧ (SqL K H p ys ∨ SqT K H p ys) ∧ Q (.int ys.length) H) := by
  subst h
  exact call_len_seq
theorem call_isiC (h : X.K = K := by rfl) : CallR X (.builtin "isinstance") (rIsi K) := by
  subst h
  exact call_isi
end
end L2
namespace L2
open PySem PySem.Spec PyProof.Rows
section
variable {X : Cx}
def rInsert : V → List V → Hp → VK → Prop := fun x vs H Q => ∃ l xs i y, x = .ref l ∧ vs = [.int i, y] ∧ H l = some (.lst xs) ∧ 0 ≤ i ∧ i < 2 ^ 63 ∧ xs.length < sizeLine ∧ Q .non (upd H l (.lst (xs.take i.toNat ++ y :: xs.drop i.toNat)))
end
def MonoT (c : TT) : Prop := ∀ σ H Q Q', (∀ b H1, Q b H1 → Q' b H1) → c σ H Q → c σ H Q'
section
variable {X : Cx} {K : PySem.W.Frag}
theorem pg_tupC {es : List Expr} {k : Nat} {t : TGs} {n : Nat} {pos : Pos} (hc : X.calm = true) (h : PGs X es t) (hK : X.K = K := by rfl)
    (hn : (assignEach es X.env).length = n := by rfl) (hst : (assignEach es X.env).findIdx? (·.1) = none := by rfl) : PG X (.Tuple es k pos) (gTup K n t) := by
  subst hK
  exact pg_tup hc h hn hst
end
end L2
namespace L2
open PySem PySem.Spec PyProof.Rows
section
variable {X : Cx}
end
theorem comp_tup {K : PySem.W.Frag} {a D : Addr} {xs : List V} {g : TG} {ts : TT} {te : TE} {σ : St} {H : Hp} {Q : Hp → Prop} (Pv : Nat → St → Hp → Prop) (h0 : Pv 0 σ H) (hl : ∀ i σ H, i ≤ xs.length → Pv i σ H → SqT K H a xs)
    (hs : ∀ i m x σ H, xs[i]? = some x → i + m = xs.length → Pv i σ H → g x σ H fun σ2 H2 => ts σ2 H2 fun b H3 => if b = true then te σ2 H3 fun y H4 => ∃ zs, H4 D = some (.lst zs) ∧ zs.length < sizeLine ∧ ∃ m', m' < m ∧ (i + 1 + m' = xs.length ∧ Pv (i + 1) σ2 (upd H4 D (.lst (zs ++ [y])))) else ∃ m', m' < m ∧ (i + 1 + m' = xs.length ∧ Pv (i + 1) σ2 H3))
    (hd : ∀ σ H, Pv xs.length σ H → Q H) :
    ∃ W : Nat → Nat → St → Hp → Prop, (∃ m, W 0 m σ H) ∧ ∀ i m σ H, W i m σ H → ((Itt K a).stop i H ∧ Q H) ∨ ((Itt K a).go i H ∧ ∀ x H', (Itt K a).yld i H x H' → g x σ H' fun σ2 H2 => ts σ2 H2 fun b H3 => if b = true then te σ2 H3 fun y H4 => ∃ xs, H4 D = some (.lst xs) ∧ xs.length < sizeLine ∧ ∃ m', m' < m ∧ W (i + 1) m' σ2 (upd H4 D (.lst (xs ++ [y]))) else ∃ m', m' < m ∧ W (i + 1) m' σ2 H3) := by
  refine ⟨fun i m σ H => i + m = xs.length ∧ Pv i σ H, ⟨xs.length, by (first | lia | omega), h0⟩, fun i m σ H ⟨e, pv⟩ => ?_⟩
  have hS := hl i σ H (by (first | lia | omega)) pv
  by_cases hi : i < xs.length
  · refine .inr ⟨⟨xs, xs[i], hS, List.getElem?_eq_getElem hi⟩, fun x H' y => ?_⟩
    obtain ⟨e1, y⟩ := y
    subst e1
    exact hs i m x σ _ (y xs hS) e pv
  · have : i = xs.length := by (first | lia | omega)
    subst this
    exact .inl ⟨⟨xs, hS, Nat.le_refl _⟩, hd σ H pv⟩
end L2
namespace L2
open PySem PySem.Spec PyProof.Rows
def Itv (K : PySem.W.Frag) (a : Addr) (n : Nat) : It :=
  ⟨fun i H => i < n ∧ ∃ xs, SqL K H a xs ∧ xs.length = n, fun i H x H' => H' = H ∧ ∀ xs, SqL K H a xs → xs.length = n → xs.reverse[i]? = some x, fun i _ => i = n⟩
def iRev (K : PySem.W.Frag) (ta : TA) : TI := fun σ H R => ta σ H fun vs H1 => ∃ a xs, vs = [.ref a] ∧ SqL K H1 a xs ∧ R (Itv K a xs.length) H1
section
variable {X : Cx}
end
section
variable {prog : Program} {w : World} {A : Around} {E : Value → Shared → Prop} {s : Shared}
end
def tListRev (K : PySem.W.Frag) (ta : TA) : TE := fun σ H Q => ta σ H fun vs H1 => ∃ l xs, vs = [.ref l] ∧ SqL K H1 l xs ∧ ∀ p, H1 p = none → Q (.ref p) (upd H1 p (.lst xs.reverse))
section
variable {X : Cx}
def tListRange (ta : TA) : TE := fun σ H Q => ta σ H fun vs H1 => ∃ n : Nat, vs = [.int n] ∧ n ≤ 1000 ∧ ∀ p, H1 p = none → Q (.ref p) (upd H1 p (.lst ((List.range n).map fun i : Nat => V.int i)))
end
end L2
namespace L2
open PySem PySem.Spec PyProof.Rows
theorem rel_of_is {P : Program} {w : World} {k : Key} {u : Value} (h : (mixKind P w).is k u = true) : RelV (kV k) u := by
  rw [mixKind_is] at h
  rcases keyIs_shape h with ⟨i, t, rfl, rfl⟩ | ⟨x, t, rfl, rfl⟩
  · exact ⟨t, rfl⟩
  · exact ⟨t, rfl⟩
section
variable {X : Cx}
theorem call_listK (hc : X.calm = true) : CallR X (.type "list") (fun xs H Q => ∃ (p : Addr) (kvs : List (Key × V)), xs = [.ref p] ∧ H p = some (.dK kvs) ∧ ∀ l, H l = none → Q (.ref l) (upd H l (.lst (kvs.map fun kv => kV kv.1)))) := by
  intro pins s σ H xs us Q I r h
  obtain ⟨p, kvs, rfl, hq, q⟩ := h
  obtain ⟨u, rfl, rx⟩ := vals1 r
  cases rx
  obtain ⟨hz, hne, vs, rel, o, es, ep, h1, h2, h3, h4, h5, h6⟩ := dk_of I.hok hq
  have hlen : kvs.length = vs.length := rel.length
  refine PySem.W.kdl_call (PySem.W.kdl_dict (knd := mixKind X.prog X.w) (kvs := vs) (ep := ep) hne) (I.ok.hd hc) ⟨o, es, h1, h2, h3, h4, h5, h6⟩ (by (first | lia | omega)) fun h' tk acc c k e hi => ?_
  have hv : Vals (kvs.map fun kv => kV kv.1) acc.toList := by
    obtain ⟨g1, g2⟩ := hi
    have key : ∀ (m : Nat) (kvs : List (Key × V)) (vs : List (Key × Value)) (us : List Value), KV kvs vs → us.length = vs.length → (∀ (i : Nat) (v : Value), us[i]? = some v → ∃ k x, vs[i]? = some (k, x) ∧ (mixKind X.prog X.w).is k v = true) → Vals (kvs.map fun kv => kV kv.1) us := by
      intro m kvs
      induction kvs with
      | nil =>
        intro vs us r hl _
        cases r
        have : us = [] := List.eq_nil_of_length_eq_zero hl
        subst this
        exact .nil
      | cons kv kvs ih =>
        intro vs us r hl hh
        cases r with
        | cons a b =>
          cases us with
          | nil => cases hl
          | cons v us =>
            refine .cons ?_ (ih _ us b (Nat.succ.inj hl) fun i v e => ?_)
            · obtain ⟨k, x, e1, e2⟩ := hh 0 v rfl
              cases e1
              have h9 := rel_of_is e2
              have a1 : kv.1 = k := a.1
              rw [← a1] at h9
              exact h9
            · have := hh (i + 1) v (by simpa using e)
              simpa using this
    refine key 0 kvs vs acc.toList rel (by rw [Array.length_toList]; exact g1) fun i v e => ?_
    exact g2 i v (by rw [← Array.getElem?_toList]; exact e)
  refine ⟨.ref s.heap.objs.size, _, I.laid (a := s.heap.objs.size) (o := .lst (kvs.map fun kv => kV kv.1)) (t' := tk) k (Nat.le_refl _) ⟨?_, acc.toList, c, hv, by rw [Array.toArray_toList]; exact e⟩, rfl, q _ (I.hok.fresh (Nat.le_refl _))⟩
  rw [List.length_map]
  (first | lia | omega)
end
def Itd (a : Addr) : It :=
  ⟨fun i H => ∃ kvs, H a = some (.dK kvs) ∧ i < kvs.length, fun i H x H' => H' = H ∧ ∀ kvs, H a = some (.dK kvs) → (kvs.map fun kv => kV kv.1)[i]? = some x, fun i H => ∃ kvs, H a = some (.dK kvs) ∧ i = kvs.length⟩
end L2
namespace L2
open PySem PySem.Spec PyProof.Rows
def iSeq (K : PySem.W.Frag) (tl : TE) : TI := fun σ H R => tl σ H fun x H1 => ∃ a, x = .ref a ∧ ((∃ xs, SqL K H1 a xs) ∧ R (Itl K a) H1 ∨ (∃ xs, SqT K H1 a xs) ∧ R (Itt K a) H1)
section
variable {X : Cx} {tg : Expr}
theorem pi_seq {l : Expr} {tl : TE} (hl : PE X l tl) : PI X tg l (iSeq X.K tl) := by
  intro pins s σ H R I h
  refine thn (hl pins s σ H _ I h) fun v s1 ⟨x, H1, I1, r1, a, e, q1⟩ => ?_
  subst e
  cases r1
  have new : ∀ b ∈ [s1.heap.objs.size], FpOk X pins H1 b := fun b hb => by
    rw [List.mem_singleton.mp hb]
    exact I1.fpOk (Nat.le_refl _) (I1.hok.fresh (Nat.le_refl _))
  rcases q1 with ⟨⟨xs, hq⟩, q⟩ | ⟨⟨xs, hq⟩, q⟩
  · obtain ⟨its, rv, p, hz⟩ := I1.list hq
    exact wpAny_pyIter_list p.isList ⟨s1.heap.objs.size, [s1.heap.objs.size], _, _, H1, rfl, Inv.kept (t' := s1.toks) I1 (fun b o e => Heap.get?_push_of_some _ e), turn_list a _, ⟨_, Heap.get?_push_size _ rfl, rfl, rfl⟩, new, q⟩
  · obtain ⟨its, rv, p, hz⟩ := I1.tuple hq
    exact wpAny_pyIter_tuple (show s1.heap.IsTuple a its.toArray from p) ⟨s1.heap.objs.size, [s1.heap.objs.size], _, _, H1, rfl, Inv.kept (t' := s1.toks) I1 (fun b o e => Heap.get?_push_of_some _ e), turn_tuple a _, ⟨_, Heap.get?_push_size _ rfl, rfl, rfl⟩, new, q⟩
end
section
variable {prog : Program} {w : World} {A : Around} {E : Value → Shared → Prop} {s : Shared}
theorem collect_tup {l : Addr} {vs : List Value} {Q : List Value → Shared → Prop} (hl : s.heap.IsTuple l vs.toArray)
    (h : Q vs { s with heap := (s.heap.push (seqObj "list" #[] 0)).update s.heap.objs.size (Obj.mapSeq (· ++ vs.toArray)) }) (hsz : vs.length ≤ sizeLine) : wpAny (model prog w) A (collect (.ref l)) Q E s := by
  obtain ⟨o, ho, hc, n, hd⟩ := id hl
  unfold collect
  refine wpAny_bind (wpAny_runValue (codeAny_builtin entry_proto_collect' ?_))
  show wpAny _ _ (do again (.builtin "list.__iadd__" ⟨[← newList [], .ref l], []⟩)) _ _ s
  refine wpAny_bind (wpAny_newList (wpAny_pure ⟨Code.quiet_builtin _ (by decide +kernel), codeAny_builtin entry_list_iadd' ?_⟩))
  show wpAny _ _ (Builtin.List.listExtendWith (.ref s.heap.objs.size) (.ref l) (.ref s.heap.objs.size)) _ _ { s with heap := s.heap.push (seqObj "list" #[] 0) }
  unfold Builtin.List.listExtendWith
  have there : (s.heap.push (seqObj "list" #[] 0)).get? l = some o := Heap.get?_push_of_some _ ho
  refine wpAny_bind (wpAny_typeOf (T := "tuple") ⟨o, there, hc⟩ ?_)
  have ht : (Value.type "tuple" == Value.type "tuple") = true := rfl
  rw [if_pos (by rw [ht, Bool.or_true])]
  refine wpAny_bind (listItems_at there hd ?_)
  refine wpAny_bind (listItems_at (xs := #[]) (n := 0) (Heap.get?_push_size _ rfl) rfl ?_)
  rw [if_neg (by simp)]
  have fits : (#[] ++ vs.toArray).size ≤ sizeLine + 1 := by
    simp only [Array.size_append, List.size_toArray, List.length_nil]
    (first | lia | omega)
  refine wpAny_bind (listUpdate_at (xs := #[]) (n := 0) (Heap.get?_push_size _ rfl) rfl ?_ (Nat.zero_le _) fits)
  refine wpAny_pure ?_
  show wpAny (model prog w) A (load s.heap.objs.size >>= fun o => match o.data with | .seq xs _ => pure xs.toList | _ => unsupported "internal:collect") Q E { s with heap := (s.heap.push (seqObj "list" #[] 0)).update s.heap.objs.size (Obj.mapSeq (· ++ vs.toArray)) }
  refine wpAny_bind (wpAny_load (get?_update_seq (Heap.get?_push_size _ rfl) _) ?_)
  show wpAny _ _ (pure ((#[] : Array Value) ++ vs.toArray).toList) Q E _
  have e0 : ((#[] : Array Value) ++ vs.toArray).toList = vs := by simp
  rw [e0]
  exact wpAny_pure h
end
end L2
namespace Tim
open PySem PyProof.Rows
section
variable {prog : Program} {w : World} {A : Around} {E : Value → Shared → Prop} {s : Shared} {κ : KeyKind} {kd : SortKind}
theorem sorted_T {l : Addr} {vs : List Value} {Q : Value → Shared → Prop} (hl : s.heap.IsTuple l vs.toArray) (hz : vs.length ≤ sizeLine) (keys : ∀ v ∈ vs, ∃ k, κ.keyOf v = some k)
    (hlt : ∀ h', (∀ b o, s.heap.get? b = some o → h'.get? b = some o) → LtG prog w A.in1.in1 { s with heap := h' } κ kd)
    (hkd : ∀ (h' : Heap) (E : Value → Shared → Prop) (Q : SortKind → Shared → Prop), (∀ b o, s.heap.get? b = some o → h'.get? b = some o) → 2 ≤ vs.length → Q kd { s with heap := h' } → wpAny (model prog w) A.in1.in1 (keyKind' vs.toArray) Q E { s with heap := h' })
    (h : ∀ (out : List Value) (h' : Heap) (c : Nat), out.Perm vs → out.Pairwise (fun x y => κ.kle (keyV κ x) (keyV κ y)) → (∀ b o, s.heap.get? b = some o → h'.get? b = some o) →
      h'.get? (s.heap.objs.size + 1) = some (seqObj "list" out.toArray c) → Q (.ref (s.heap.objs.size + 1)) { s with heap := h' }) :
    wpAny (model prog w) A (call (.builtin "sorted") [.ref l]) Q E s := by
  refine Calls.call_function_entry kind_sorted plain_sorted entry_sorted (args_sorted1 _) ?_
  unfold Builtin.«sorted»
  refine wpAny_bind (m := checkCount "sorted" 1 1 _) (wpAny_pure ?_)
  refine wpAny_bind (L2.collect_tup hl ?_ hz)
  refine wpAny_bind (wpAny_newList ?_ (by simpa using hz))
  have z1 : ((s.heap.push (seqObj "list" #[] 0)).update s.heap.objs.size (Obj.mapSeq (· ++ vs.toArray))).objs.size = s.heap.objs.size + 1 := by
    rw [Heap.size_update, size_push']
  have hn : (((s.heap.push (seqObj "list" #[] 0)).update s.heap.objs.size (Obj.mapSeq (· ++ vs.toArray))).push (seqObj "list" vs.toArray 0)).get? (s.heap.objs.size + 1) = some (seqObj "list" vs.toArray 0) := by
    rw [← z1]
    exact Heap.get?_push_size _ rfl
  have hk : ∀ b o, s.heap.get? b = some o → (((s.heap.push (seqObj "list" #[] 0)).update s.heap.objs.size (Obj.mapSeq (· ++ vs.toArray))).push (seqObj "list" vs.toArray 0)).get? b = some o := fun b o e =>
    Heap.get?_push_of_some _ ((Heap.get?_update_other _ _ (Nat.ne_of_gt (Heap.lt_size e))).trans (Heap.get?_push_of_some _ e))
  show wpAny _ _ _ _ _ { s with heap := ((s.heap.push (seqObj "list" #[] 0)).update s.heap.objs.size (Obj.mapSeq (· ++ vs.toArray))).push (seqObj "list" vs.toArray 0) }
  rw [z1]
  generalize ((s.heap.push (seqObj "list" #[] 0)).update s.heap.objs.size (Obj.mapSeq (· ++ vs.toArray))).push (seqObj "list" vs.toArray 0) = h1 at hn hk ⊢
  have up : ∀ h', KeptBut (s.heap.objs.size + 1) h1 h' → ∀ b o, s.heap.get? b = some o → h'.get? b = some o := fun h' kb b o e => kb b o (fun z => by
    have := Heap.lt_size e
    rw [z] at this
    exact absurd this (Nat.not_lt.mpr (Nat.le_succ _))) (hk b o e)
  refine wpAny_bind (wpAny_holding (wpAny_call_entry slot_list_sort ⟨_, hn, rfl⟩ entry_list_sort (sort_G (s := { s with heap := h1 }) hn hz keys (fun h' kb => hlt h' (up h' kb)) (fun h' E Q kb h2 q => hkd h' E Q (up h' kb) h2 q) fun out p1 p2 => ⟨_, rfl, ?_⟩) (args_list_sort _)))
  obtain ⟨kb, c, hc⟩ := kept_sorted (out := out) hn
  exact wpAny_pure ⟨_, rfl, h out _ c p1 p2 (up _ kb) hc⟩
end
end Tim
namespace L2
open PySem PySem.Spec PyProof.Rows
section
variable {X : Cx}
def rSortT (α : Type) [Rep α] [Srt α] (K : PySem.W.Frag) : List V → Hp → VK → Prop := fun xs H Q => ∃ (p : Addr) (vs : List V) (as : List α), xs = [.ref p] ∧ SqT K H p vs ∧ HasAll K H as vs ∧
  ∀ l ws, H l = none → HasAll K H (sortD as) ws → Q (.ref l) (upd H l (.lst ws))
theorem call_sortT (α : Type) [Rep α] [Srt α] : CallR X (.builtin "sorted") (rSortT α X.K) := by
  intro pins s σ H xs us Q I r h
  obtain ⟨p, vs, as, rfl, hq, ha, q⟩ := h
  obtain ⟨u, rfl, rx⟩ := vals1 r
  cases rx
  obtain ⟨its, rv, pl, hz⟩ := I.tuple hq
  have hlen := rv.length
  obtain ⟨km, kk⟩ := keys_of I ha rv
  refine Tim.sorted_T (κ := srtKind α X.K H) (kd := Srt.kd α) (show s.heap.IsTuple p its.toArray from pl) (by (first | lia | omega)) (fun v hv => ?_) (fun h' k E x y a b Q hx hy q => ?_) (fun h' E Q k h2 q => Srt.kind (Inv.kept (t' := s.toks) I k) ha rv h2 q) fun out h' c p1 p2 k hc => ?_
  · obtain ⟨a, _, _, _, e⟩ := kk v hv
    exact ⟨a, e⟩
  · obtain ⟨x1, r1, e1⟩ := keyOf_some hx
    obtain ⟨y1, r2, e2⟩ := keyOf_some hy
    exact Srt.lt (Inv.kept (t' := s.toks) I k) e1 e2 r1 r2 q
  · obtain ⟨ws, bs, w1, w2, w3⟩ := lift_vals (α := α) (K := X.K) (H := H) (out := out) fun v hv => kk v (p1.mem_iff.mp hv)
    have eb : bs = sortD as := by
      refine sortD_is ?_ ?_
      · rw [w3, ← km]
        exact p1.map _
      · rw [w3]
        exact List.pairwise_map.mpr p2
    rw [eb] at w2
    have hw : ws.length ≤ sizeLine := by
      have := w1.length
      have := p1.length_eq
      (first | lia | omega)
    exact ⟨.ref (s.heap.objs.size + 1), _, I.laid (a := s.heap.objs.size + 1) (o := .lst ws) (t' := s.toks) k (Nat.le_succ _) ⟨hw, out, c, w1, hc⟩, rfl, q _ ws (I.hok.fresh (Nat.le_succ _)) w2⟩
end
section
variable {prog : Program} {w : World} {A : Around} {E : Value → Shared → Prop} {s : Shared}
theorem sub_tup_set : isSubtype (.type "tuple") (.type "set") = pure false := by rw [isSubtype_type]; kernel_rfl
theorem sub_tup_frozen : isSubtype (.type "tuple") (.type "frozenset") = pure false := by rw [isSubtype_type]; kernel_rfl
abbrev nuSet (led : Bool) : Obj := { cls := .type "set", dict := none, data := .set #[] 0 (.fresh 0 0 led) }
set_option maxRecDepth 100000 in
set_option maxHeartbeats 3200000 in
theorem set_of_tup {l : Addr} {items : Array Value} {ns : List Int} {Q : Value → Shared → Prop} (hh : A.handled = none) (hl : s.heap.IsTuple l items) (hi : IntsAre items.toList ns) (hb : items.size + 1 < scanBound)
    (h : ∀ (h' : Heap) (tk : Nat), h'.SetOf (intKind prog w) s.heap.objs.size (fun k' => (firstMet (fun i => ns.getD i 0) items.size).any (· == k')) (firstMet (fun i => ns.getD i 0) items.size).length →
      (∀ b o, b < s.heap.objs.size → s.heap.get? b = some o → h'.get? b = some o) → Q (.ref s.heap.objs.size) { s with heap := h', toks := tk }) :
    wpAny (model prog w) A (call (.type "set") [.ref l]) Q E s := by
  obtain ⟨c, tl, hmro⟩ := F.called_set.mro
  have hmade := F.called_set.made
  have hsub := F.called_set.sub
  refine wpAny_call (codeAny_of_tree ?_)
  show wpAny _ _ (callAny (.type "set") _) _ _ _
  refine wpAny_pure ⟨Code.quiet_builtin _ (by decide +kernel), codeAny_builtin F.entry_type_call ?_⟩
  rw [Around.under_plain (weight_type_call_type "set" [.ref l] []) rfl]
  have h1 := F.called_set.notType
  have h2 := F.called_set.canCreate
  have hct := F.typeCall_set_1 (.ref l)
  repeat (any_goals (first | assumption | wp_step))
  refine codeAny_mono (code_set_new_1 (.ref l) (E := E) (Q₁ := fun obj s₁ => ∃ led : Bool, obj = .ref s.heap.objs.size ∧ s₁ = { s with heap := s.heap.push (nuSet led) }) fun led => ⟨led, rfl, rfl⟩) fun r s₁ hr => ?_
  cases r with
  | error e => exact hr
  | ok fl =>
    cases fl with
    | ret obj =>
      obtain ⟨led, rfl, rfl⟩ := hr
      have hS : (s.heap.push (nuSet led)).get? s.heap.objs.size = some (nuSet led) := Heap.get?_push_size _ rfl
      have hT : Shared.TypeIs { s with heap := s.heap.push (nuSet led) } (.ref s.heap.objs.size) "set" := ⟨_, hS, rfl⟩
      have hli := F.called_set.init.lookup
      have hbi := F.called_set.init.bind (.ref s.heap.objs.size)
      repeat (any_goals (first | assumption | wp_step))
      refine codeAny_mono (codeAny_call_builtin (R := wants (fun r s₂ => r = .none ∧ ∃ h' tk, s₂ = { s with heap := h', toks := tk } ∧
          h'.SetOf (intKind prog w) s.heap.objs.size (fun k' => (firstMet (fun i => ns.getD i 0) items.size).any (· == k')) (firstMet (fun i => ns.getD i 0) items.size).length ∧
          (∀ b o, b < s.heap.objs.size → s.heap.get? b = some o → h'.get? b = some o)) E) F.called_set.init.plain F.entry_set_init (check_set_init_1 hT ?_)) fun r₂ s₂ hr₂ => ?_
      · obtain ⟨ol, hol, hcl, nl, hdl⟩ := hl
        obtain ⟨ocls, odict, odata, oslots⟩ := ol
        simp only at hcl hdl
        subst hcl; subst hdl
        have there : (s.heap.push (nuSet led)).get? l = some { cls := .type "tuple", dict := odict, data := .seq items nl, slots := oslots } := Heap.get?_push_of_some _ hol
        have hsls := sub_tup_set
        have hslf := sub_tup_frozen
        have hne : (Value.type "tuple" == Value.type "dict") = false := by decide
        have hl1 : (s.heap.push (nuSet led)).IsTuple l items := ⟨_, there, rfl, nl, rfl⟩
        unfold Builtin.«set.__init__» noKeywords Builtin.Frozenset.updateFrom
        generalize hPI : pyIter = PI
        wp_walk
        subst hPI
        refine wpAny_pyIter_tuple hl1 ?_
        refine wpAny_bind (wpAny_runValue ?_)
        have hlS : l < s.heap.objs.size := Heap.lt_size hol
        have h3 : A.in1.in1.in1.handled = none := by simp [hh]
        have hsz : (s.heap.push (nuSet led)).objs.size = s.heap.objs.size + 1 := Heap.size_push ..
        have hneI : l ≠ (s.heap.push (nuSet led)).objs.size := by
          rw [hsz]
          exact Nat.ne_of_lt (Nat.lt_succ_of_lt hlS)
        have hSf : s.heap.objs.size ∉ [(s.heap.push (nuSet led)).objs.size, l] := by
          rw [hsz]
          simp only [List.mem_cons, List.not_mem_nil, or_false, not_or]
          exact ⟨Nat.ne_of_lt (Nat.lt_succ_self _), Nat.ne_of_gt hlS⟩
        have hval : ∀ (i : Nat) (v : Value), items[i]? = some v → ∃ t, v = .int ((fun i => ns.getD i 0) i) t := fun i v hv =>
          IntsAre.int_at hi i v (by rw [Array.getElem?_toList]; exact hv)
        refine codeAny_set_update_loopS ((Walks.tuple h3 _ l hneI items).toS) s.heap.objs.size
          hSf (fun i => ns.getD i 0) hval hb (items.size - 0) 0 _ (by (first | lia | omega)) (Nat.zero_le _)
          ⟨⟨_, Heap.get?_push_size _ rfl, rfl, rfl⟩, (hl1.push _)⟩ ?hS0 ?hR
        case hS0 =>
          exact SetOf_congr ((setObjOf_fresh (knd := intKind prog w) led).setOf (Heap.get?_push_of_some _ hS) (by unfold scanBound; (first | lia | omega))) (fun _ => rfl) rfl
        case hR =>
          intro s' hm hS'
          obtain ⟨h', g', d', tk', os'⟩ := s'
          have eg : g' = s.gens := hm.gens
          have ed : d' = s.drawn := hm.drawn
          have eo : os' = s.os := hm.os
          subst eg; subst ed; subst eo
          show wpAny _ _ _ _ _ _
          refine wpAny_pure ?_
          show wpAny _ _ (ret Value.none) _ _ _
          refine wpAny_pure ⟨rfl, h', tk', rfl, hS', fun b o hb e => ?_⟩
          refine hm.heap b o ?_ (Heap.get?_push_of_some _ (Heap.get?_push_of_some _ e))
          rw [hsz]
          simp only [List.mem_cons, List.not_mem_nil, or_false, not_or]
          exact ⟨Nat.ne_of_lt hb, Nat.ne_of_lt (Nat.lt_succ_of_lt hb)⟩
      · cases r₂ with
        | error e => exact hr₂
        | ok fl₂ =>
          cases fl₂ with
          | ret r =>
            obtain ⟨rfl, h', tk, rfl, hS', hk'⟩ := hr₂
            repeat (any_goals (first | assumption | wp_step))
            exact h _ _ hS' hk'
          | _ => exact hr₂.elim
    | _ => exact hr.elim
end
section
variable {X : Cx}
def rSetT (K : PySem.W.Frag) : List V → Hp → VK → Prop := fun xs H Q => ∃ (p : Addr) (ns : List Int), xs = [.ref p] ∧ SqT K H p (ns.map V.int) ∧ ns.length ≤ 1000 ∧
  ∀ l, H l = none → Q (.ref l) (upd H l (.set (fun k => (metI ns).any (· == k)) (metI ns).length))
theorem call_setT (hc : X.calm = true) : CallR X (.type "set") (rSetT X.K) := by
  intro pins s σ H xs us Q I r h
  obtain ⟨p, ns, rfl, hq, hz, q⟩ := h
  obtain ⟨u, rfl, rx⟩ := vals1 r
  cases rx
  obtain ⟨its, rv, pl, _⟩ := I.tuple hq
  have hl := rv.length
  rw [List.length_map] at hl
  refine set_of_tup (ns := ns) (I.ok.hd hc) (show s.heap.IsTuple p its.toArray from pl) (by simpa using vals_intsAre rv) (by unfold scanBound; simp only [List.size_toArray]; (first | lia | omega)) fun h' tk hS hk => ?_
  have e : its.toArray.size = ns.length := by simp only [List.size_toArray]; (first | lia | omega)
  rw [e] at hS
  exact ⟨.ref s.heap.objs.size, _, I.laid (a := s.heap.objs.size) (o := .set _ _) (t' := tk) (fun b o eb => hk b o (Heap.lt_size eb) eb) (Nat.le_refl _) hS, rfl, q _ (I.hok.fresh (Nat.le_refl _))⟩
theorem call_isiLT : CallR X (.builtin "isinstance") (fun xs H Q => ∃ a p, xs = [.ref a, .ref p] ∧ H p = some (.tup [.ty "list", .ty "tuple"]) ∧ ((∃ ys, H a = some (.lst ys)) ∨ ∃ ys, H a = some (.tup ys)) ∧ Q (.bl true) H) := by
  intro pins s σ H xs us Q I r h
  obtain ⟨a, p, rfl, hp, ha, q⟩ := h
  obtain ⟨u, w', rfl, r1, r2⟩ := vals2 r
  cases r1
  cases r2
  obtain ⟨_, its, rv, ⟨oc, od, odt, osl⟩, h1, h2, n, h3⟩ := (show ObjOk X.prog X.w H s.heap p (.tup [.ty "list", .ty "tuple"]) from I.hok p _ hp)
  have h2 : oc = .type "tuple" := h2
  have h3 : odt = .seq its.toArray n := h3
  subst h2 h3
  obtain ⟨c1, c2, rfl, e1, e2⟩ := vals2 rv
  have e1 : c1 = .type "list" := e1
  have e2 : c2 = .type "tuple" := e2
  subst e1 e2
  have fin : ∀ tk, (fun v s' => ∃ x H', Inv X pins σ H' s' ∧ RelV x v ∧ Q x H') (Value.bool true) { s with toks := tk } := fun tk => ⟨.bl true, H, I.tok tk, rfl, q⟩
  rcases ha with ⟨ys, ha⟩ | ⟨ys, ha⟩
  · obtain ⟨_, _, n, _, g1⟩ := (show ObjOk X.prog X.w H s.heap a (.lst ys) from I.hok a _ ha)
    exact PySem.W.kia_tup PySem.W.kitx_list I.kIn ⟨_, g1, rfl⟩ h1 (b := true) (by rfl) (fun z => nomatch z) fin
  · obtain ⟨_, _, _, o, g1, g2, _⟩ := (show ObjOk X.prog X.w H s.heap a (.tup ys) from I.hok a _ ha)
    exact PySem.W.kia_tup PySem.W.kitx_tuple I.kIn ⟨o, g1, g2⟩ h1 (b := true) (by rfl) (fun z => nomatch z) fin
end
def Itf (a : Addr) (o : Obj) (kvs : List (Key × V)) : It :=
  ⟨fun i H => H a = some (.frz o (.dK kvs)) ∧ i < kvs.length, fun i H x H' => H' = H ∧ (kvs.map fun kv => kV kv.1)[i]? = some x, fun i H => H a = some (.frz o (.dK kvs)) ∧ i = kvs.length⟩
def iDict (tl : TE) : TI := fun σ H R => tl σ H fun x H1 => ∃ a kvs, x = .ref a ∧ ((H1 a = some (.dK kvs) ∧ ∀ o, R (Itf a o kvs) (upd H1 a (.frz o (.dK kvs)))) ∨ ∃ o, H1 a = some (.frz o (.dK kvs)) ∧ R (Itf a o kvs) H1)
section
variable {X : Cx} {tg : Expr}
end
end L2
namespace HT
open PySem PySem.Spec PyProof.Rows
section
variable {prog : Program} {w : World} {A : Around} {E : Value → Shared → Prop} {s : Shared}
theorem getItem_tuple_all {t sl : Addr} {items : Array Value} {vl vu : Value} {lo hi : Option Int} {Q : Value → Shared → Prop} (ht : IsTup s.heap t items) (hs : s.heap.IsSliceOf sl vl vu .none) (pl : IsPart vl lo) (pu : IsPart vu hi)
    (hw : sIx items.size 0 lo = 0 ∧ sIx items.size items.size hi = items.size) (h : Q (.ref t) s) : wpAny (model prog w) A (getItem (.ref t) (.ref sl)) Q E s := by
  obtain ⟨os, hos, hcs, hds⟩ := id hs
  have hTs : s.TypeIs (.ref sl) "slice" := ⟨os, hos, hcs⟩
  unfold getItem
  try with_reducible refine wpAny_holding ?_
  first | refine wpAny_bind (wpAny_pure ?_) | skip
  refine wpAny_bind (wpAny_sequenceKey ht.typeIs (by decide) ?_)
  refine wpAny_bind (wpAny_callSpecial?_slot (name := Str.ofString "__getitem__") ht.typeIs PyProof.Rows.slot_tuple_getitem (wpAny_call_entry PyProof.Rows.slot_tuple_getitem ht.typeIs entry_tuple_getitem ?_ (args_tuple_getitem _ _)))
  show wpAny _ _ (Builtin.Tuple.tupleItemsOf (.ref t) >>= _) _ _ s
  refine wpAny_bind (tupleItemsOf_ ht ?_)
  refine wpAny_bind (wpAny_typeOf hTs ?_)
  rw [if_pos (by decide)]
  refine wpAny_bind (sliceApplied_gen hs pl pu ?_)
  have yes : (((sIx items.size 0 lo : Nat) : Int) == 0 && (1 : Int) == 1 && (sIx items.size items.size hi - sIx items.size 0 lo) == items.size) = true := by
    rw [hw.1, hw.2]
    simp
  show wpAny _ _ (if (((sIx items.size 0 lo : Nat) : Int) == 0 && (1 : Int) == 1 && (sIx items.size items.size hi - sIx items.size 0 lo) == items.size) = true then _ else _) _ _ s
  rw [if_pos yes]
  refine wpAny_bind ?_
  unfold Builtin.Tuple.tupleIsExact
  refine wpAny_bind (wpAny_typeOf ht.typeIs ?_)
  refine wpAny_pure ?_
  rw [if_pos (by decide)]
  exact wpAny_bind (wpAny_rule (wpAny_pure ⟨_, rfl, wpAny_pure h⟩))
end
end HT
namespace L2
open PySem PySem.Spec PyProof.Rows
section
variable {X : Cx}
def rSlX (K : PySem.W.Frag) : V → Option Int → Option Int → Hp → VK → Prop := fun x lo hi H Q => ∃ a xs, x = .ref a ∧ SqT K H a xs ∧
  ((HT.sIx xs.length 0 lo = 0 ∧ HT.sIx xs.length xs.length hi = xs.length) → Q (.ref a) H) ∧ (¬ (HT.sIx xs.length 0 lo = 0 ∧ HT.sIx xs.length xs.length hi = xs.length) → ∀ p, H p = none → Q (.ref p) (upd H p (.tup (cutV xs lo hi))))
theorem sl_tupX : SlR X (rSlX X.K) := by
  intro pins s σ H x v vl vu lo hi sl Q I rx hs pl pu h
  obtain ⟨a, xs, e, hx, q1, q2⟩ := h
  by_cases hw : HT.sIx xs.length 0 lo = 0 ∧ HT.sIx xs.length xs.length hi = xs.length
  · subst e
    cases rx
    obtain ⟨its, r, ht, hz⟩ := I.tuple hx
    have hlen : its.toArray.size = xs.length := by rw [List.size_toArray]; exact r.length.symm
    refine ⟨"tuple", _, PyProof.Rows.slot_tuple_getitem.lookup, ht.typeIs, ?_⟩
    exact HT.getItem_tuple_all ht hs pl pu (by rw [hlen]; exact hw) ⟨.ref a, H, I, rfl, q1 hw⟩
  · exact sl_tup pins s σ H x v vl vu lo hi sl Q I rx hs pl pu ⟨a, xs, e, hx, hw, q2 hw⟩
def rCatX (K : PySem.W.Frag) : R2 := fun x y H Q => ∃ a b xs ys, x = .ref a ∧ y = .ref b ∧ SqT K H a xs ∧ SqT K H b ys ∧ ys ≠ [] ∧ xs.length + ys.length ≤ sizeLine ∧
  (xs = [] → Q (.ref b) H) ∧ (xs ≠ [] → ∀ p, H p = none → Q (.ref p) (upd H p (.tup (xs ++ ys))))
theorem op_catX : OpR X (binaryOp .Add) (rCatX X.K) := by
  intro pins s σ H x y v u Q I rx ry h
  obtain ⟨a, b, xs, ys, e1, e2, ha, hb, hy, hz, q1, q2⟩ := h
  by_cases hx : xs = []
  · subst e1 e2
    cases rx
    cases ry
    obtain ⟨its, r1, p1, _⟩ := I.tuple ha
    obtain ⟨its2, r2, p2, _⟩ := I.tuple hb
    obtain ⟨⟨cls, dd, data, sl⟩, ho, hc, n, hd⟩ := id p1
    obtain ⟨⟨cls2, dd2, data2, sl2⟩, ho2, hc2, n2, hd2⟩ := id p2
    simp only at hc hd hc2 hd2
    subst hc hd hc2 hd2
    have hv : its = [] := r1.nil_iff.mpr hx
    exact concat_meets ⟨_, ho, rfl⟩ ⟨_, ho2, rfl⟩ noFill_tuple_add seq_tuple_add PySem.F.slot_tuple_add PySem.F.entry_tuple_add (PySem.F.args_tuple_add_2 _ _)
      (tuple_addW0 a b its.toArray its2.toArray n n2 dd dd2 sl sl2 (by simp [hv])) ⟨ho, ho2, .ref b, H, I, rfl, q1 hx⟩
  · exact op_catT pins s σ H x y v u Q I rx ry ⟨a, b, xs, ys, e1, e2, ha, hb, hx, hz, fun z => absurd z hy, fun _ => q2 hx⟩
end
end L2
namespace L2
open PySem PySem.Spec PyProof.Rows PySem.SeqAt
def hasO (o : Option Int) (v : V) : Prop := match o with
  | none => v = .non
  | some i => v = .int i
instance : Rep (Option Int) where
  dec := inferInstance
  depth := 0
  has := fun _ _ o v => hasO o v
  mono := fun _ h => h
  inj := fun {_ _ _ _ _ a b v} _ h1 h2 => by
    cases a <;> cases b
    · rfl
    · have h1 : v = .non := h1
      have h2 : v = .int _ := h2
      rw [h1] at h2
      cases h2
    · have h1 : v = .int _ := h1
      have h2 : v = .non := h2
      rw [h1] at h2
      cases h2
    · have h1 : v = .int _ := h1
      have h2 : v = .int _ := h2
      rw [V.int.inj (h1.symm.trans h2)]
  rc := fun {_ _ _ _ _ _ a b x y u v} _ _ h1 h2 r1 r2 => by
    cases a with
    | none =>
      have h1 : x = .non := h1
      subst h1
      obtain rfl : u = .none := r1
      cases b with
      | none =>
        have h2 : y = .non := h2
        subst h2
        obtain rfl : v = .none := r2
        exact RcAt.none_none
      | some j =>
        have h2 : y = .int j := h2
        subst h2
        obtain ⟨t, rfl⟩ := r2
        exact RcAt.none_int _ _
    | some i =>
      have h1 : x = .int i := h1
      subst h1
      obtain ⟨t, rfl⟩ := r1
      cases b with
      | none =>
        have h2 : y = .non := h2
        subst h2
        obtain rfl : v = .none := r2
        exact RcAt.int_none _ _
      | some j =>
        have h2 : y = .int j := h2
        subst h2
        obtain ⟨t', rfl⟩ := r2
        have e : decide (some i = some j) = (i == j) := by
          by_cases z : i = j
          · subst z; simp
          · rw [decide_eq_false (fun q => z (Option.some.inj q)), beq_eq_false_iff_ne.mpr z]
        have := RcAt.int_int (A := ‹Around›) (s := ‹Shared›) i t j t'
        rw [← e] at this
        exact this
  rn := fun {_ _ _ _ _ _ a b x y u v} _ _ h1 h2 r1 r2 => by
    cases a with
    | none =>
      have h1 : x = .non := h1
      subst h1
      obtain rfl : u = .none := r1
      cases b with
      | none =>
        have h2 : y = .non := h2
        subst h2
        obtain rfl : v = .none := r2
        exact RcNeAt.none_none
      | some j =>
        have h2 : y = .int j := h2
        subst h2
        obtain ⟨t, rfl⟩ := r2
        exact RcNeAt.none_int _ _
    | some i =>
      have h1 : x = .int i := h1
      subst h1
      obtain ⟨t, rfl⟩ := r1
      cases b with
      | none =>
        have h2 : y = .non := h2
        subst h2
        obtain rfl : v = .none := r2
        exact RcNeAt.int_none _ _
      | some j =>
        have h2 : y = .int j := h2
        subst h2
        obtain ⟨t', rfl⟩ := r2
        have e : decide (some i = some j) = (i == j) := by
          by_cases z : i = j
          · subst z; simp
          · rw [decide_eq_false (fun q => z (Option.some.inj q)), beq_eq_false_iff_ne.mpr z]
        have := RcNeAt.int_int (A := ‹Around›) (s := ‹Shared›) i t j t'
        rw [← e] at this
        exact this
  eq := fun {_ _ _ _ _ _ a b x y u v} _ _ h1 h2 r1 r2 => by
    cases a with
    | none =>
      have h1 : x = .non := h1
      subst h1
      obtain rfl : u = .none := r1
      cases b with
      | none =>
        have h2 : y = .non := h2
        subst h2
        obtain rfl : v = .none := r2
        exact EqAt.same _
      | some j =>
        have h2 : y = .int j := h2
        subst h2
        obtain ⟨t, rfl⟩ := r2
        exact EqAt.none_int _ _
    | some i =>
      have h1 : x = .int i := h1
      subst h1
      obtain ⟨t, rfl⟩ := r1
      cases b with
      | none =>
        have h2 : y = .non := h2
        subst h2
        obtain rfl : v = .none := r2
        exact EqAt.int_none _ _
      | some j =>
        have h2 : y = .int j := h2
        subst h2
        obtain ⟨t', rfl⟩ := r2
        have e : decide (some i = some j) = (i == j) := by
          by_cases z : i = j
          · subst z; simp
          · rw [decide_eq_false (fun q => z (Option.some.inj q)), beq_eq_false_iff_ne.mpr z]
        have := EqAt.int_int (A := ‹Around›) (s := ‹Shared›) i t j t'
        rw [← e] at this
        exact this
structure Tup (α : Type) where
  l : List α
theorem Tup.ext' {α : Type} {a b : Tup α} (h : a.l = b.l) : a = b := by
  cases a
  cases b
  cases h
  rfl
instance {α : Type} [DecidableEq α] : DecidableEq (Tup α) := fun a b => if h : a.l = b.l then .isTrue (Tup.ext' h) else .isFalse fun z => h (by rw [z])
def hasT {α : Type} [Rep α] (K : PySem.W.Frag) (H : Hp) (t : Tup α) (v : V) : Prop := ∃ a xs, v = .ref a ∧ SqT K H a xs ∧ HasAll K H t.l xs
section
variable {α : Type} [r : Rep α] {X : Cx} {pins : List (Addr × Obj)} {σ : St} {H : Hp} {s : Shared} {A : Around} {as bs : Tup α} {x y : V} {u v : Value}
theorem hasT_inj (I : Inv X pins σ H s) (h1 : hasT X.K H as x) (h2 : hasT X.K H bs x) : as = bs := by
  obtain ⟨a, xs, rfl, q1, h1⟩ := h1
  obtain ⟨b, ys, e, q2, h2⟩ := h2
  cases e
  rw [I.tuple_inj q2 q1] at h2
  exact Tup.ext' (h1.inj I h2)
theorem tup_all {as bs : List α} (n m : Nat) (hn : as.length = n) (hm : bs.length = m) : ((List.range (min n m)).all (fun j => decide (as[j]? = bs[j]?)) && n == m) = decide (as = bs) := by
  by_cases hl : as.length = bs.length
  · have e := all_decide as bs hl
    have z : min n m = as.length := by (first | lia | omega)
    rw [z, e, beq_iff_eq.mpr (by (first | lia | omega) : n = m), Bool.and_true]
  · rw [decide_eq_false (fun z => hl (by rw [z])), beq_eq_false_iff_ne.mpr (by (first | lia | omega) : n ≠ m), Bool.and_false]
theorem dec_tup : decide (as = bs) = decide (as.l = bs.l) := by
  by_cases h : as.l = bs.l
  · rw [decide_eq_true h, decide_eq_true (Tup.ext' h)]
  · rw [decide_eq_false h, decide_eq_false (fun z => h (by rw [z]))]
theorem hasT_rc (I : Inv X pins σ H s) (hu : A.units + (Rep.depth α + 1) < cLine) (h1 : hasT X.K H as x) (h2 : hasT X.K H bs y) (r1 : RelV x u) (r2 : RelV y v) : RcAt A s u v (decide (as = bs)) := by
  obtain ⟨a, xs, rfl, q1, h1⟩ := h1
  obtain ⟨b, ys, rfl, q2, h2⟩ := h2
  cases r1
  cases r2
  obtain ⟨us, ru, pu, _⟩ := I.tuple q1
  obtain ⟨vs, rv, pv, _⟩ := I.tuple q2
  have l1 := ru.length
  have l2 := rv.length
  have m1 := h1.length
  have m2 := h2.length
  have hin : A.in1.units + Rep.depth α < cLine := Nat.lt_of_le_of_lt (Nat.add_le_add_right in1_units _) (by (first | lia | omega))
  have := RcAt.tuples (A := A) (s := s) (l := a) (b := b) (items := us.toArray) (items2 := vs.toArray) (e := fun j => decide (as.l[j]? = bs.l[j]?)) pu pv (by (first | lia | omega)) (items_eq I hin h1 h2 ru rv)
  rw [tup_all (as := as.l) (bs := bs.l) us.toArray.size vs.toArray.size (by simp; (first | lia | omega)) (by simp; (first | lia | omega)), ← dec_tup] at this
  exact this
theorem hasT_rn (I : Inv X pins σ H s) (hu : A.units + (Rep.depth α + 1) < cLine) (h1 : hasT X.K H as x) (h2 : hasT X.K H bs y) (r1 : RelV x u) (r2 : RelV y v) : RcNeAt A s u v (!decide (as = bs)) := by
  obtain ⟨a, xs, rfl, q1, h1⟩ := h1
  obtain ⟨b, ys, rfl, q2, h2⟩ := h2
  cases r1
  cases r2
  obtain ⟨us, ru, pu, _⟩ := I.tuple q1
  obtain ⟨vs, rv, pv, _⟩ := I.tuple q2
  have l1 := ru.length
  have l2 := rv.length
  have m1 := h1.length
  have m2 := h2.length
  have hin : A.in1.units + Rep.depth α < cLine := Nat.lt_of_le_of_lt (Nat.add_le_add_right in1_units _) (by (first | lia | omega))
  have := RcNeAt.tuples (A := A) (s := s) (l := a) (b := b) (items := us.toArray) (items2 := vs.toArray) (e := fun j => decide (as.l[j]? = bs.l[j]?)) pu pv (by (first | lia | omega)) (items_eq I hin h1 h2 ru rv)
  rw [tup_all (as := as.l) (bs := bs.l) us.toArray.size vs.toArray.size (by simp; (first | lia | omega)) (by simp; (first | lia | omega)), ← dec_tup] at this
  exact this
theorem hasT_eq (I : Inv X pins σ H s) (hu : A.units + (Rep.depth α + 1) < cLine) (h1 : hasT X.K H as x) (h2 : hasT X.K H bs y) (r1 : RelV x u) (r2 : RelV y v) : EqAt A s u v (decide (as = bs)) := by
  have rc := hasT_rc (A := A) I hu h1 h2 r1 r2
  have h1' := id h1
  have h2' := id h2
  obtain ⟨a, xs, rfl, q1, h1⟩ := h1
  obtain ⟨b, ys, rfl, q2, h2⟩ := h2
  cases r1
  cases r2
  by_cases hab : a = b
  · subst hab
    rw [decide_eq_true (hasT_inj I h1' h2')]
    exact EqAt.same _
  · exact EqAt.of_refs hab rc
end
instance {α : Type} [Rep α] : Rep (Tup α) where
  dec := inferInstance
  depth := Rep.depth α + 1
  has := hasT
  mono := fun e ⟨a, xs, h1, h2, h3⟩ => ⟨a, xs, h1, h2.ext e, h3.mono e⟩
  inj := fun I h1 h2 => hasT_inj I h1 h2
  rc := fun I hu h1 h2 r1 r2 => hasT_rc I hu h1 h2 r1 r2
  rn := fun I hu h1 h2 r1 r2 => hasT_rn I hu h1 h2 r1 r2
  eq := fun I hu h1 h2 r1 r2 => hasT_eq I hu h1 h2 r1 r2
end L2
namespace L2
open PySem PySem.Spec PyProof.Rows
section
variable {X : Cx}
theorem call_setQ (hc : X.calm = true) : CallR X (.type "set") (fun xs H Q => rSetI X.K xs H Q ∨ rSetT X.K xs H Q) := CallR.or (call_setI hc) (call_setT hc)
theorem call_sortQ (α : Type) [Rep α] [Srt α] : CallR X (.builtin "sorted") (fun xs H Q => rSortD α X.K xs H Q ∨ rSortT α X.K xs H Q) := CallR.or (call_sortD α) (call_sortT α)
end
end L2
namespace L2
open PySem PySem.Spec PyProof.Rows
section
variable {X : Cx} {K : PySem.W.Frag}
end
end L2
namespace L2
open PySem PySem.Spec PyProof.Rows
section
variable {X : Cx} {K : PySem.W.Frag} {tg : Expr}
end
end L2
namespace SetW
open PySem PySem.Spec PyProof.Rows
set_option autoImplicit false
abbrev Up1 (l : List Nat) : Prop := l.Pairwise (· < ·)
structure Good (t : SetTable) : Prop where
  up : Up1 t.place.toList
  no : t.dummies = #[]
theorem up_at {xs : Array Nat} (h : Up1 xs.toList) {i k : Nat} (hi : i < k) (hk : k < xs.size) : xs[i]'(by (first | lia | omega)) < xs[k] := by
  have := List.pairwise_iff_getElem.mp h i k (by simpa using (by (first | lia | omega) : i < xs.size)) (by simpa using hk) hi
  simpa using this
theorem go_ok (xs : Array Nat) (j : Nat) (hs : Up1 xs.toList) : ∀ (f lo hi : Nat), hi - lo ≤ f → lo ≤ hi → hi ≤ xs.size → (∀ i (h : i < xs.size), i < lo → xs[i] < j) → (∀ i (h : i < xs.size), hi ≤ i → j ≤ xs[i]) →
    SetTable.below.go xs j f lo hi ≤ xs.size ∧ (∀ i (h : i < xs.size), i < SetTable.below.go xs j f lo hi → xs[i] < j) ∧ (∀ i (h : i < xs.size), SetTable.below.go xs j f lo hi ≤ i → j ≤ xs[i])
  | 0, lo, hi, h1, h2, h3, h4, h5 => by
    unfold SetTable.below.go
    exact ⟨by (first | lia | omega), h4, fun i h k => h5 i h (by (first | lia | omega))⟩
  | f + 1, lo, hi, h1, h2, h3, h4, h5 => by
    unfold SetTable.below.go
    by_cases c : lo < hi
    · have hm : (lo + hi) / 2 < xs.size := by (first | lia | omega)
      have hg : xs.getD ((lo + hi) / 2) j = xs[(lo + hi) / 2] := by simp [Array.getD, hm]
      simp only [c, if_true, hg]
      by_cases d : xs[(lo + hi) / 2] < j
      · simp only [d, if_true]
        refine go_ok xs j hs f _ _ (by (first | lia | omega)) (by (first | lia | omega)) h3 (fun i h k => ?_) h5
        rcases Nat.lt_or_ge i ((lo + hi) / 2) with z | z
        · exact Nat.lt_trans (up_at hs z hm) d
        · have : i = (lo + hi) / 2 := by (first | lia | omega)
          subst this
          exact d
      · simp only [d, if_false]
        refine go_ok xs j hs f _ _ (by (first | lia | omega)) (by (first | lia | omega)) (by (first | lia | omega)) h4 (fun i h k => ?_)
        rcases Nat.lt_or_ge ((lo + hi) / 2) i with z | z
        · exact Nat.le_trans (Nat.le_of_not_lt d) (Nat.le_of_lt (up_at hs z h))
        · have : i = (lo + hi) / 2 := by (first | lia | omega)
          subst this
          exact Nat.le_of_not_lt d
    · simp only [c, if_false]
      exact ⟨by (first | lia | omega), h4, fun i h k => h5 i h (by (first | lia | omega))⟩
theorem below_ok (xs : Array Nat) (j : Nat) (hs : Up1 xs.toList) : SetTable.below xs j ≤ xs.size ∧ (∀ i (h : i < xs.size), i < SetTable.below xs j → xs[i] < j) ∧ (∀ i (h : i < xs.size), SetTable.below xs j ≤ i → j ≤ xs[i]) :=
  go_ok xs j hs xs.size 0 xs.size (by (first | lia | omega)) (by (first | lia | omega)) (Nat.le_refl _) (fun i h k => by (first | lia | omega)) (fun i h k => by (first | lia | omega))
def spot (xs : Array Nat) (i : Nat) : Nat := if i = 0 then 0 else xs.getD (i - 1) 0 + 1
theorem below_spot {xs : Array Nat} (hs : Up1 xs.toList) {i : Nat} (hi : i ≤ xs.size) : SetTable.below xs (spot xs i) = i := by
  obtain ⟨r1, r2, r3⟩ := below_ok xs (spot xs i) hs
  generalize SetTable.below xs (spot xs i) = r at r1 r2 r3
  rcases Nat.lt_trichotomy r i with z | z | z
  · have h0 : r < xs.size := by (first | lia | omega)
    have q := r3 r h0 (Nat.le_refl _)
    have hp : i - 1 < xs.size := by (first | lia | omega)
    have e : spot xs i = xs[i - 1] + 1 := by
      unfold spot
      rw [if_neg (by (first | lia | omega))]
      simp [Array.getD, hp]
    rw [e] at q
    rcases Nat.lt_or_ge r (i - 1) with y | y
    · have := up_at hs y hp
      (first | lia | omega)
    · have : r = i - 1 := by (first | lia | omega)
      subst this
      (first | lia | omega)
  · exact z
  · have h0 : i < xs.size := by (first | lia | omega)
    have q := r2 i h0 z
    by_cases y : i = 0
    · subst y
      simp [spot] at q
    · have hp : i - 1 < xs.size := by (first | lia | omega)
      have e : spot xs i = xs[i - 1] + 1 := by
        unfold spot
        rw [if_neg y]
        simp [Array.getD, hp]
      rw [e] at q
      have := up_at hs (show i - 1 < i by (first | lia | omega)) h0
      (first | lia | omega)
theorem up_insert {xs : Array Nat} {j : Nat} (hs : Up1 xs.toList) (hn : xs[SetTable.below xs j]? ≠ some j) : Up1 (SetTable.insertAt xs (SetTable.below xs j) j).toList := by
  obtain ⟨r1, r2, r3⟩ := below_ok xs j hs
  generalize SetTable.below xs j = r at r1 r2 r3 hn ⊢
  rw [SetTable.toList_insertAt]
  have hs' := hs
  rw [← List.take_append_drop r xs.toList] at hs'
  obtain ⟨p1, p2, p3⟩ := List.pairwise_append.mp hs'
  have gt : ∀ i (h : i < xs.size), r ≤ i → j < xs[i] := fun i h k => by
    have q := r3 i h k
    rcases Nat.lt_or_eq_of_le q with z | z
    · exact z
    · rcases Nat.lt_or_eq_of_le k with y | y
      · have h1 := r3 r (by (first | lia | omega)) (Nat.le_refl _)
        have := up_at hs y h
        (first | lia | omega)
      · subst y
        exact absurd (by rw [Array.getElem?_eq_getElem h, ← z]) hn
  have lo : ∀ a ∈ xs.toList.take r, a < j := fun a ha => by
    obtain ⟨i, hi, e⟩ := List.mem_take_iff_getElem.mp ha
    have : i < xs.size := by simpa using (by (first | lia | omega) : i < xs.toList.length)
    rw [← e]
    simpa using r2 i this (by (first | lia | omega))
  have hi : ∀ a ∈ xs.toList.drop r, j < a := fun a ha => by
    obtain ⟨i, hi, e⟩ := List.mem_drop_iff_getElem.mp ha
    have : r + i < xs.size := by simpa [Nat.add_comm] using hi
    rw [← e]
    simpa [Nat.add_comm] using gt (r + i) this (by (first | lia | omega))
  refine List.pairwise_append.mpr ⟨p1, List.pairwise_cons.mpr ⟨hi, p2⟩, fun a ha b hb => ?_⟩
  rcases List.mem_cons.mp hb with e | hb
  · rw [e]
    exact lo a ha
  · exact p3 a ha b hb
theorem has_none (j : Nat) : SetTable.has #[] j = false := by
  simp [SetTable.has]
theorem slot_of {t : SetTable} (g : Good t) (j : Nat) : t.slot j ≠ .dummy ∧ (t.slot j = .empty → t.place[SetTable.below t.place j]? ≠ some j) := by
  unfold SetTable.slot
  rw [g.no, has_none]
  by_cases c : (t.place[SetTable.below t.place j]? == some j) = true
  · simp only [c, if_true]
    refine ⟨?_, ?_⟩ <;> intro z <;> cases z
  · rw [if_neg c]
    refine ⟨by simp, fun _ z => c ?_⟩
    rw [z]
    simp
theorem adv_dummy (t : SetTable) (p : SetTable.Probe) : (t.advance p).dummy = p.dummy := by
  unfold SetTable.advance
  split <;> rfl
theorem probe_empty {t : SetTable} (g : Good t) {f : Nat → Int} {h : Int} : ∀ (n : Nat) (p : SetTable.Probe) (j : Nat) (d : Option Nat), p.dummy = none → SetTable.probe.go t f h n p = some (.empty j d) → d = none ∧ t.slot j = .empty
  | 0, p, j, d, _, e => by simp [SetTable.probe.go] at e
  | n + 1, p, j, d, hp, e => by
    unfold SetTable.probe.go at e
    cases z : t.slot p.j with
    | empty =>
      rw [z] at e
      simp only [Option.some.injEq, SetTable.Met.empty.injEq] at e
      obtain ⟨e1, e2⟩ := e
      subst e1
      exact ⟨by rw [← e2, hp], z⟩
    | dummy => exact absurd z (slot_of g _).1
    | live i =>
      rw [z] at e
      dsimp only at e
      split at e
      · simp at e
      · exact probe_empty g n _ j d (by rw [adv_dummy]; exact hp) e
theorem free_ok {t : SetTable} (g : Good t) {h : Int} {j : Nat} {b : Bool} (e : t.freeSlot h = some (j, b)) : t.place[SetTable.below t.place j]? ≠ some j := by
  unfold SetTable.freeSlot SetTable.probe at e
  split at e
  · rename_i j' d hm
    obtain ⟨e1, e2⟩ := probe_empty g _ _ _ _ rfl hm
    subst e1
    simp only [Option.getD_none, Option.isSome_none, Option.some.injEq, Prod.mk.injEq] at e
    rw [← e.1]
    exact (slot_of g _).2 e2
  · simp at e
theorem up_range (n : Nat) : Up1 (Array.range n).toList := by
  rw [Array.toList_range]
  exact List.pairwise_lt_range
theorem good_stand (t : SetTable) (n : Nat) : Good (t.standIn n) := ⟨up_range n, rfl⟩
theorem good_or {t : SetTable} (g : Good t) (n : Nat) : Good (t.orStandIn n) ∧ (t.orStandIn n).led = t.led := by
  unfold SetTable.orStandIn
  split
  · exact ⟨g, rfl⟩
  · exact ⟨good_stand t n, rfl⟩
theorem good_lay {t : SetTable} (g : Good t) (es : Array (Int × Value)) (h : Int) (x : Value) : Good (layNew t es h x).2.1 ∧ (layNew t es h x).2.1.led = t.led := by
  unfold layNew
  cases z : t.freeSlot h with
  | none => exact ⟨good_stand t _, rfl⟩
  | some q =>
    obtain ⟨j, b⟩ := q
    have hn := free_ok g z
    have gp : Good (t.put j).1 := by
      refine ⟨up_insert g.up hn, ?_⟩
      show (if SetTable.has t.dummies j then _ else t.dummies) = #[]
      rw [g.no, has_none]
      rfl
    exact ⟨(good_or gp _).1, (good_or gp _).2⟩
theorem good_relay {t : SetTable} (es : Array (Int × Value)) (n : Nat) : Good (relayAll t es n).2.1 ∧ (relayAll t es n).2.1.led = t.led := by
  unfold relayAll
  cases z : t.relaid (es.map (·.1)) n with
  | none => exact ⟨good_stand t _, rfl⟩
  | some q =>
    obtain ⟨t', order⟩ := q
    dsimp only
    split
    · unfold SetTable.relaid SetTable.laid at z
      cases y : SetTable.layClean (SetTable.sizeAbove n - 1) (es.map (·.1)) with
      | none => rw [y] at z; cases z
      | some owner =>
        rw [y] at z
        simp only [Option.bind_eq_bind, Option.bind_some, Option.pure_def, Option.some.injEq, Prod.mk.injEq] at z
        obtain ⟨z1, _⟩ := z
        subst z1
        refine ⟨⟨?_, rfl⟩, rfl⟩
        dsimp only
        refine List.pairwise_map.mpr (List.pairwise_filterMap.mpr (List.pairwise_lt_range.imp fun {a b} hab x hx y hy => ?_))
        obtain ⟨_, _, rfl⟩ := Option.map_eq_some_iff.mp hx
        obtain ⟨_, _, rfl⟩ := Option.map_eq_some_iff.mp hy
        exact hab
    · exact ⟨good_stand t _, rfl⟩
end SetW
namespace SetW
open PySem PySem.Spec PyProof.Rows
set_option autoImplicit false
section
variable {prog : Program} {w : World} {A : Around} {E : Value → Shared → Prop} {s : Shared} {a : Addr} {σ : List Int} {L : Bool}
def ent (e : Int × Value) : Int := match e.2 with | .int k _ => k | _ => 0
structure Body (es : Array (Int × Value)) (σ : List Int) (t : SetTable) (L : Bool) : Prop where
  are : ∀ e ∈ es.toList, ∃ k tk, e = (hashInt k, .int k tk)
  perm : (es.toList.map ent).Perm σ
  fits : t.fits es.size = true
  good : Good t
  led : t.led = L
def SetR (h : Heap) (a : Addr) (σ : List Int) (L : Bool) : Prop := ∃ o es ep t, h.get? a = some o ∧ o.ExactSet ∧ o.data = .set es ep t ∧ Body es σ t L
theorem Body.size {es : Array (Int × Value)} {t : SetTable} (b : Body es σ t L) : es.size = σ.length := by
  rw [← b.perm.length_eq, List.length_map, Array.length_toList]
theorem Body.elems {es : Array (Int × Value)} {t : SetTable} (b : Body es σ t L) : ElemsOf (intKind prog w) es.toList := fun e he => by
  obtain ⟨k, tk, rfl⟩ := b.are e he
  exact ⟨⟨k, intKind_is _ _ _ _, rfl⟩, rfl⟩
theorem Body.mem {es : Array (Int × Value)} {t : SetTable} (b : Body es σ t L) (k : Int) : k ∈ σ ↔ ∃ e ∈ es.toList, (intKind prog w).is k e.2 = true := by
  rw [← b.perm.mem_iff, List.mem_map]
  constructor
  · rintro ⟨e, he, z⟩
    obtain ⟨k', tk, rfl⟩ := b.are e he
    have : k' = k := z
    subst this
    exact ⟨_, he, intKind_is _ _ _ _⟩
  · rintro ⟨e, he, z⟩
    obtain ⟨k', tk, rfl⟩ := b.are e he
    exact ⟨_, he, ((intKind prog w).inj _ _ _ (intKind_is _ _ _ _) z)⟩
theorem SetR.keep {h h' : Heap} (x : SetR h a σ L) (k : ∀ o, h.get? a = some o → h'.get? a = some o) : SetR h' a σ L := by
  obtain ⟨o, es, ep, t, ho, r⟩ := x
  exact ⟨o, es, ep, t, k o ho, r⟩
theorem SetR.put {h : Heap} {o : Obj} {es es' : Array (Int × Value)} {ep : Nat} {t t' : SetTable} (ho : h.get? a = some o) (hx : o.ExactSet) (hd : o.data = .set es ep t) (b : Body es' σ t' L) :
    (h.update a (Obj.putSet es' t')).get? a = some { o with data := .set es' (ep + 1) t' } ∧ SetR (h.update a (Obj.putSet es' t')) a σ L := by
  have g := Heap.get?_update_self (Obj.putSet es' t') ho (by rw [putSet_of es' t' hd]; rfl)
  rw [putSet_of es' t' hd] at g
  exact ⟨g, _, es', ep + 1, t', g, hx, rfl, b⟩
theorem gave_ok (b : Bool) {Q : Unit → Shared → Prop} (q : Q () s) : wpAny (model prog w) A (match b with | true => rule "set.scan.the-table-gave-way" | false => pure ()) Q E s := by
  cases b
  · exact wpAny_pure q
  · exact wpAny_rule q
theorem tail_ok {g : Bool → Sem Unit} (hg : ∀ (b : Bool) (s₁ : Shared) (Q' : Unit → Shared → Prop), Q' () s₁ → wpAny (model prog w) A (g b) Q' E s₁)
    {o : Obj} {es : Array (Int × Value)} {ep : Nat} {t : SetTable} (ho : s.heap.get? a = some o) (hx : o.ExactSet) (hd : o.data = .set es ep t)
    {es1 : Array (Int × Value)} {t2 : SetTable} (b : Body es1 σ t2 L) (hb : σ.length < scanBound) {was : Bool} {R : Option Bool → Shared → Prop}
    (q : ∀ h', Heap.SameBut a s.heap h' → SetR h' a σ L → R (some true) { s with heap := h' }) :
    wpAny (model prog w) A (do
        storeSet a es1 t2
        if (!was && t2.tooFull) = true then do
            g (relayAll t2 es1 (SetTable.grown es1.size)).2.2
            storeSet a (relayAll t2 es1 (SetTable.grown es1.size)).1 (relayAll t2 es1 (SetTable.grown es1.size)).2.1
            pure (some true)
          else pure (some true)) R E s := by
  have z1 := b.size
  refine wpAny_bind (wpAny_storeSet_of ho hd ?_ (fits_of_scanBound (by (first | lia | omega))))
  obtain ⟨g1, r1⟩ := SetR.put ho hx hd b
  have sb := Heap.SameBut.update s.heap a (Obj.putSet es1 t2)
  split
  · have hp := relayAll_perm t2 es1 (SetTable.grown es1.size)
    have b2 : Body (relayAll t2 es1 (SetTable.grown es1.size)).1 σ (relayAll t2 es1 (SetTable.grown es1.size)).2.1 L :=
      ⟨fun e he => b.are e (hp.mem_iff.mp he), (hp.map _).trans b.perm, relayAll_fits .., (good_relay ..).1, (good_relay ..).2.trans b.led⟩
    generalize relayAll t2 es1 (SetTable.grown es1.size) = Rl at b2 ⊢
    have z2 := b2.size
    refine wpAny_bind (hg _ _ _ (wpAny_bind (wpAny_storeSet_of g1 rfl ?_ (fits_of_scanBound (by (first | lia | omega))))))
    exact wpAny_pure (q _ (sb.trans (Heap.SameBut.update _ a _)) (SetR.put g1 hx rfl b2).2)
  · exact wpAny_pure (q _ sb r1)
theorem add_ok {k : Int} {tk : Nat} {Q : Bool → Shared → Prop} (hS : SetR s.heap a σ L) (hb : σ.length + 1 < scanBound)
    (q : ∀ h' b, Heap.SameBut a s.heap h' → SetR h' a (step_dedup σ k) L → Q b { s with heap := h' }) :
    wpAny (model prog w) A (setAddHashed a (.int k tk) (hashInt k)) Q E s := by
  obtain ⟨o, es, ep, t, ho, hx, hd, b⟩ := hS
  have zs := b.size
  have hkey : (intKind prog w).is k (.int k tk) = true := intKind_is _ _ _ _
  have hel : ElemsOf (intKind prog w) es.toList := b.elems
  unfold setAddHashed setAddHashedIn
  refine wpAny_holding (wpAny_bind (wpAny_setState_of ho hd b.fits ?_))
  dsimp only
  rw [byScan_of (knd := intKind prog w) rfl (by (first | lia | omega)) hel]
  simp only [↓reduceIte]
  unfold setAddByScan
  refine wpAny_bind (wpAny_bind (wpAny_rule (wpAny_bind (wpAny_setScan_of (knd := intKind prog w) hkey ho hd b.fits hel ?_))))
  have mm := b.mem (prog := prog) (w := w) k
  cases hr : List.findIdx? (fun e => (intKind prog w).is k e.2) es.toList with
  | some j =>
    dsimp only
    obtain ⟨hj, hpj, _⟩ := List.findIdx?_eq_some_iff_getElem.mp hr
    have hm : k ∈ σ := mm.mpr ⟨_, List.getElem_mem hj, hpj⟩
    have es' : step_dedup σ k = σ := by
      unfold step_dedup
      have : (σ.any (· == k)) = true := List.any_eq_true.mpr ⟨k, hm, by simp⟩
      rw [if_pos this]
    have := q s.heap false (Heap.SameBut.refl a s.heap) (by rw [es']; exact ⟨o, es, ep, t, ho, hx, hd, b⟩)
    exact wpAny_pure (wpAny_pure this)
  | none =>
    dsimp only
    have hm : k ∉ σ := fun z => by
      obtain ⟨e, he, hp⟩ := mm.mp z
      have := List.findIdx?_eq_none_iff.mp hr e he
      rw [hp] at this
      exact absurd this (by decide)
    have es' : step_dedup σ k = σ ++ [k] := by
      unfold step_dedup
      rw [if_neg fun z => ?_]
      obtain ⟨y, hy, e⟩ := List.any_eq_true.mp z
      exact hm (by rw [← (beq_iff_eq.mp e)]; exact hy)
    rw [es'] at q
    have hperm := layNew_perm t es (hashInt k) (.int k tk)
    rw [Array.toList_push] at hperm
    have b1 : Body (layNew t es (hashInt k) (.int k tk)).1 (σ ++ [k]) (layNew t es (hashInt k) (.int k tk)).2.1 L := by
      refine ⟨fun e he => ?_, ?_, layNew_fits .., (good_lay b.good ..).1, (good_lay b.good ..).2.trans b.led⟩
      · rcases List.mem_append.mp (hperm.mem_iff.mp he) with z | z
        · exact b.are e z
        · rw [List.mem_singleton.mp z]
          exact ⟨k, tk, rfl⟩
      · refine (hperm.map ent).trans ?_
        rw [List.map_append]
        exact b.perm.append (List.Perm.refl _)
    generalize layNew t es (hashInt k) (.int k tk) = Ly at b1 ⊢
    obtain ⟨es1, t1, was, gave⟩ := Ly
    dsimp only at b1 ⊢
    refine wpAny_bind (gave_ok gave ?_)
    have hb1 : (σ ++ [k]).length < scanBound := by
      rw [List.length_append]
      exact hb
    split
    · refine wpAny_bind ?_
      rw [hashByValue_scannable 8 (show (Value.int k tk).scannable = true from rfl)]
      refine wpAny_pure (tail_ok (fun b s₁ Q' h => gave_ok b h) ho hx hd (σ := σ ++ [k]) (L := L) b1 hb1 fun h' sb r => ?_)
      exact wpAny_pure (q h' true sb r)
    · refine wpAny_bind (wpAny_pure ?_)
      simp only [↓reduceIte]
      refine tail_ok (fun b s₁ Q' h => gave_ok b h) ho hx hd b1 hb1 fun h' sb r => ?_
      exact wpAny_pure (q h' true sb r)
end
section
variable {prog : Program} {w : World} {A : Around} {R : Result → Shared → Prop} {I : Addr} {fp wr : List Addr} {G : Array GenState → Array GenState → Prop} {n : Nat} {P : Nat → Value → Prop} {St : Nat → Shared → Prop} {L : Bool}
theorem loop_ok (W : WalksS prog w A.in1 I fp wr G n P St) (S : Addr) (hSf : S ∉ fp) (val : Nat → Int) (hval : ∀ i v, P i v → ∃ t, v = .int (val i) t) (hb : n + 1 < scanBound) :
    ∀ (k i : Nat) (s : Shared), n - i = k → i ≤ n → St i s → SetR s.heap S (firstMet val i) L →
      (∀ s', Moved (S :: wr) G s s' → SetR s'.heap S (firstMet val n) L → R (.ok (.ret .none)) s') → codeAny (model prog w) A (.builtin "set.update.loop" ⟨[.ref S, .ref I], []⟩) R s := by
  have hSw : S ∉ wr := fun h => hSf (W.sub _ h)
  have up : ∀ b ∈ wr, b ∈ S :: wr := fun b hb => List.mem_cons_of_mem _ hb
  intro k
  induction k with
  | zero =>
    intro i s hk hi st x q
    have e : i = n := by (first | lia | omega)
    subst e
    refine codeAny_builtin F.entry_set_update_loop ?_
    rw [Around.under_plainId F.plain_set_update_loop _]
    show wpAny _ A.in1 (pyNext (.ref I) >>= _) _ _ s
    refine wpAny_bind (W.done s _ _ st fun s' hm => ?_)
    show wpAny _ A.in1 (ret Value.none) _ _ s'
    exact wpAny_pure (q s' (hm.mono up) (x.keep fun o e => hm.heap S o hSw e))
  | succ k ih =>
    intro i s hk hi st x q
    have hlt : i < n := by (first | lia | omega)
    refine codeAny_builtin F.entry_set_update_loop ?_
    rw [Around.under_plainId F.plain_set_update_loop _]
    show wpAny _ A.in1 (pyNext (.ref I) >>= _) _ _ s
    refine wpAny_bind (W.item i s _ _ hlt st fun v s' hP st' hm => ?_)
    obtain ⟨t, rfl⟩ := hval i v hP
    have x' := x.keep (h' := s'.heap) fun o e => hm.heap S o hSw e
    show wpAny _ A.in1 (holding [Value.int (val i) t] (setAdd S (.int (val i) t)) >>= _) _ _ s'
    refine wpAny_bind (wpAny_holding ?_)
    unfold setAdd
    refine wpAny_holding (wpAny_bind ((intKind prog w).pyHash (k := val i) (intKind_is _ _ _ _) ?_))
    have room : (firstMet val i).length + 1 < scanBound := by
      have := firstMet_length_le val i
      (first | lia | omega)
    refine add_ok (s := { s' with toks := s'.toks + 1 }) x' room fun h' _ sb x2 => ?_
    rw [← firstMet_succ] at x2
    refine wpAny_pure ⟨plainId_quiet F.plain_set_update_loop _, ih (i + 1) _ (by (first | lia | omega)) hlt (W.frame _ s' _ _ st' (Nat.le_succ _) fun b hb o e => ?_) x2 fun s'' hm'' x3 => ?_⟩
    · rw [sb.2 b (fun h : b = S => hSf (by rw [← h]; exact hb))]
      exact e
    · refine q s'' (Moved.trans W.gtrans ((hm.mono up).then_heap (Nat.le_succ _) fun b o hb e => ?_) hm'') x3
      rw [sb.2 b (fun h : b = S => hb (by rw [h]; exact List.mem_cons_self))]
      exact e
end
end SetW
namespace SetW
open PySem PySem.Spec PyProof.Rows
set_option autoImplicit false
set_option maxRecDepth 100000
theorem slot_seti_next : Slot "set_iterator" "__next__" "set_iterator.__next__" :=
  .of (owner := "set_iterator") (n := "__next__") (by rw [typeLookup_type, builtinLookup_eq_fast]; kernel_rfl) (by decide +kernel) (by decide +kernel) (by decide +kernel)
    (by first | exact .inl (by decide +kernel) | exact .inr (by decide +kernel)) (by rw [isSubtype_type]; kernel_rfl)
theorem entry_seti_next : entryFor table "set_iterator.__next__" = some Builtin.«set_iterator.__next__» := entryFor_of_tree (by kernel_rfl)
theorem owner_seti : Manifest.owners.lookup (String.ofList ['r', 'o', 't', 'a', 'r', 'e', 't', 'i', '_', 't', 'e', 's'].reverse) = some Manifest.sig_set_iterator := by kernel_rfl
theorem args_seti_next (a : Value) : argsOk "set_iterator.__next__" ⟨[a], []⟩ := by
  unfold argsOk; rw [signature?_of (id := "set_iterator.__next__") (n := ['_', '_', 't', 'x', 'e', 'n', '_', '_']) (o := ['r', 'o', 't', 'a', 'r', 'e', 't', 'i', '_', 't', 'e', 's']) (by kernel_rfl) owner_seti]; kernel_rfl
theorem entry_set_iter : entryFor table "set.__iter__" = some Builtin.«frozenset.__iter__» :=
  entryFor_alias (id' := "frozenset.__iter__") (by kernel_rfl) (by first | rfl | decide +kernel) (by decide +kernel) (by kernel_rfl)
theorem slot_seti_iter : Slot "set_iterator" "__iter__" "set_iterator.__iter__" :=
  .of (owner := "set_iterator") (n := "__iter__") (by rw [typeLookup_type, builtinLookup_eq_fast]; kernel_rfl) (by decide +kernel) (by decide +kernel) (by decide +kernel)
    (by first | exact .inl (by decide +kernel) | exact .inr (by decide +kernel)) (by rw [isSubtype_type]; kernel_rfl)
theorem entry_seti_iter : entryFor table "set_iterator.__iter__" = some Builtin.«dict_keyiterator.__iter__» :=
  entryFor_alias (id' := "dict_keyiterator.__iter__") (by kernel_rfl) (by first | rfl | decide +kernel) (by decide +kernel) (by kernel_rfl)
theorem args_seti_iter (a : Value) : argsOk "set_iterator.__iter__" ⟨[a], []⟩ := by
  unfold argsOk; rw [signature?_of (id := "set_iterator.__iter__") (n := ['_', '_', 'r', 'e', 't', 'i', '_', '_']) (o := ['r', 'o', 't', 'a', 'r', 'e', 't', 'i', '_', 't', 'e', 's']) (by kernel_rfl) owner_seti]; kernel_rfl
section
variable {prog : Program} {w : World} {A : Around} {E : Value → Shared → Prop} {s : Shared} {it d : Addr} {es : Array (Int × Value)} {ep : Nat} {t : SetTable}
def SIt (h : Heap) (it d : Addr) (f : Value) (i n ep : Nat) : Prop := ∃ o, h.get? it = some o ∧ o.cls = .type "set_iterator" ∧ o.data = .fields #[f, .int i 0, .ref d, .int n 0, .int ep 0]
def SAt (h : Heap) (d : Addr) (es : Array (Int × Value)) (ep : Nat) (t : SetTable) : Prop := ∃ o, h.get? d = some o ∧ o.ExactSet ∧ o.data = .set es ep t
theorem SIt.ty {f : Value} {i n ep : Nat} (x : SIt s.heap it d f i n ep) : s.TypeIs (.ref it) "set_iterator" := by
  obtain ⟨o, e, c, _⟩ := x
  exact ⟨o, e, c⟩
theorem SIt.keep {h h' : Heap} {f : Value} {i n ep : Nat} (x : SIt h it d f i n ep) (k : ∀ o, h.get? it = some o → h'.get? it = some o) : SIt h' it d f i n ep := by
  obtain ⟨o, e, r⟩ := x
  exact ⟨o, k o e, r⟩
theorem SAt.keep {h h' : Heap} (x : SAt h d es ep t) (k : ∀ o, h.get? d = some o → h'.get? d = some o) : SAt h' d es ep t := by
  obtain ⟨o, e, r⟩ := x
  exact ⟨o, k o e, r⟩
theorem SAt.ty (x : SAt s.heap d es ep t) : s.TypeIs (.ref d) "set" := by
  obtain ⟨o, e, c, _⟩ := x
  exact ⟨o, e, c.1⟩
theorem SAt.state {Q : (Array (Int × Value) × Nat × SetTable) → Shared → Prop} (x : SAt s.heap d es ep t) (hf : t.fits es.size = true) (q : Q (es, ep, t) s) : wpAny (model prog w) A (setState d) Q E s := by
  obtain ⟨o, e, c, z⟩ := x
  exact wpAny_setState_of e z hf q
theorem SAt.entries {Q : Array (Int × Value) → Shared → Prop} (x : SAt s.heap d es ep t) (hf : t.fits es.size = true) (q : Q es s) : wpAny (model prog w) A (setEntries d) Q E s := by
  unfold setEntries
  exact wpAny_bind (x.state hf (wpAny_pure q))
theorem next_item {sl i nx : Nat} {v : Value} {Q : Option Value → Shared → Prop} (ki : SIt s.heap it d (.int sl 0) i es.size ep) (x : SAt s.heap d es ep t) (hf : t.fits es.size = true)
    (hn : ∀ (A : Around) (E : Value → Shared → Prop) (Q : Option (Value × Nat) → Shared → Prop), Q (some (v, nx)) s → wpAny (model prog w) A (setNext d sl i ep) Q E s) (hne : d ≠ it)
    (q : ∀ h', SIt h' it d (.int nx 0) (i + 1) es.size ep → Heap.SameBut it s.heap h' → Q (some v) { s with heap := h' }) : wpAny (model prog w) A (pyNext (.ref it)) Q E s := by
  have ty := ki.ty
  obtain ⟨oi, e1, e2, e3⟩ := id ki
  unfold pyNext
  refine wpAny_bind (wpAny_attempt (wpAny_callSpecial?_slot (name := Str.ofString "__next__") ty slot_seti_next (wpAny_call_entry slot_seti_next ty entry_seti_next ?_ (args_seti_next _))))
  unfold Builtin.«set_iterator.__next__»
  refine wpAny_bind (m := slotArgs "__next__" 0 _) (wpAny_pure ?_)
  refine wpAny_bind (wpAny_fieldsOf e1 e3 ?_)
  dsimp only
  refine wpAny_bind (x.entries hf ?_)
  rw [if_neg (by simp)]
  simp only [Int.toNat_natCast]
  refine wpAny_bind (hn _ _ _ ?_)
  dsimp only
  refine wpAny_bind (wpAny_setField e1 e3 (by simp) ?_)
  have g1 := Heap.get?_update_self (Obj.mapFields (·.setIfInBounds 0 (rawInt nx))) e1 (Obj.isFreed_of_fields (Obj.data_mapFields e3 _))
  have d1 := Obj.data_mapFields e3 (·.setIfInBounds 0 (rawInt nx))
  refine wpAny_bind (wpAny_setField (s := { s with heap := s.heap.update it (Obj.mapFields (·.setIfInBounds 0 (rawInt nx))) }) g1 d1 (by simp) ?_)
  have g2 := Heap.get?_update_self (Obj.mapFields (·.setIfInBounds 1 (rawInt (↑i + 1)))) g1 (Obj.isFreed_of_fields (Obj.data_mapFields d1 _))
  have d2 := Obj.data_mapFields d1 (·.setIfInBounds 1 (rawInt (↑i + 1)))
  refine wpAny_pure ⟨_, rfl, wpAny_pure (q _ ⟨_, g2, ?_, ?_⟩ ((Heap.SameBut.update ..).trans (Heap.SameBut.update ..)))⟩
  · rw [Obj.cls_mapFields, Obj.cls_mapFields]
    exact e2
  · rw [d2]
    simp [rawInt]
theorem stop_ok {h : Heap} {Q : Option Value → Shared → Prop} (hh : A.handled = none) (q : ∀ h', (∀ b o, h.get? b = some o → h'.get? b = some o) → Q none { s with heap := h' }) :
    wpAny (model prog w) A.in1 (do let e ← newExc (.type "StopIteration") []; raiseNew e : Sem Fin) (fun fin s' => ∃ v, fin = Fin.done (Flow.ret v) ∧ wpAny (model prog w) A (pure (some v)) Q E s')
    (fun e s' => wpAny (model prog w) A (do let b ← isInstance e (Value.type "StopIteration"); if b = true then pure none else throw e) Q E s') { s with heap := h } := by
  refine wpAny_bind ?_
  simp only [newExc, newTuple]
  refine wpAny_bind (wpAny_newObj_type ?_ (by size_fits))
  refine wpAny_bind (m := firstArgMember _ _) (wpAny_of_eq (a := Value.none) (by first | rfl | (simp only [firstArgMember]; rfl)) ?_)
  refine wpAny_newObj_type ?_ (by size_fits)
  simp only [raiseNew]
  refine wpAny_bind (wpAny_handled ?_)
  rw [show A.in1.handled = none from hh]
  refine wpAny_bind (wpAny_pure (wpAny_throw ?_))
  refine wpAny_bind (wpAny_isInstance (T := "StopIteration") (b := true) ⟨_, Heap.get?_push_size _ rfl, rfl⟩ isSubtype_stop ?_)
  exact wpAny_pure (q _ fun b o e => Heap.get?_push_of_some _ (Heap.get?_push_of_some _ e))
theorem next_end {sl i : Nat} {Q : Option Value → Shared → Prop} (hh : A.handled = none) (ki : SIt s.heap it d (.int sl 0) i es.size ep) (x : SAt s.heap d es ep t) (hf : t.fits es.size = true)
    (hn : ∀ (A : Around) (E : Value → Shared → Prop) (Q : Option (Value × Nat) → Shared → Prop), Q none s → wpAny (model prog w) A (setNext d sl i ep) Q E s)
    (q : ∀ h', Heap.ExtBut it s.heap h' → Q none { s with heap := h' }) : wpAny (model prog w) A (pyNext (.ref it)) Q E s := by
  have ty := ki.ty
  obtain ⟨oi, e1, e2, e3⟩ := id ki
  unfold pyNext
  refine wpAny_bind (wpAny_attempt (wpAny_callSpecial?_slot (name := Str.ofString "__next__") ty slot_seti_next (wpAny_call_entry slot_seti_next ty entry_seti_next ?_ (args_seti_next _))))
  unfold Builtin.«set_iterator.__next__»
  refine wpAny_bind (m := slotArgs "__next__" 0 _) (wpAny_pure ?_)
  refine wpAny_bind (wpAny_fieldsOf e1 e3 ?_)
  dsimp only
  refine wpAny_bind (x.entries hf ?_)
  rw [if_neg (by simp)]
  simp only [Int.toNat_natCast]
  refine wpAny_bind (hn _ _ _ ?_)
  dsimp only
  refine wpAny_bind (wpAny_setField e1 e3 (by simp) ?_)
  exact stop_ok hh fun h' k => q h' fun b o hb e => k b o ((Heap.SameBut.update ..).extBut b o hb e)
def TAt (h : Heap) (tp : Addr) (js : List Nat) : Prop := h.IsTuple tp (js.map fun (j : Nat) => rawInt j).toArray
theorem TAt.items {tp : Addr} {js : List Nat} {Q : Option (Array Value) → Shared → Prop} (x : TAt s.heap tp js) (q : Q (some (js.map fun (j : Nat) => rawInt j).toArray) s) : wpAny (model prog w) A (seqItems? (.ref tp)) Q E s := by
  obtain ⟨ot, t1, t2, nt, t3⟩ := x
  unfold seqItems?
  refine wpAny_bind (wpAny_load t1 ?_)
  rw [t3]
  exact wpAny_pure q
theorem draw_item {tp : Addr} {js : List Nat} {i j : Nat} {e : Int × Value} {Q : Option Value → Shared → Prop} (ki : SIt s.heap it d (.ref tp) i es.size ep) (x : SAt s.heap d es ep t) (hf : t.fits es.size = true)
    (ht : TAt s.heap tp js) (hj : js[i]? = some j) (he : es[j]? = some e)
    (q : ∀ h', SIt h' it d (.ref tp) (i + 1) es.size ep → Heap.SameBut it s.heap h' → Q (some e.2) { s with heap := h' }) : wpAny (model prog w) A (pyNext (.ref it)) Q E s := by
  have ty := ki.ty
  obtain ⟨oi, e1, e2, e3⟩ := id ki
  unfold pyNext
  refine wpAny_bind (wpAny_attempt (wpAny_callSpecial?_slot (name := Str.ofString "__next__") ty slot_seti_next (wpAny_call_entry slot_seti_next ty entry_seti_next ?_ (args_seti_next _))))
  unfold Builtin.«set_iterator.__next__»
  refine wpAny_bind (m := slotArgs "__next__" 0 _) (wpAny_pure ?_)
  refine wpAny_bind (wpAny_fieldsOf e1 e3 ?_)
  dsimp only
  refine wpAny_bind (x.entries hf ?_)
  rw [if_neg (by simp)]
  refine wpAny_bind (ht.items ?_)
  have hp : (js.map fun (j : Nat) => rawInt j).toArray[((i : Int)).toNat]? = some (rawInt j) := by simp [hj]
  simp only [hp]
  show wpAny _ _ (setNextDrawn d ((j : Int)).toNat ((ep : Int)).toNat >>= _) _ _ s
  simp only [Int.toNat_natCast]
  refine wpAny_bind ?_
  unfold setNextDrawn
  refine wpAny_bind (x.state hf ?_)
  dsimp only
  rw [if_neg (by simp), he]
  refine wpAny_pure (wpAny_bind (wpAny_setField e1 e3 (by simp) ?_))
  have g1 := Heap.get?_update_self (Obj.mapFields (·.setIfInBounds 1 (rawInt (↑i + 1)))) e1 (Obj.isFreed_of_fields (Obj.data_mapFields e3 _))
  have d1 := Obj.data_mapFields e3 (·.setIfInBounds 1 (rawInt (↑i + 1)))
  refine wpAny_pure ⟨_, rfl, wpAny_pure (q _ ⟨_, g1, ?_, ?_⟩ (Heap.SameBut.update ..))⟩
  · rw [Obj.cls_mapFields]
    exact e2
  · rw [d1]
    simp [rawInt]
theorem draw_end {tp : Addr} {js : List Nat} {i : Nat} {Q : Option Value → Shared → Prop} (hh : A.handled = none) (ki : SIt s.heap it d (.ref tp) i es.size ep) (x : SAt s.heap d es ep t) (hf : t.fits es.size = true)
    (ht : TAt s.heap tp js) (hj : js[i]? = none) (q : ∀ h', Heap.ExtBut it s.heap h' → Q none { s with heap := h' }) : wpAny (model prog w) A (pyNext (.ref it)) Q E s := by
  have ty := ki.ty
  obtain ⟨oi, e1, e2, e3⟩ := id ki
  unfold pyNext
  refine wpAny_bind (wpAny_attempt (wpAny_callSpecial?_slot (name := Str.ofString "__next__") ty slot_seti_next (wpAny_call_entry slot_seti_next ty entry_seti_next ?_ (args_seti_next _))))
  unfold Builtin.«set_iterator.__next__»
  refine wpAny_bind (m := slotArgs "__next__" 0 _) (wpAny_pure ?_)
  refine wpAny_bind (wpAny_fieldsOf e1 e3 ?_)
  dsimp only
  refine wpAny_bind (x.entries hf ?_)
  rw [if_neg (by simp)]
  refine wpAny_bind (ht.items ?_)
  have hp : (js.map fun (j : Nat) => rawInt j).toArray[((i : Int)).toNat]? = none := by simpa using hj
  simp only [hp]
  refine wpAny_bind (wpAny_setField e1 e3 (by simp) ?_)
  have g1 := Heap.get?_update_self (Obj.mapFields (·.setIfInBounds 0 (rawInt 0))) e1 (Obj.isFreed_of_fields (Obj.data_mapFields e3 _))
  have d1 := Obj.data_mapFields e3 (·.setIfInBounds 0 (rawInt 0))
  refine wpAny_bind (wpAny_setField (s := { s with heap := s.heap.update it (Obj.mapFields (·.setIfInBounds 0 (rawInt 0))) }) g1 d1 (by simp) ?_)
  exact stop_ok hh fun h' k => q h' fun b o hb e => k b o (((Heap.SameBut.update ..).trans (Heap.SameBut.update ..)).extBut b o hb e)
theorem seti_self {f : Value} {i n : Nat} {Q : Value → Shared → Prop} (ki : SIt s.heap it d f i n ep) (q : Q (.ref it) s) : wpAny (model prog w) A (pyIter (.ref it)) Q E s := by
  refine wpAny_pyIter_slot ki.ty slot_seti_iter (wpAny_call_entry slot_seti_iter ki.ty entry_seti_iter ?_ (args_seti_iter _))
  show wpAny _ _ (ret (.ref it)) _ _ s
  exact wpAny_pure ⟨_, rfl, "set_iterator", _, ki.ty, slot_seti_next.lookup, q⟩
end
end SetW
namespace SetW
open PySem PySem.Spec PyProof.Rows
set_option autoImplicit false
set_option maxRecDepth 100000
theorem erase_perm {α : Type} : ∀ (l : List α) (i : Nat) (h : i < l.length), (l[i] :: l.eraseIdx i).Perm l
  | [], i, h => by simp at h
  | x :: xs, 0, h => List.Perm.refl _
  | x :: xs, i + 1, h => ((List.Perm.swap x _ _).trans ((erase_perm xs i (by simpa using h)).cons x))
theorem pick_go {α : Type} (next : Nat → Nat) : ∀ (f k : Nat) (left : List α) (out : Array α), left.length = f → (pickOrder.go next f k left out).toList.Perm (out.toList ++ left)
  | 0, k, left, out, h => by
    unfold pickOrder.go
    rw [List.length_eq_zero_iff.mp h, List.append_nil]
  | f + 1, k, left, out, h => by
    unfold pickOrder.go
    have hi : next k % left.length < left.length := Nat.mod_lt _ (by (first | lia | omega))
    rw [List.getElem?_eq_getElem hi]
    dsimp only
    refine (pick_go next f (k + 1) _ _ (by rw [List.length_eraseIdx_of_lt hi]; (first | lia | omega))).trans ?_
    rw [Array.toList_push, List.append_assoc]
    exact (List.Perm.refl _).append (erase_perm _ _ hi)
theorem pick_perm {α : Type} (next : Nat → Nat) (xs : Array α) : (pickOrder next xs).toList.Perm xs.toList := by
  have := pick_go next xs.size 0 xs.toList #[] (by simp)
  simpa [pickOrder] using this
def ofPlace (es : Array (Int × Value)) (j : Nat) : Value := (es.getD j (0, .none)).2
theorem drawn_perm {es : Array (Int × Value)} {js : List Nat} (hj : js.Perm (List.range es.size)) : (js.map (ofPlace es)).Perm (es.toList.map (·.2)) := by
  refine (hj.map _).trans (List.Perm.of_eq ?_)
  apply List.ext_getElem
  · simp
  · intro i h1 h2
    have : i < es.size := by simpa using h1
    simp [ofPlace, this]
section
variable {prog : Program} {w : World} {A : Around} {E : Value → Shared → Prop} {s : Shared} {it d : Addr} {es : Array (Int × Value)} {ep : Nat} {t : SetTable}
theorem choose_ok {src : Source} {n : Nat} {Q : Nat → Shared → Prop} (hn : n ≠ 0) (q : ∀ i dr, i < n → Q i { s with drawn := dr }) : wpAny (model prog w) A (choose src n) Q E s := fun Γ p hΓ => by
  unfold choose
  rw [Sem.wp_choose]
  exact ⟨hn, q _ _ (Nat.mod_lt _ (Nat.pos_of_ne_zero hn))⟩
theorem draw_ok {α : Type} : ∀ (n : Nat) (xs : List α) (s : Shared) (Q : List α → Shared → Prop), xs.length = n → (∀ ys dr, ys.Perm xs → Q ys { s with drawn := dr }) → wpAny (model prog w) A (drawOrder n xs) Q E s
  | 0, xs, s, Q, h, q => by
    unfold drawOrder
    have : xs = [] := List.length_eq_zero_iff.mp h
    subst this
    exact wpAny_pure (q [] s.drawn (List.Perm.refl _))
  | n + 1, [], s, Q, h, q => by simp at h
  | n + 1, x :: xs, s, Q, h, q => by
    unfold drawOrder
    refine wpAny_bind (choose_ok (by simp) fun i dr hi => ?_)
    rw [List.getElem?_eq_getElem hi]
    dsimp only
    refine wpAny_bind (draw_ok n _ _ _ (by rw [List.length_eraseIdx_of_lt hi]; (first | lia | omega)) fun ys dr' hp => ?_)
    exact wpAny_pure (q _ _ ((hp.cons _).trans (erase_perm _ _ hi)))
theorem byText_ok {Q : Bool → Shared → Prop} (q : Q (w.params.followText "set-order") s) : wpAny (model prog w) A setsByText Q E s := by
  unfold setsByText
  exact wpAny_bind (wpAny_askSetting (wpAny_pure q))
theorem next_text {sl i : Nat} {Q : Option (Value × Nat) → Shared → Prop} (hb : w.params.followText "set-order" = true) (x : SAt s.heap d es ep t) (hf : t.fits es.size = true)
    (q : Q (((pickOrder (w.params.setOrder d ep) es)[i]?).map fun e => (e.2, sl)) s) : wpAny (model prog w) A (setNext d sl i ep) Q E s := by
  unfold setNext
  refine wpAny_bind (x.state hf ?_)
  dsimp only
  refine wpAny_bind (byText_ok ?_)
  rw [if_pos hb, if_neg (by simp)]
  unfold setWalk
  refine wpAny_bind (wpAny_bind (x.state hf ?_))
  dsimp only
  refine wpAny_bind (byText_ok ?_)
  rw [if_pos hb]
  exact wpAny_bind (wpAny_askSetting (wpAny_pure (wpAny_pure q)))
theorem next_place {sl i : Nat} {Q : Option (Value × Nat) → Shared → Prop} (hb : w.params.followText "set-order" = false) (hd : (!t.plain && decide (es.size > 1)) = false) (hl : t.led = true) (x : SAt s.heap d es ep t) (hf : t.fits es.size = true)
    (q : Q (match es[SetTable.below t.place sl]?, t.place[SetTable.below t.place sl]? with | some (_, x), some j => some (x, j + 1) | _, _ => none) s) : wpAny (model prog w) A (setNext d sl i ep) Q E s := by
  unfold setNext
  refine wpAny_bind (x.state hf ?_)
  dsimp only
  refine wpAny_bind (byText_ok ?_)
  rw [if_neg (by rw [hb]; decide)]
  refine wpAny_ite_split (fun z => absurd (show (!t.plain && decide (es.size > 1)) = true from z) (by rw [hd]; decide)) (fun _ => ?_)
  refine wpAny_bind (?_ : wpAny _ _ (if (!t.led && !es.isEmpty) = true then unsupported "set:maker-not-led" else pure ()) _ _ s)
  rw [hl]
  exact wpAny_pure (wpAny_pure q)
def wk (es : Array (Int × Value)) (vs : List Value) : Prop := vs.Perm (es.toList.map (·.2))
theorem walks_text (hb : w.params.followText "set-order" = true) (hf : t.fits es.size = true) (hh : A.handled = none) (I : Addr) (hne : d ≠ I) : Walks prog w A I [I, d] [I] es.size (fun i v => ((pickOrder (w.params.setOrder d ep) es).toList.map (·.2))[i]? = some v)
    (fun i h => SIt h I d (.int (0 : Nat) 0) i es.size ep ∧ SAt h d es ep t) where
  sub := fun b hb => by
    simp at hb
    simp [hb]
  frame := fun _ _ _ st hk => ⟨st.1.keep fun o e => hk I (by simp) o e, st.2.keep fun o e => hk d (by simp) o e⟩
  item := fun i s Q E hi st hQ => by
    have hz : i < (pickOrder (w.params.setOrder d ep) es).size := by
      have := (pick_perm (w.params.setOrder d ep) es).length_eq
      simp only [Array.length_toList] at this
      (first | lia | omega)
    refine next_item (v := (pickOrder (w.params.setOrder d ep) es)[i].2) st.1 st.2 hf (fun A E Q q => next_text hb st.2 hf ?_) hne fun h' ki sb => hQ _ h' s.toks ?_ ⟨ki, st.2.keep fun o e => sb.extBut d o hne e⟩ fun b o hb e => sb.extBut b o (fun h => hb (by simp [h])) e
    · rw [Array.getElem?_eq_getElem hz]
      exact q
    · simp [hz]
  done := fun s Q E st hQ => by
    have hz : (pickOrder (w.params.setOrder d ep) es).size ≤ es.size := by
      have := (pick_perm (w.params.setOrder d ep) es).length_eq
      simp only [Array.length_toList] at this
      (first | lia | omega)
    refine next_end hh st.1 st.2 hf (fun A E Q q => next_text hb st.2 hf ?_) fun h' he => hQ h' s.toks fun b o hb e => he b o (fun h => hb (by simp [h])) e
    rw [Array.getElem?_eq_none hz]
    exact q
  self := fun _ _ _ _ st hQ => seti_self st.1 hQ
theorem walks_place (hb : w.params.followText "set-order" = false) (hd : (!t.plain && decide (es.size > 1)) = false) (hl : t.led = true) (g : Good t) (hf : t.fits es.size = true) (hh : A.handled = none) (I : Addr) (hne : d ≠ I) :
    Walks prog w A I [I, d] [I] es.size (fun i v => (es.toList.map (·.2))[i]? = some v) (fun i h => SIt h I d (.int (spot t.place i) 0) i es.size ep ∧ SAt h d es ep t) where
  sub := fun b hb => by
    simp at hb
    simp [hb]
  frame := fun _ _ _ st hk => ⟨st.1.keep fun o e => hk I (by simp) o e, st.2.keep fun o e => hk d (by simp) o e⟩
  item := fun i s Q E hi st hQ => by
    have hz : t.place.size = es.size := by
      simp only [SetTable.fits, Bool.and_eq_true, beq_iff_eq] at hf
      exact hf.1
    have hi' : i < t.place.size := by (first | lia | omega)
    refine next_item (v := es[i].2) (nx := t.place[i] + 1) st.1 st.2 hf (fun A E Q q => next_place hb hd hl st.2 hf ?_) hne fun h' ki sb => hQ _ h' s.toks ?_ ⟨?_, st.2.keep fun o e => sb.extBut d o hne e⟩ fun b o hb e => sb.extBut b o (fun h => hb (by simp [h])) e
    · rw [below_spot g.up (by (first | lia | omega)), Array.getElem?_eq_getElem hi, Array.getElem?_eq_getElem hi']
      exact q
    · simp [hi]
    · have : spot t.place (i + 1) = t.place[i] + 1 := by simp [spot, Array.getD, hi']
      rw [this]
      exact ki
  done := fun s Q E st hQ => by
    have hz : t.place.size = es.size := by
      simp only [SetTable.fits, Bool.and_eq_true, beq_iff_eq] at hf
      exact hf.1
    refine next_end hh st.1 st.2 hf (fun A E Q q => next_place hb hd hl st.2 hf ?_) fun h' he => hQ h' s.toks fun b o hb e => he b o (fun h => hb (by simp [h])) e
    rw [below_spot g.up (by (first | lia | omega)), Array.getElem?_eq_none (Nat.le_refl _)]
    exact q
  self := fun _ _ _ _ st hQ => seti_self st.1 hQ
theorem walks_draw {tp : Addr} {js : List Nat} (hj : js.Perm (List.range es.size)) (hf : t.fits es.size = true) (hh : A.handled = none) (I : Addr) (hne : d ≠ I) (hnt : tp ≠ I) :
    Walks prog w A I [I, d, tp] [I] es.size (fun i v => (js.map (ofPlace es))[i]? = some v) (fun i h => SIt h I d (.ref tp) i es.size ep ∧ SAt h d es ep t ∧ TAt h tp js) where
  sub := fun b hb => by
    simp at hb
    simp [hb]
  frame := fun _ _ _ st hk => ⟨st.1.keep fun o e => hk I (by simp) o e, st.2.1.keep fun o e => hk d (by simp) o e, by
    obtain ⟨o, e, r⟩ := st.2.2
    exact ⟨o, hk tp (by simp) o e, r⟩⟩
  item := fun i s Q E hi st hQ => by
    have hl : i < js.length := by
      rw [hj.length_eq, List.length_range]
      exact hi
    have hm : js[i] < es.size := List.mem_range.mp (hj.mem_iff.mp (List.getElem_mem hl))
    refine draw_item (j := js[i]) (e := es[js[i]]) st.1 st.2.1 hf st.2.2 (List.getElem?_eq_getElem hl) (Array.getElem?_eq_getElem hm) fun h' ki sb => hQ _ h' s.toks ?_ ⟨ki, st.2.1.keep fun o e => sb.extBut d o hne e, ?_⟩ fun b o hb e => sb.extBut b o (fun h => hb (by simp [h])) e
    · rw [List.getElem?_map, List.getElem?_eq_getElem hl]
      simp [ofPlace, hm]
    · obtain ⟨o, e, r⟩ := st.2.2
      exact ⟨o, sb.extBut tp o hnt e, r⟩
  done := fun s Q E st hQ => by
    have hl : js.length ≤ es.size := by
      rw [hj.length_eq, List.length_range]
      exact Nat.le_refl _
    exact draw_end hh st.1 st.2.1 hf st.2.2 (List.getElem?_eq_none hl) fun h' he => hQ h' s.toks fun b o hb e => he b o (fun h => hb (by simp [h])) e
  self := fun _ _ _ _ st hQ => seti_self st.1 hQ
end
end SetW
namespace SetW
open PySem PySem.Spec PyProof.Rows
set_option autoImplicit false
set_option maxRecDepth 100000
section
variable {prog : Program} {w : World} {A : Around} {E : Value → Shared → Prop} {s : Shared} {d : Addr} {es : Array (Int × Value)} {ep : Nat} {t : SetTable}
theorem SAt.epoch {Q : Nat → Shared → Prop} (x : SAt s.heap d es ep t) (hf : t.fits es.size = true) (q : Q ep s) : wpAny (model prog w) A (setEpoch d) Q E s := by
  obtain ⟨o, e, c, z⟩ := x
  exact wpAny_setEpoch_of e z hf q
theorem set_iter {Q : Value → Shared → Prop} (x : SAt s.heap d es ep t) (hf : t.fits es.size = true) (g : Good t) (hl : t.led = !w.params.followText "set-order") (hz : es.size ≤ sizeLine)
    (q : ∀ (I : Addr) (vs : List Value) (fp : List Addr) (St : Nat → Heap → Prop) (h' : Heap) dr, vs.Perm (es.toList.map (·.2)) → s.heap.objs.size ≤ I → (∀ b ∈ fp, b = d ∨ s.heap.objs.size ≤ b) →
      (∀ A', A'.handled = none → Walks prog w A' I fp [I] es.size (fun i v => vs[i]? = some v) St) → St 0 h' → (∀ b o, s.heap.get? b = some o → h'.get? b = some o) → Q (.ref I) { s with heap := h', drawn := dr }) :
    wpAny (model prog w) A (pyIter (.ref d)) Q E s := by
  have ty := x.ty
  have hdl : d < s.heap.objs.size := by
    obtain ⟨o, e, _⟩ := x
    exact Heap.lt_size e
  refine wpAny_pyIter_slot ty F.slot_set_iter (wpAny_call_entry F.slot_set_iter ty entry_set_iter ?_ (F.args_set_iter_1 _))
  unfold Builtin.«frozenset.__iter__» Builtin.Frozenset.slot0
  refine wpAny_bind (wpAny_bind (m := slotArgs "__iter__" 0 _) (wpAny_pure ?_))
  refine (wpAny_pure ?_ : wpAny _ _ (pure d) _ _ s)
  unfold Builtin.Frozenset.sizeOf
  refine wpAny_bind (wpAny_bind (x.entries hf (wpAny_pure ?_)))
  unfold setDrawn
  refine wpAny_bind (wpAny_bind (x.state hf ?_))
  dsimp only
  refine wpAny_bind (byText_ok (wpAny_pure ?_))
  refine wpAny_ite_split (fun c => ?_) (fun c => ?_)
  · refine wpAny_bind (draw_ok _ _ _ _ (by simp) fun js dr hj => ?_)
    have hlen : js.length = es.size := by
      rw [hj.length_eq, List.length_range]
    simp only [newTuple]
    refine wpAny_bind (wpAny_newObj_type ?_ (by show (js.map fun (i : Nat) => rawInt i).toArray.size ≤ sizeLine; simpa [hlen] using hz))
    have x1 : SAt (s.heap.push { cls := .type "tuple", data := .seq (js.map fun (i : Nat) => rawInt i).toArray }) d es ep t := x.keep fun o e => Heap.get?_push_of_some _ e
    refine wpAny_bind (x1.epoch hf ?_)
    unfold newFields
    refine wpAny_bind (wpAny_newObj_type (wpAny_pure ⟨_, rfl, "set_iterator", _, ⟨_, Heap.get?_push_size _ rfl, rfl⟩, slot_seti_next.lookup, ?_⟩))
    have z1 : (s.heap.push { cls := .type "tuple", data := .seq (js.map fun (i : Nat) => rawInt i).toArray }).objs.size = s.heap.objs.size + 1 := Heap.size_push ..
    refine q _ (js.map (ofPlace es)) [_, d, s.heap.objs.size] _ _ dr (drawn_perm hj) (by rw [z1]; exact Nat.le_succ _) (fun b hb => ?_) (fun A' hA => walks_draw (t := t) (ep := ep) hj hf hA _ (by rw [z1]; exact Nat.ne_of_lt (Nat.lt_succ_of_lt hdl)) (by rw [z1]; exact Nat.ne_of_lt (Nat.lt_succ_self _))) ⟨?_, ?_, ?_⟩ fun b o e => Heap.get?_push_of_some _ (Heap.get?_push_of_some _ e)
    · simp only [List.mem_cons, List.not_mem_nil, or_false] at hb
      rcases hb with e | e | e
      · rw [e, z1]
        exact .inr (Nat.le_succ _)
      · exact .inl e
      · exact .inr (by rw [e]; exact Nat.le_refl _)
    · exact ⟨_, Heap.get?_push_size _ rfl, rfl, by simp [rawInt]⟩
    · exact x1.keep fun o e => Heap.get?_push_of_some _ e
    · exact ⟨_, Heap.get?_push_of_some _ (Heap.get?_push_size _ rfl), rfl, _, rfl⟩
  · refine wpAny_bind (wpAny_pure ?_)
    refine wpAny_bind (x.epoch hf ?_)
    unfold newFields
    refine wpAny_bind (wpAny_newObj_type (wpAny_pure ⟨_, rfl, "set_iterator", _, ⟨_, Heap.get?_push_size _ rfl, rfl⟩, slot_seti_next.lookup, ?_⟩))
    have fpk : ∀ b ∈ [s.heap.objs.size, d], b = d ∨ s.heap.objs.size ≤ b := fun b hb => by
      simp only [List.mem_cons, List.not_mem_nil, or_false] at hb
      rcases hb with e | e
      · exact .inr (by rw [e]; exact Nat.le_refl _)
      · exact .inl e
    cases hb : w.params.followText "set-order" with
    | true =>
      refine q _ ((pickOrder (w.params.setOrder d ep) es).toList.map (·.2)) [_, d] _ _ s.drawn ((pick_perm _ es).map _) (Nat.le_refl _) fpk (fun A' hA => walks_text (t := t) (ep := ep) hb hf hA _ (Nat.ne_of_lt hdl)) ⟨?_, ?_⟩ fun b o e => Heap.get?_push_of_some _ e
      · exact ⟨_, Heap.get?_push_size _ rfl, rfl, by simp [rawInt]⟩
      · exact x.keep fun o e => Heap.get?_push_of_some _ e
    | false =>
      have hd : (!t.plain && decide (es.size > 1)) = false := by
        rw [hb] at c
        cases z : (!t.plain && decide (es.size > 1)) with
        | false => rfl
        | true => exact absurd (show (!false && (!t.plain && decide (es.size > 1))) = true by rw [z]; rfl) c
      have hl' : t.led = true := by
        rw [hl, hb]
        rfl
      refine q _ (es.toList.map (·.2)) [_, d] _ _ s.drawn (List.Perm.refl _) (Nat.le_refl _) fpk (fun A' hA => walks_place (t := t) (ep := ep) hb hd hl' g hf hA _ (Nat.ne_of_lt hdl)) ⟨?_, ?_⟩ fun b o e => Heap.get?_push_of_some _ e
      · exact ⟨_, Heap.get?_push_size _ rfl, rfl, by simp [rawInt, spot]⟩
      · exact x.keep fun o e => Heap.get?_push_of_some _ e
end
end SetW
namespace SetW
open PySem PySem.Spec PyProof.Rows
set_option autoImplicit false
set_option maxRecDepth 100000
section
variable {prog : Program} {w : World} {A : Around} {E : Value → Shared → Prop} {s : Shared} {d : Addr} {es : Array (Int × Value)} {ep : Nat} {t : SetTable}
theorem hint_set {Q : Bool → Shared → Prop} (hT : s.TypeIs (.ref d) "set") (q : Q false s) : wpAny (model prog w) A (Builtin.List.listLengthHint (.ref d)) Q E s := by
  unfold Builtin.List.listLengthHint
  refine wpAny_bind (wpAny_specialOf hT PySem.F.slot_set_len.lookup ?_)
  generalize hid : ("set.__len__" : String) = id0
  wp_delta
  rw [show splitId id0 = some ("set", "__len__") from by subst hid; decide +kernel]
  subst hid
  refine wpAny_bind (wpAny_isInstance (T := "set") (b := true) hT (by rw [isSubtype_type]; kernel_rfl) ?_)
  refine wpAny_ite_split (fun z => absurd z (by decide)) (fun _ => ?_)
  refine wpAny_ite_split (fun _ => ?_) (fun z => absurd (by decide +kernel) z)
  exact wpAny_bind (wpAny_typeOf hT (wpAny_pure q))
theorem of_items {vs : List Value} {acc : Array Value} (h : ItemsOf (fun i v => vs[i]? = some v) acc vs.length) : acc.toList = vs := by
  obtain ⟨h1, h2⟩ := h
  apply List.ext_getElem?
  intro i
  rw [Array.getElem?_toList]
  cases z : acc[i]? with
  | none =>
    rw [Array.getElem?_eq_none_iff] at z
    exact (List.getElem?_eq_none (by (first | lia | omega))).symm
  | some v => exact (h2 i v z).symm
theorem extend_set {R : Result → Shared → Prop} (hh : A.handled = none) (x : SAt s.heap d es ep t) (hf : t.fits es.size = true) (g : Good t) (hl : t.led = !w.params.followText "set-order") (hz : es.size ≤ sizeLine)
    (S : Addr) (hSd : S ≠ d) (res : Value) (c₀ : Nat) (hS : s.heap.get? S = some { cls := .type "list", data := .seq #[] c₀ })
    (q : ∀ h' tk dr acc c, (∀ b o, b ≠ S → s.heap.get? b = some o → h'.get? b = some o) → h'.get? S = some { cls := .type "list", dict := none, data := .seq acc c, slots := #[] } → acc.toList.Perm (es.toList.map (·.2)) → R (.ok (.ret res)) { s with heap := h', toks := tk, drawn := dr }) :
    wpAny (model prog w) A.in1 (Builtin.List.listExtendWith (.ref S) (.ref d) res)
      (fun fin s' => match fin with | .done f => R (.ok f) s' | .again c' => c'.quiet = true ∧ codeAny (model prog w) A c' R s') (fun e s' => R (.error e) s') s := by
  unfold Builtin.List.listExtendWith
  refine wpAny_bind (wpAny_typeOf (T := "set") x.ty ?_)
  have h1 : Builtin.List.listSameRef (.ref S) (.ref d) = false := by simp [Builtin.List.listSameRef, hSd]
  have h2 : (Value.type "set" == Value.type "list") = false := by decide
  have h3 : (Value.type "set" == Value.type "tuple") = false := by decide
  simp only [h1, h2, h3, Bool.or_false, Bool.false_eq_true, if_false]
  refine wpAny_bind (set_iter x hf g hl hz fun I vs fp St h' dr hp hI hfp W st kp => ?_)
  have hSs : S < s.heap.objs.size := Heap.lt_size hS
  have hSf : S ∉ fp := fun z => by
    rcases hfp S z with e | e
    · exact hSd e
    · exact absurd hSs (Nat.not_lt.mpr e)
  have hSI : S ≠ I := fun e => absurd hSs (Nat.not_lt.mpr (by rw [e]; exact hI))
  have hn : vs.length = es.size := by
    rw [hp.length_eq, List.length_map, Array.length_toList]
  have x1 : SAt h' d es ep t := x.keep fun o e => kp d o e
  have key : ∀ (h : Heap) (c₁ : Nat), St 0 h → (∀ b o, b ≠ S → s.heap.get? b = some o → h.get? b = some o) →
      h.get? S = some { cls := .type "list", data := .seq #[] c₁ } → codeAny (model prog w) A (.builtin "list.extend.loop" ⟨[.ref S, .ref I, res], []⟩) R { s with heap := h, drawn := dr } := by
    intro h c₁ hst hk hS₁
    refine codeAny_extend_loopS (W A.in1 hh).toS hz S hSf res es.size 0 _ #[] c₁ rfl (Nat.zero_le _) hst hS₁ (ItemsOf.nil _) fun s' acc c hm hS' hacc => ?_
    rw [Moved.eq_with hm]
    rw [← hn] at hacc
    refine q s'.heap s'.toks dr acc c (fun b o hb e => hm.heap b o (fun z => ?_) (hk b o hb e)) hS' (by rw [of_items hacc]; exact hp)
    rcases List.mem_cons.mp z with e' | z
    · exact hb e'
    · rw [List.mem_singleton.mp z] at e
      exact absurd (Heap.lt_size e) (Nat.not_lt.mpr hI)
  have hS₁ : h'.get? S = some { cls := .type "list", data := .seq #[] c₀ } := kp S _ hS
  refine wpAny_bind (wpAny_holding (hint_set (s := { s with heap := h', drawn := dr }) (SAt.ty (s := { s with heap := h', drawn := dr }) x1) ?_))
  refine wpAny_ite_split (fun _ => ?_) (fun _ => wpAny_pure ⟨plainId_quiet PySem.F.plain_extend_loop _, key _ c₀ st (fun b o _ e => kp b o e) hS₁⟩)
  refine wpAny_bind (wpAny_rule (wpAny_bind ?_))
  show wpAny _ _ (updateSeq S (·.push .none) >>= fun _ => updateSeq S (·.pop)) _ _ _
  refine wpAny_bind (wpAny_updateSeq hS₁ rfl ?_)
  have hS₂ := Heap.get?_update_self (Obj.mapSeq (·.push Value.none)) hS₁ rfl
  refine wpAny_updateSeq (hz := by seq_fits) hS₂ rfl ?_
  have hS₃ := Heap.get?_update_self (Obj.mapSeq (·.pop)) hS₂ rfl
  refine wpAny_pure ⟨plainId_quiet PySem.F.plain_extend_loop _, key _ _ ?_ (fun b o hb e => ?_) hS₃⟩
  · refine (W A.in1 hh).frame 0 _ _ st fun b hb o e => ?_
    have hbS : b ≠ S := fun h => hSf (h ▸ hb)
    exact (Heap.get?_update_other _ _ (Ne.symm hbS)).trans ((Heap.get?_update_other _ _ (Ne.symm hbS)).trans e)
  · exact (Heap.get?_update_other _ _ (Ne.symm hb)).trans ((Heap.get?_update_other _ _ (Ne.symm hb)).trans (kp b o e))
theorem collect_set {Q : List Value → Shared → Prop} (hh : A.handled = none) (x : SAt s.heap d es ep t) (hf : t.fits es.size = true) (g : Good t) (hl : t.led = !w.params.followText "set-order") (hz : es.size ≤ sizeLine)
    (q : ∀ (vs : List Value) (h' : Heap) tk dr, vs.Perm (es.toList.map (·.2)) → (∀ b o, s.heap.get? b = some o → h'.get? b = some o) → Q vs { s with heap := h', toks := tk, drawn := dr }) : wpAny (model prog w) A (collect (.ref d)) Q E s := by
  have hdl : d < s.heap.objs.size := by
    obtain ⟨o, e, _⟩ := x
    exact Heap.lt_size e
  unfold collect
  have run : ∀ R : Result → Shared → Prop, (∀ h' tk dr acc c, (∀ b o, s.heap.get? b = some o → h'.get? b = some o) → h'.get? s.heap.objs.size = some { cls := .type "list", dict := none, data := .seq acc c, slots := #[] } →
      acc.toList.Perm (es.toList.map (·.2)) → R (.ok (.ret (.ref s.heap.objs.size))) { s with heap := h', toks := tk, drawn := dr }) → codeAny (model prog w) A (.builtin "proto.collect" ⟨[.ref d], []⟩) R s := by
    intro R hR
    refine codeAny_builtin entry_proto_collect' ?_
    show wpAny _ _ (do again (.builtin "list.__iadd__" ⟨[← newList [], .ref d], []⟩)) _ _ s
    refine wpAny_bind (wpAny_newList (wpAny_pure ⟨Code.quiet_builtin _ (by decide +kernel), codeAny_builtin entry_list_iadd' ?_⟩))
    rw [Around.under_plainId (show plainId "list.__iadd__" = true by decide +kernel) _]
    show wpAny _ _ (Builtin.List.listExtendWith (.ref s.heap.objs.size) (.ref d) (.ref s.heap.objs.size)) _ _ { s with heap := s.heap.push (seqObj "list" #[] 0) }
    refine extend_set (A := A) (R := R) (s := { s with heap := s.heap.push (seqObj "list" #[] 0) }) hh (x.keep fun o e => Heap.get?_push_of_some _ e) hf g hl hz _ (Nat.ne_of_gt hdl) _ 0 (Heap.get?_push_size _ rfl) fun h' tk dr acc c k hS hp => ?_
    exact hR h' tk dr acc c (fun b o e => k b o (Nat.ne_of_lt (Heap.lt_size e)) (Heap.get?_push_of_some _ e)) hS hp
  refine wpAny_bind (wpAny_runValue (run _ fun h' tk dr acc c k hS hp => ?_))
  show wpAny (model prog w) A (load s.heap.objs.size >>= fun o => match o.data with | .seq xs _ => pure xs.toList | _ => unsupported "internal:collect") Q E { s with heap := h', toks := tk, drawn := dr }
  exact wpAny_bind (wpAny_load hS (wpAny_pure (q _ h' tk dr hp k)))
end
end SetW
namespace SetW
open PySem PySem.Spec PyProof.Rows
set_option autoImplicit false
section
variable {prog : Program} {w : World} {A : Around} {E : Value → Shared → Prop} {s : Shared}
abbrev nu (w : World) : Obj := { cls := .type "set", dict := none, data := .set #[] 0 (.fresh 0 0 (!w.params.followText "set-order")) }
set_option maxRecDepth 100000 in
theorem new_ok (a : Value) {Q₁ : Value → Shared → Prop} (q : Q₁ (.ref s.heap.objs.size) { s with heap := s.heap.push (nu w) }) :
    codeAny (model prog w) A (.call (.builtin "set.__new__") ⟨[.type "set", a], []⟩) (wants Q₁ E) s := by
  refine codeAny_of_tree ?_
  show wpAny _ A.in1 (do checkBuiltinCall "set.__new__" ⟨[.type "set", a], []⟩; again (.builtin "set.__new__" ⟨[.type "set", a], []⟩)) _ _ s
  refine wpAny_bind (wpAny_of_eq (F.newCall_set_1 a) (wpAny_pure ⟨plainId_quiet F.plain_set_new _, codeAny_builtin F.entry_set_new ?_⟩))
  rw [Around.under_plainId F.plain_set_new _]
  unfold Builtin.«set.__new__» Builtin.Frozenset.newClass
  have hsub := sub_set_self
  obtain ⟨hp, g, d, tk, os⟩ := s
  dsimp only
  wp_walk
  refine wpAny_askSetting (wpAny_pure ?_)
  dsimp only
  simp only [newObj]
  exact wpAny_bind (wpAny_alloc (wpAny_pure (wpAny_pure q)))
end
end SetW
namespace L2
open PySem PySem.Spec PyProof.Rows
def WSet (w : World) (o : Obj) (τ : List Int) : Prop := τ.length < scanBound ∧ o.ExactSet ∧ ∃ es ep t, o.data = .set es ep t ∧ SetW.Body es τ t (!w.params.followText "set-order")
def rSetW (w : World) (K : PySem.W.Frag) : List V → Hp → VK → Prop := fun xs H Q => ∃ (p : Addr) (ns : List Int), xs = [.ref p] ∧ SqL K H p (ns.map V.int) ∧ ns.length ≤ 4000 ∧
  ∀ l o, H l = none → WSet w o (metI ns) → Q (.ref l) (upd H l (.frz o (.set (fun k => (metI ns).any (· == k)) (metI ns).length)))
def rSortW (w : World) (K : PySem.W.Frag) : List V → Hp → VK → Prop := fun xs H Q => ∃ (p : Addr) (o : Obj) (u : HO) (τ : List Int), xs = [.ref p] ∧ H p = some (.frz o u) ∧ WSet w o τ ∧
  ∀ l, H l = none → Q (.ref l) (upd H l (.lst ((sortD τ).map V.int)))
theorem ints_of : ∀ (vs : List Value), (∀ v ∈ vs, ∃ k tk, v = .int k tk) → ∃ zs : List Int, Vals (zs.map V.int) vs ∧ vs.map (fun v => SetW.ent (0, v)) = zs
  | [], _ => ⟨[], .nil, rfl⟩
  | v :: vs, h => by
    obtain ⟨zs, h1, h2⟩ := ints_of vs fun u hu => h u (List.mem_cons_of_mem _ hu)
    obtain ⟨k, tk, rfl⟩ := h v List.mem_cons_self
    exact ⟨k :: zs, .cons ⟨tk, rfl⟩ h1, by rw [List.map_cons, h2]; rfl⟩
section
variable {X : Cx}
theorem Inv.drawn {pins : List (Addr × Obj)} {σ : St} {H : Hp} {s : Shared} {dr : Drawn} (I : Inv X pins σ H s) : Inv X pins σ H { s with drawn := dr } := ⟨I.ok, I.os, I.bare, I.base, I.loc, I.cell, I.free, I.freeC, I.pin, I.hok, I.len⟩
theorem setR_of {h : Heap} {a : Addr} {τ : List Int} {L : Bool} (x : SetW.SetR h a τ L) (hb : τ.length < scanBound) (prog : Program) (w : World) : h.SetOf (intKind prog w) a (fun k => τ.any (· == k)) τ.length := by
  obtain ⟨o, es, ep, t, ho, hx, hd, b⟩ := x
  refine ⟨o, es, ep, t, ho, hx, hd, b.elems, fun k => ?_, by rw [b.size]; exact hb, b.fits, b.size⟩
  rw [← b.mem (prog := prog) (w := w) k, List.any_eq_true]
  constructor
  · rintro ⟨y, hy, e⟩
    rw [← beq_iff_eq.mp e]
    exact hy
  · intro z
    exact ⟨k, z, beq_self_eq_true k⟩
theorem call_sortW (hc : X.calm = true) : CallR X (.builtin "sorted") (rSortW X.w X.K) := by
  intro pins s σ H xs us Q I r h
  obtain ⟨p, o, u, τ, rfl, hH, hW, q⟩ := h
  obtain ⟨v, rfl, rx⟩ := vals1 r
  cases rx
  have ho : s.heap.get? p = some o := (show ObjOk X.prog X.w H s.heap p (.frz o u) from I.hok p _ hH).1
  obtain ⟨hb, hx, es, ep, t, hd, b⟩ := hW
  have hsz := b.size
  have hsl : es.size ≤ sizeLine := fits_of_scanBound (by (first | lia | omega))
  refine Calls.call_function_entry kind_sorted plain_sorted entry_sorted (args_sorted1 _) ?_
  unfold Builtin.«sorted»
  refine wpAny_bind (m := checkCount "sorted" 1 1 _) (wpAny_pure ?_)
  refine wpAny_bind (SetW.collect_set (I.ok.hd hc) ⟨o, ho, hx, hd⟩ b.fits b.good b.led hsl fun vs h1 tk dr hp k => ?_)
  have I1 : Inv X pins σ H { s with heap := h1, toks := tk, drawn := dr } := Inv.drawn (Inv.kept (t' := tk) I k)
  obtain ⟨zs, rv, ez⟩ := ints_of vs fun v hv => by
    obtain ⟨e, he, rfl⟩ := List.mem_map.mp (hp.mem_iff.mp hv)
    obtain ⟨k, tk, rfl⟩ := b.are e he
    exact ⟨k, tk, rfl⟩
  have hzp : zs.Perm τ := by
    rw [← ez]
    refine ((hp.map fun v => SetW.ent (0, v))).trans ?_
    rw [List.map_map]
    exact b.perm
  have ha : HasAll X.K H zs (zs.map V.int) := HasAll.ints
  have hvl : vs.length ≤ sizeLine := by
    rw [hp.length_eq, List.length_map, Array.length_toList]
    exact hsl
  obtain ⟨km, kk⟩ := keys_of I1 ha rv
  refine wpAny_bind (wpAny_newList ?_ (by simpa using hvl))
  have hn : (h1.push (seqObj "list" vs.toArray 0)).get? h1.objs.size = some (seqObj "list" vs.toArray 0) := Heap.get?_push_size _ rfl
  have k2 : ∀ b o, h1.get? b = some o → (h1.push (seqObj "list" vs.toArray 0)).get? b = some o := fun b o e => Heap.get?_push_of_some _ e
  show wpAny _ _ _ _ _ { s with heap := h1.push (seqObj "list" vs.toArray 0), toks := tk, drawn := dr }
  generalize h1.push (seqObj "list" vs.toArray 0) = h2 at hn k2 ⊢
  have up : ∀ h', Tim.KeptBut h1.objs.size h2 h' → ∀ b o, h1.get? b = some o → h'.get? b = some o := fun h' kb b o e => kb b o (Nat.ne_of_lt (Heap.lt_size e)) (k2 b o e)
  have I2 : ∀ h', Tim.KeptBut h1.objs.size h2 h' → Inv X pins σ H { s with heap := h', toks := tk, drawn := dr } := fun h' kb => Inv.kept (t' := tk) I1 (up h' kb)
  refine wpAny_bind (wpAny_holding (wpAny_call_entry slot_list_sort ⟨_, hn, rfl⟩ entry_list_sort (Tim.sort_G (κ := srtKind Int X.K H) (kd := Srt.kd Int) (s := { s with heap := h2, toks := tk, drawn := dr }) hn hvl (fun v hv => ?_) (fun h' kb E x y a b Q hx hy q => ?_) (fun h' E Q kb h2 q => Srt.kind (I2 h' kb) ha rv h2 q) fun out p1 p2 => ⟨_, rfl, ?_⟩) (args_list_sort _)))
  · obtain ⟨a, _, _, _, e⟩ := kk v hv
    exact ⟨a, e⟩
  · obtain ⟨x1, r1, e1⟩ := keyOf_some hx
    obtain ⟨y1, r2, e2⟩ := keyOf_some hy
    exact Srt.lt (I2 h' kb) e1 e2 r1 r2 q
  · obtain ⟨kb, c, hc'⟩ := Tim.kept_sorted (out := out) hn
    obtain ⟨ws, bs, w1, w2, w3⟩ := lift_vals (α := Int) (K := X.K) (H := H) (out := out) fun v hv => kk v (p1.mem_iff.mp hv)
    have eb : bs = sortD τ := by
      have pz : bs.Perm zs := by
        rw [w3, ← km]
        exact p1.map _
      refine sortD_is (pz.trans hzp) ?_
      · rw [w3]
        exact List.pairwise_map.mpr p2
    rw [eb] at w2
    have ew := HasAll.toInts w2
    have hw : ws.length ≤ sizeLine := by
      have := w1.length
      have := p1.length_eq
      (first | lia | omega)
    refine wpAny_pure ⟨_, rfl, .ref h1.objs.size, _, I1.laid (a := h1.objs.size) (o := .lst ws) (t' := tk) (up _ kb) (Nat.le_refl _) ⟨hw, out, c, w1, hc'⟩, rfl, ?_⟩
    rw [ew]
    exact q _ (I1.hok.fresh (Nat.le_refl _))
end
end L2
namespace SetW
open PySem PySem.Spec PyProof.Rows
set_option autoImplicit false
section
variable {prog : Program} {w : World} {A : Around} {E : Value → Shared → Prop} {s : Shared}
set_option maxRecDepth 100000 in
set_option maxHeartbeats 3200000 in
theorem of_tup {l : Addr} {items : Array Value} {ns : List Int} {Q : Value → Shared → Prop} (hh : A.handled = none) (hl : s.heap.IsTuple l items) (hi : IntsAre items.toList ns) (hb : items.size + 1 < scanBound)
    (h : ∀ (h' : Heap) (tk : Nat), SetR h' s.heap.objs.size (firstMet (fun i => ns.getD i 0) items.size) (!w.params.followText "set-order") →
      (∀ b o, b < s.heap.objs.size → s.heap.get? b = some o → h'.get? b = some o) → Q (.ref s.heap.objs.size) { s with heap := h', toks := tk }) :
    wpAny (model prog w) A (call (.type "set") [.ref l]) Q E s := by
  obtain ⟨c, tl, hmro⟩ := F.called_set.mro
  have hmade := F.called_set.made
  have hsub := F.called_set.sub
  refine wpAny_call (codeAny_of_tree ?_)
  show wpAny _ _ (callAny (.type "set") _) _ _ _
  refine wpAny_pure ⟨Code.quiet_builtin _ (by decide +kernel), codeAny_builtin F.entry_type_call ?_⟩
  rw [Around.under_plain (weight_type_call_type "set" [.ref l] []) rfl]
  have h1 := F.called_set.notType
  have h2 := F.called_set.canCreate
  have hct := F.typeCall_set_1 (.ref l)
  repeat (any_goals (first | assumption | wp_step))
  refine codeAny_mono (new_ok (.ref l) (E := E) (Q₁ := fun obj s₁ => obj = .ref s.heap.objs.size ∧ s₁ = { s with heap := s.heap.push (nu w) }) ⟨rfl, rfl⟩) fun r s₁ hr => ?_
  cases r with
  | error e => exact hr
  | ok fl =>
    cases fl with
    | ret obj =>
      obtain ⟨rfl, rfl⟩ := hr
      have hS : (s.heap.push (nu w)).get? s.heap.objs.size = some (nu w) := Heap.get?_push_size _ rfl
      have hT : Shared.TypeIs { s with heap := s.heap.push (nu w) } (.ref s.heap.objs.size) "set" := ⟨_, hS, rfl⟩
      have hli := F.called_set.init.lookup
      have hbi := F.called_set.init.bind (.ref s.heap.objs.size)
      repeat (any_goals (first | assumption | wp_step))
      refine codeAny_mono (codeAny_call_builtin (R := wants (fun r s₂ => r = .none ∧ ∃ h' tk, s₂ = { s with heap := h', toks := tk } ∧
          SetR h' s.heap.objs.size (firstMet (fun i => ns.getD i 0) items.size) (!w.params.followText "set-order") ∧
          (∀ b o, b < s.heap.objs.size → s.heap.get? b = some o → h'.get? b = some o)) E) F.called_set.init.plain F.entry_set_init (check_set_init_1 hT ?_)) fun r₂ s₂ hr₂ => ?_
      · obtain ⟨ol, hol, hcl, nl, hdl⟩ := hl
        obtain ⟨ocls, odict, odata, oslots⟩ := ol
        simp only at hcl hdl
        subst hcl; subst hdl
        have there : (s.heap.push (nu w)).get? l = some { cls := .type "tuple", dict := odict, data := .seq items nl, slots := oslots } := Heap.get?_push_of_some _ hol
        have hsls := L2.sub_tup_set
        have hslf := L2.sub_tup_frozen
        have hne : (Value.type "tuple" == Value.type "dict") = false := by decide
        have hl1 : (s.heap.push (nu w)).IsTuple l items := ⟨_, there, rfl, nl, rfl⟩
        unfold Builtin.«set.__init__» noKeywords Builtin.Frozenset.updateFrom
        generalize hPI : pyIter = PI
        wp_walk
        subst hPI
        refine wpAny_pyIter_tuple hl1 ?_
        refine wpAny_bind (wpAny_runValue ?_)
        have hlS : l < s.heap.objs.size := Heap.lt_size hol
        have h3 : A.in1.in1.in1.handled = none := by simp [hh]
        have hsz : (s.heap.push (nu w)).objs.size = s.heap.objs.size + 1 := Heap.size_push ..
        have hneI : l ≠ (s.heap.push (nu w)).objs.size := by
          rw [hsz]
          exact Nat.ne_of_lt (Nat.lt_succ_of_lt hlS)
        have hSf : s.heap.objs.size ∉ [(s.heap.push (nu w)).objs.size, l] := by
          rw [hsz]
          simp only [List.mem_cons, List.not_mem_nil, or_false, not_or]
          exact ⟨Nat.ne_of_lt (Nat.lt_succ_self _), Nat.ne_of_gt hlS⟩
        have hval : ∀ (i : Nat) (v : Value), items[i]? = some v → ∃ t, v = .int ((fun i => ns.getD i 0) i) t := fun i v hv =>
          IntsAre.int_at hi i v (by rw [Array.getElem?_toList]; exact hv)
        refine loop_ok (L := !w.params.followText "set-order") ((Walks.tuple h3 _ l hneI items).toS) s.heap.objs.size
          hSf (fun i => ns.getD i 0) hval hb (items.size - 0) 0 _ (by (first | lia | omega)) (Nat.zero_le _)
          ⟨⟨_, Heap.get?_push_size _ rfl, rfl, rfl⟩, (hl1.push _)⟩ ?hS0 ?hR
        case hS0 =>
          refine ⟨_, #[], 0, _, Heap.get?_push_of_some _ hS, ⟨rfl, rfl, rfl⟩, rfl, ⟨fun e he => by simp at he, List.Perm.refl _, by rfl, ⟨List.Pairwise.nil, rfl⟩, rfl⟩⟩
        case hR =>
          intro s' hm hS'
          obtain ⟨h', g', d', tk', os'⟩ := s'
          have eg : g' = s.gens := hm.gens
          have ed : d' = s.drawn := hm.drawn
          have eo : os' = s.os := hm.os
          subst eg; subst ed; subst eo
          show wpAny _ _ _ _ _ _
          refine wpAny_pure ?_
          show wpAny _ _ (ret Value.none) _ _ _
          refine wpAny_pure ⟨rfl, h', tk', rfl, hS', fun b o hb e => ?_⟩
          refine hm.heap b o ?_ (Heap.get?_push_of_some _ (Heap.get?_push_of_some _ e))
          rw [hsz]
          simp only [List.mem_cons, List.not_mem_nil, or_false, not_or]
          exact ⟨Nat.ne_of_lt hb, Nat.ne_of_lt (Nat.lt_succ_of_lt hb)⟩
      · cases r₂ with
        | error e => exact hr₂
        | ok fl₂ =>
          cases fl₂ with
          | ret r =>
            obtain ⟨rfl, h', tk, rfl, hS', hk'⟩ := hr₂
            repeat (any_goals (first | assumption | wp_step))
            exact h _ _ hS' hk'
          | _ => exact hr₂.elim
    | _ => exact hr.elim
end
end SetW
namespace L2
open PySem PySem.Spec PyProof.Rows
def rSetWT (w : World) (K : PySem.W.Frag) : List V → Hp → VK → Prop := fun xs H Q => ∃ (p : Addr) (ns : List Int), xs = [.ref p] ∧ SqT K H p (ns.map V.int) ∧ ns.length ≤ 4000 ∧
  ∀ l o, H l = none → WSet w o (metI ns) → Q (.ref l) (upd H l (.frz o (.set (fun k => (metI ns).any (· == k)) (metI ns).length)))
section
variable {X : Cx}
theorem call_setWT (hc : X.calm = true) : CallR X (.type "set") (rSetWT X.w X.K) := by
  intro pins s σ H xs us Q I r h
  obtain ⟨p, ns, rfl, hq, hz, q⟩ := h
  obtain ⟨u, rfl, rx⟩ := vals1 r
  cases rx
  obtain ⟨its, rv, pl, _⟩ := I.tuple hq
  have hl := rv.length
  rw [List.length_map] at hl
  refine SetW.of_tup (ns := ns) (I.ok.hd hc) (show s.heap.IsTuple p its.toArray from pl) (by simpa using vals_intsAre rv) (by unfold scanBound; simp only [List.size_toArray]; (first | lia | omega)) fun h' tk hS hk => ?_
  have e : its.toArray.size = ns.length := by simp only [List.size_toArray]; (first | lia | omega)
  rw [e] at hS
  have hlen : (metI ns).length < scanBound := by
    have := firstMet_length_le (fun i => ns.getD i 0) ns.length
    unfold metI scanBound
    (first | lia | omega)
  have so := setR_of hS hlen X.prog X.w
  obtain ⟨o, es, ep, t, ho, hx, hd, b⟩ := hS
  exact ⟨.ref s.heap.objs.size, _, I.laid (a := s.heap.objs.size) (o := .frz o (.set _ _)) (t' := tk) (fun b o eb => hk b o (Heap.lt_size eb) eb) (Nat.le_refl _) ⟨ho, so⟩, rfl, q _ o (I.hok.fresh (Nat.le_refl _)) ⟨hlen, hx, es, ep, t, hd, b⟩⟩
end
end L2
namespace L2
open PySem PySem.Spec PyProof.Rows PySem.SeqAt
section
variable {X : Cx}
theorem strs_vals : ∀ {ys : List Str} {us : List Value}, Vals (ys.map V.str) us → ∃ l : List (Str × Tok), us = strValues l ∧ l.map (·.1) = ys
  | [], _, .nil => ⟨[], rfl, rfl⟩
  | y :: ys, _, .cons r t => by
    obtain ⟨k, rfl⟩ := r
    obtain ⟨l, rfl, e⟩ := strs_vals t
    exact ⟨(y, k) :: l, rfl, by rw [List.map_cons, e]⟩
theorem vals_strs : ∀ (l : List (Str × Tok)), Vals ((l.map (·.1)).map V.str) (strValues l)
  | [] => .nil
  | p :: l => .cons ⟨p.2, rfl⟩ (vals_strs l)
def rJoin (K : PySem.W.Frag) : V → List V → Hp → VK → Prop := fun x vs H Q => ∃ (sep : Str) (p : Addr) (ys : List Str), x = .str sep ∧ vs = [.ref p] ∧ SqL K H p (ys.map V.str) ∧ JoinOk sep ys = true ∧ Q (.str (Txt.join sep ys)) H
theorem mt_join : MtR X "str.join" (rJoin X.K) := by
  intro pins s σ H x vs v us Q I rx rv h
  obtain ⟨sep, p, ys, rfl, rfl, hp, hok, q⟩ := h
  obtain ⟨t, rfl⟩ := rx
  obtain ⟨u, rfl, ru⟩ := rv.one
  cases ru
  obtain ⟨us, r, pl, _⟩ := I.list hp
  obtain ⟨l, rfl, e⟩ := strs_vals r
  exact SC.join pl.isList e hok fun t' k => ⟨.str _, H, I.tok _, ⟨_, rfl⟩, q⟩
def rSplit : V → List V → Hp → VK → Prop := fun x vs H Q => ∃ z y : Str, x = .str z ∧ vs = [.str y] ∧ (y.length == 0) = false ∧ z.length ≤ 1000000 ∧ ∀ p, H p = none → Q (.ref p) (upd H p (.lst ((Txt.split z y).map V.str)))
theorem mt_split : MtR X "str.split" rSplit := by
  intro pins s σ H x vs v us Q I rx rv h
  obtain ⟨z, y, rfl, rfl, hy, hz, q⟩ := h
  obtain ⟨t, rfl⟩ := rx
  obtain ⟨u, rfl, ru⟩ := rv.one
  obtain ⟨t2, rfl⟩ := ru
  have hs : sizeLine = 16777216 := by decide
  have hle := split_le z y
  have fin : ∀ (l : List (Str × Tok)) (k : Tok), l.map (·.1) = Txt.split z y → EP X pins σ Q (.ref s.heap.objs.size) { s with heap := s.heap.push { cls := .type "list", data := .seq (strValues l).toArray }, toks := k } := fun l k e => by
    refine ⟨.ref s.heap.objs.size, _, I.laid (t' := k) (o := .lst ((Txt.split z y).map V.str)) (fun b ob q => Heap.get?_push_of_some _ q) (Nat.le_refl _) ?_, rfl, q _ (I.hok.fresh (Nat.le_refl _))⟩
    exact ⟨by rw [List.length_map]; (first | lia | omega), _, 0, by rw [← e]; exact vals_strs l, Heap.get?_push_size _ rfl⟩
  cases h1 : (decide (z.length < y.length) || decide (Builtin.Str.strKind z < Builtin.Str.strKind y))
  · cases hf : (Builtin.Str.occurrences z y 0 z.length (z.length + 1)).isEmpty
    · have e0 : Txt.split z y = Builtin.Str.partsBetween z (Builtin.Str.occurrences z y 0 z.length (z.length + 1)) y.length := (if_neg (ne_true_of_eq_false h1)).trans (if_neg (ne_true_of_eq_false hf))
      refine call_meets F.slot_str_split (typeIs_str _ _ _) F.entry_str_split (F.args_str_split_2 _ _) (meets_str_split_sep z y t t2 h1 hy hf (by (first | lia | omega)) (by rw [← e0]; (first | lia | omega))) ?_
      show wants _ _ _ { s with toks := _, heap := s.heap.push { cls := .type "list", data := .seq (strsFrom s.toks (Builtin.Str.partsBetween z (Builtin.Str.occurrences z y 0 z.length (z.length + 1)) y.length)).toArray } }
      rw [strsFrom_eq]
      exact fin (numbered s.toks _) _ ((numbered_texts _ _).trans e0.symm)
    · exact call_meets F.slot_str_split (typeIs_str _ _ _) F.entry_str_split (F.args_str_split_2 _ _) (meets_str_split_not_found z y t t2 h1 hy hf) (fin [(z, t)] _ ((if_neg (ne_true_of_eq_false h1)).trans (if_pos hf)).symm)
  · exact call_meets F.slot_str_split (typeIs_str _ _ _) F.entry_str_split (F.args_str_split_2 _ _) (meets_str_split_cannot_occur z y t t2 h1) (fin [(z, t)] _ (if_pos h1).symm)
theorem call_intS : CallR X (.type "int") (fun xs H Q => ∃ (z : Str) (n : Int), xs = [.str z] ∧ PySem.intText? z = some n ∧ z.length ≤ 640 ∧ Q (.int n) H) := by
  intro pins s σ H xs us Q I r h
  obtain ⟨z, n, rfl, hn, hl, q⟩ := h
  obtain ⟨u, rfl, t, rfl⟩ := vals1 r
  exact PySem.W.KIN.call_text hn hl ⟨.int n, H, I.tok _, ⟨_, rfl⟩, q⟩
def tFstr2 (a : Str) (te : TE) : TE := fun σ H Q => te σ H fun x H1 => ∃ i : Int, x = .int i ∧ i.natAbs.log2 < 1920 ∧ (Str.ofString (toString i)).length ≤ 10000 ∧ Q (.str (Str.empty ++ a ++ Str.ofString (toString i))) H1
theorem pe_fstr2 {a : Str} {e : Expr} {te : TE} {p1 p2 pos : Pos} (he : PE X e te) (ha : a.length ≤ 10000) : PE X (.JoinedStr [.Constant (.str a) 0 p1, .FormattedValue e (-1) none p2] pos) (tFstr2 a te) := by
  intro pins s σ H Q I h
  have e0 : (Str.empty : Str).length = 0 := rfl
  have es : sizeLine = 16777216 := by decide
  refine wpAny_JoinedStr ?_
  refine Calls.Constant_str ⟨a, _, rfl, by rw [strLen_append]; (first | lia | omega), ?_⟩
  refine wpAny_FormattedValue_plain (thn (he pins _ σ H _ (I.tok _) h) fun v s1 ⟨x, H1, I1, r, i, ex, hi, hl, q⟩ => ?_)
  subst ex
  obtain ⟨t, rfl⟩ := r
  refine wpAny_formatField_int hi ⟨Str.ofString (toString i), _, rfl, by rw [strLen_append, strLen_append]; (first | lia | omega), ?_⟩
  exact ⟨by rw [strLen_append, strLen_append]; (first | lia | omega), .str (Str.empty ++ a ++ Str.ofString (toString i)), H1, I1.tok _, ⟨_, rfl⟩, q⟩
end
theorem beq_str {a b : Str} : (a == b) = decide (a = b) := by
  by_cases h : a = b
  · subst h
    simp
  · rw [decide_eq_false h]
    exact beq_eq_false_iff_ne.mpr h
instance : Rep Str where
  dec := inferInstance
  depth := 0
  has := fun _ _ i v => v = .str i
  mono := fun _ h => h
  inj := fun _ h1 h2 => V.str.inj (h1.symm.trans h2)
  rc := fun _ _ h1 h2 r1 r2 => by
    subst h1 h2
    obtain ⟨t, rfl⟩ := r1
    obtain ⟨t', rfl⟩ := r2
    rw [← beq_str]
    exact RcAt.str_str _ _ _ _
  rn := fun _ _ h1 h2 r1 r2 => by
    subst h1 h2
    obtain ⟨t, rfl⟩ := r1
    obtain ⟨t', rfl⟩ := r2
    rw [← beq_str]
    exact RcNeAt.str_str _ _ _ _
  eq := fun _ _ h1 h2 r1 r2 => by
    subst h1 h2
    obtain ⟨t, rfl⟩ := r1
    obtain ⟨t', rfl⟩ := r2
    rw [← beq_str]
    exact EqAt.str_str _ _ _ _
theorem HasAll.strs {K : PySem.W.Frag} {H : Hp} : ∀ {ys : List Str}, HasAll K H ys (ys.map V.str)
  | [] => .nil
  | _ :: _ => .cons rfl HasAll.strs
end L2
namespace L2
open PySem PySem.Spec PyProof.Rows
section
variable {X : Cx} {ce : Expr} {tc : TE} {y : Str} {ypos epos tpos : Pos} {h0 : ExceptHandler} {hs : List ExceptHandler} {j : Nat}
theorem ps_tryN (hc : PE X ce tc) (hxe : ∀ e s, X.xe e s → False) (hj : X.N[j]? = some y) (hy : X.env.scope.names.lookup y = some .local) (hN : X.N.Nodup) (hw : swapsWith ce (some (.Name y ypos)) epos.line X.env = pure false := by rfl) : PS X (.Try [.Assign [.Name y ypos] ce epos] (h0 :: hs) [] [] tpos) (tAsg tc (gName j)) := by
  intro pins s σ H De I h
  refine wpAny_Try_except (wpAny_execs_cons (wpAny_Assign_Name (wpAny_mono (hc pins s σ H _ I h) (fun v s1 ⟨z, H1, I1, r1, q1⟩ => ?_) fun er s' e => (hxe _ _ e).elim) hw))
  exact store_ok I1 hN hj (.inl hy) r1 (fun s2 I2 => wpAny_execs_nil (wpAny_execs_nil ⟨_, H1, I2, q1⟩)) (.inr hy)
end
end L2
namespace L2
open PySem PySem.Spec PyProof.Rows
theorem call_strN {X : Cx} : CallR X (.type "str") (fun xs H Q => ∃ i : Int, xs = [.int i] ∧ i.natAbs.log2 < 1920 ∧ Q (.str (toString i)) H) := by
  intro pins s σ H xs us Q I r h
  obtain ⟨i, rfl, hi, q⟩ := h
  obtain ⟨u, rfl, t, rfl⟩ := vals1 r
  exact P.str_of_int hi ⟨.str _, H, I.tok _, ⟨_, rfl⟩, q⟩
end L2
namespace L2
open PySem PySem.Spec PyProof.Rows
section
variable {prog : Program} {w : World} {A : Around} {E : Value → Shared → Prop} {s : Shared}
theorem nx_tup {j t : Addr} {i : Nat} {its : Array Value} {x : Value} {Q : Value → Shared → Prop} (hj : s.heap.IsTupleIter j t i) (ht : s.heap.IsTuple t its) (hxi : its[i]? = some x)
    (q : ∀ h', h'.IsTupleIter j t (i + 1) → Heap.SameBut j s.heap h' → Q x { s with heap := h' }) : wpAny (model prog w) A (Builtin.SmallTypes.nextOf (.ref j)) Q E s := by
  obtain ⟨u, hu, cu, du⟩ := id hj
  obtain ⟨v, hv, _, nv, dv⟩ := ht
  unfold Builtin.SmallTypes.nextOf
  refine wpAny_bind (wpAny_callSpecial?_slot (name := Str.ofString "__next__") hj.typeIs F.slot_tuple_iterator_next (wpAny_call_entry F.slot_tuple_iterator_next hj.typeIs F.entry_tuple_iterator_next ?_ (F.args_tuple_iterator_next_1 _)))
  show wpAny _ _ (field (.ref j) 0 >>= _) _ _ s
  refine wpAny_bind (wpAny_field hu du (x := .ref t) rfl ?_)
  rw [show (Value.ref t == Value.none) = false from rfl]
  simp only [Bool.false_eq_true, if_false]
  show wpAny _ _ (field (.ref j) 1 >>= _) _ _ s
  refine wpAny_bind (wpAny_field hu du (x := .int i 0) rfl ?_)
  refine wpAny_bind (wpAny_seqItems hv dv ?_)
  simp only [Int.toNat_natCast, hxi]
  refine wpAny_bind (wpAny_setField hu du (by simp) (wpAny_pure ⟨x, rfl, wpAny_pure (q _ ⟨_, Heap.get?_update_self _ hu (Obj.isFreed_of_fields (Obj.data_mapFields du _)), (Obj.cls_mapFields ..).trans cu, by rw [Obj.data_mapFields du]; simp [rawInt]⟩ (Heap.SameBut.update ..))⟩))
theorem nx_tup_end {j t : Addr} {i : Nat} {its : Array Value} {Q : Value → Shared → Prop} (hh : A.handled = none) (hj : s.heap.IsTupleIter j t i) (ht : s.heap.IsTuple t its) (hxi : its[i]? = none)
    (q : ∀ h' e, Heap.ExtBut j s.heap h' → (∃ o, h'.get? e = some o ∧ o.cls = .type "StopIteration") → E (.ref e) { s with heap := h' }) : wpAny (model prog w) A (Builtin.SmallTypes.nextOf (.ref j)) Q E s := by
  obtain ⟨u, hu, cu, du⟩ := id hj
  obtain ⟨v, hv, _, nv, dv⟩ := ht
  unfold Builtin.SmallTypes.nextOf
  refine wpAny_bind (wpAny_callSpecial?_slot (name := Str.ofString "__next__") hj.typeIs F.slot_tuple_iterator_next (wpAny_call_entry F.slot_tuple_iterator_next hj.typeIs F.entry_tuple_iterator_next ?_ (F.args_tuple_iterator_next_1 _)))
  show wpAny _ _ (field (.ref j) 0 >>= _) _ _ s
  refine wpAny_bind (wpAny_field hu du (x := .ref t) rfl ?_)
  rw [show (Value.ref t == Value.none) = false from rfl]
  simp only [Bool.false_eq_true, if_false]
  show wpAny _ _ (field (.ref j) 1 >>= _) _ _ s
  refine wpAny_bind (wpAny_field hu du (x := .int i 0) rfl ?_)
  refine wpAny_bind (wpAny_seqItems hv dv ?_)
  simp only [Int.toNat_natCast, hxi]
  refine wpAny_bind (wpAny_rule (wpAny_bind (wpAny_setField hu du (by simp) ?_)))
  refine wpAny_bind (m := newExc (.type "StopIteration") []) ?_
  simp only [newTuple, newExc]
  refine wpAny_bind (wpAny_newObj_type ?_ (by show _ ≤ sizeLine; decide))
  refine wpAny_bind (m := firstArgMember _ _) (wpAny_of_eq (a := Value.none) (by first | rfl | (simp only [firstArgMember]; rfl)) (wpAny_newObj_type ?_ (by size_fits)))
  simp only [raiseNew]
  refine wpAny_bind (wpAny_handled ?_)
  first | rw [show A.in1.handled = none from hh] | rw [hh]
  refine wpAny_bind (wpAny_pure (wpAny_throw ?_))
  exact q _ _ (((Heap.SameBut.update ..).extBut.push _).push _) ⟨_, Heap.get?_push_size _ rfl, rfl⟩
theorem zipT_item {z TI TO i j l m : Addr} {p : Nat} {xs ys : Array Value} {x y a b : Value} {Q : Value → Shared → Prop} (D : ZipApart z TI TO i j l m)
    (hz : IsZip s.heap z TI TO .none) (hTI : IsPair s.heap TI (.ref i) (.ref j)) (hTO : IsPair s.heap TO a b)
    (hi : s.heap.IsTupleIter i l p) (hj : s.heap.IsTupleIter j m p) (hl : s.heap.IsTuple l xs) (hm : s.heap.IsTuple m ys) (hx : xs[p]? = some x) (hy : ys[p]? = some y)
    (hQ : ∀ h', IsZip h' z TI TO (rawInt s.heap.objs.size) → IsPair h' TO x y → h'.IsTupleIter i l (p + 1) → h'.IsTupleIter j m (p + 1) → IsPair h' s.heap.objs.size x y →
      (∀ c o, c ≠ z → c ≠ TO → c ≠ i → c ≠ j → s.heap.get? c = some o → h'.get? c = some o) → Q (.ref s.heap.objs.size) { s with heap := h' }) :
    wpAny (model prog w) A (Builtin.«zip.__next__» ⟨[.ref z], []⟩) (fun fin s' => ∃ v, fin = .done (.ret v) ∧ Q v s') E s := by
  show wpAny _ _ (field (.ref z) 2 >>= _) _ _ _
  refine wpAny_bind (wpAny_field hz rfl (x := .bool false) rfl ?_)
  show wpAny _ _ (field (.ref z) 3 >>= _) _ _ _
  refine wpAny_bind (wpAny_field hz rfl (x := .ref TI) rfl ?_)
  refine wpAny_bind (wpAny_seqItems hTI rfl ?_)
  show wpAny _ _ (Builtin.SmallTypes.ownedTupleIsFree (.ref z) >>= _) _ _ _
  refine wpAny_bind ?_
  unfold Builtin.SmallTypes.ownedTupleIsFree
  refine wpAny_bind (wpAny_field hz rfl (x := .none) rfl (wpAny_pure ?_))
  simp only [if_true]
  refine wpAny_bind (wpAny_rule ?_)
  refine wpAny_bind (wpAny_field hz rfl (x := .ref TO) rfl ?_)
  refine wpAny_bind (wpAny_setField_rec hz (by simp) fun g1 z1 s1 => ?_)
  replace z1 : IsZip g1 z TI TO .ellipsis := z1
  refine wpAny_bind ?_
  simp only [List.zipIdx_cons, List.zipIdx_nil, List.forIn_cons, List.forIn_nil]
  refine wpAny_bind (wpAny_bind (wpAny_onRaise ?_))
  show wpAny _ _ (Builtin.SmallTypes.nextOf (.ref i) >>= _) _ _ _
  refine wpAny_bind (nx_tup (hi.extBut s1.extBut D.i1z) (hl.extBut s1.extBut D.l1z) hx fun g2 i2 s2 => wpAny_pure ?_)
  have t2 : IsPair g2 TO a b := s2.extBut _ _ D.TOi1 (s1.extBut _ _ D.TOz hTO)
  refine wpAny_bind (wpAny_seqItems t2 rfl ?_)
  refine wpAny_bind (wpAny_updateSeq_pair t2 fun g3 t3 s3 => ?_)
  replace t3 : IsPair g3 TO x b := t3
  refine wpAny_bind (wpAny_letGo (wpAny_pure ?_))
  refine wpAny_bind (wpAny_bind (wpAny_onRaise ?_))
  show wpAny _ _ (Builtin.SmallTypes.nextOf (.ref j) >>= _) _ _ _
  refine wpAny_bind (nx_tup (((hj.extBut s1.extBut D.i2z).extBut s2.extBut D.i12.symm).extBut s3.extBut D.TOi2.symm) (((hm.extBut s1.extBut D.l2z).extBut s2.extBut D.l2i1).extBut s3.extBut D.l2TO) hy fun g4 j4 s4 => wpAny_pure ?_)
  have t4 : IsPair g4 TO x b := s4.extBut _ _ D.TOi2 t3
  refine wpAny_bind (wpAny_seqItems t4 rfl ?_)
  refine wpAny_bind (wpAny_updateSeq_pair t4 fun g7 t7 s7 => ?_)
  replace t7 : IsPair g7 TO x y := t7
  refine wpAny_bind (wpAny_letGo (wpAny_pure (wpAny_pure ?_)))
  refine wpAny_bind (wpAny_seqItems t7 rfl ?_)
  refine wpAny_bind (wpAny_newTuple ?_)
  have hsz : g7.objs.size = s.heap.objs.size := by rw [s7.1, s4.1, s3.1, s2.1, s1.1]
  have z7 : IsZip g7 z TI TO .ellipsis := s7.extBut _ _ D.TOz.symm (s4.extBut _ _ D.i2z.symm (s3.extBut _ _ D.TOz.symm (s2.extBut _ _ D.i1z.symm z1)))
  have kp : ∀ c o, c ≠ z → c ≠ TO → c ≠ i → c ≠ j → s.heap.get? c = some o → g7.get? c = some o := fun c o c1 c2 c3 c4 e =>
    s7.extBut _ _ c2 (s4.extBut _ _ c4 (s3.extBut _ _ c2 (s2.extBut _ _ c3 (s1.extBut _ _ c1 e))))
  have i7 : g7.IsTupleIter i l (p + 1) := ((i2.extBut s3.extBut D.TOi1.symm).extBut s4.extBut D.i12).extBut s7.extBut D.TOi1.symm
  have j7 : g7.IsTupleIter j m (p + 1) := j4.extBut s7.extBut D.TOi2.symm
  have zlt : z < g7.objs.size := Heap.lt_size z7
  show wpAny _ _ (Builtin.SmallTypes.ownedTupleHandOut (.ref z) (.ref g7.objs.size) >>= _) _ _ _
  refine wpAny_bind ?_
  unfold Builtin.SmallTypes.ownedTupleHandOut
  have z8 : IsZip (g7.push { cls := .type "tuple", data := .seq #[x, y] }) z TI TO .ellipsis := Heap.get?_push_of_some _ z7
  refine wpAny_bind (wpAny_setField_rec z8 (by simp) fun g9 z9 s9 => ?_)
  replace z9 : IsZip g9 z TI TO (rawInt g7.objs.size) := z9
  refine wpAny_setField_rec z9 (by simp) fun g10 z10 s10 => ?_
  replace z10 : IsZip g10 z TI TO (rawInt g7.objs.size) := z10
  have up : ∀ c o, c ≠ z → g7.get? c = some o → g10.get? c = some o := fun c o c1 e => s10.extBut _ _ c1 (s9.extBut _ _ c1 (Heap.get?_push_of_some _ e))
  have t10 : IsPair g10 g7.objs.size x y := s10.extBut _ _ (Nat.ne_of_gt zlt) (s9.extBut _ _ (Nat.ne_of_gt zlt) (Heap.get?_push_size _ rfl))
  rw [hsz] at z10 t10
  refine wpAny_pure ⟨_, rfl, ?_⟩
  show Q (.ref g7.objs.size) _
  rw [hsz]
  exact hQ g10 z10 (up _ _ D.TOz t7) (i7.at fun o e => up _ o D.i1z e) (j7.at fun o e => up _ o D.i2z e) t10 fun c o c1 c2 c3 c4 e => up c o c1 (kp c o c1 c2 c3 c4 e)
theorem zipT_end {z TI TO i j l m : Addr} {p : Nat} {xs : Array Value} {Q : Option Value → Shared → Prop} (hh : A.handled = none) (D : ZipApart z TI TO i j l m)
    (hz : IsZip s.heap z TI TO .none) (hTI : IsPair s.heap TI (.ref i) (.ref j)) (hi : s.heap.IsTupleIter i l p) (hl : s.heap.IsTuple l xs) (hx : xs[p]? = none)
    (hQ : ∀ h', (∀ c o, c ≠ z → c ≠ i → s.heap.get? c = some o → h'.get? c = some o) → Q none { s with heap := h' }) : wpAny (model prog w) A (pyNext (.ref z)) Q E s := by
  have hT : s.TypeIs (.ref z) "zip" := ⟨_, hz, rfl⟩
  unfold pyNext
  refine wpAny_bind (wpAny_attempt (wpAny_callSpecial?_slot (name := Str.ofString "__next__") hT F.slot_zip_next (wpAny_call_entry F.slot_zip_next hT F.entry_zip_next ?_ (F.args_zip_next_1 _))))
  show wpAny _ _ (field (.ref z) 2 >>= _) _ _ _
  refine wpAny_bind (wpAny_field hz rfl (x := .bool false) rfl ?_)
  show wpAny _ _ (field (.ref z) 3 >>= _) _ _ _
  refine wpAny_bind (wpAny_field hz rfl (x := .ref TI) rfl ?_)
  refine wpAny_bind (wpAny_seqItems hTI rfl ?_)
  show wpAny _ _ (Builtin.SmallTypes.ownedTupleIsFree (.ref z) >>= _) _ _ _
  refine wpAny_bind ?_
  unfold Builtin.SmallTypes.ownedTupleIsFree
  refine wpAny_bind (wpAny_field hz rfl (x := .none) rfl (wpAny_pure ?_))
  simp only [if_true]
  refine wpAny_bind (wpAny_rule ?_)
  refine wpAny_bind (wpAny_field hz rfl (x := .ref TO) rfl ?_)
  refine wpAny_bind (wpAny_setField_rec hz (by simp) fun g1 z1 s1 => ?_)
  replace z1 : IsZip g1 z TI TO .ellipsis := z1
  refine wpAny_bind ?_
  simp only [List.zipIdx_cons, List.zipIdx_nil, List.forIn_cons, List.forIn_nil]
  refine wpAny_bind (wpAny_bind (wpAny_onRaise ?_))
  show wpAny _ _ (Builtin.SmallTypes.nextOf (.ref i) >>= _) _ _ _
  refine wpAny_bind (nx_tup_end hh (hi.extBut s1.extBut D.i1z) (hl.extBut s1.extBut D.l1z) hx fun g2 e s2 he => ?_)
  obtain ⟨oe, hoe, hce⟩ := he
  have z2 : IsZip g2 z TI TO .ellipsis := s2 _ _ D.i1z.symm z1
  have hez : e ≠ z := fun x => by subst x; rw [z2] at hoe; cases hoe; simp at hce
  refine wpAny_setField_rec z2 (by simp) fun g3 _ s3 => ?_
  have ho3 : g3.get? e = some oe := s3.extBut _ _ hez hoe
  refine wpAny_bind (wpAny_isInstance (T := "StopIteration") (b := true) ⟨oe, ho3, hce⟩ isSubtype_stop ?_)
  exact wpAny_pure (hQ _ fun c o c1 c3 x => s3.extBut _ _ c1 (s2 _ _ c3 (s1.extBut _ _ c1 x)))
end
end L2
namespace L2
open PySem PySem.Spec PyProof.Rows
abbrev th1 (h : Heap) (l : Addr) : Heap := h.push { cls := .type "tuple_iterator", data := .fields #[.ref l, .int 0 0] }
abbrev th2 (h : Heap) (l m : Addr) : Heap := (th1 h l).push { cls := .type "tuple_iterator", data := .fields #[.ref m, .int 0 0] }
abbrev th3 (h : Heap) (l m : Addr) : Heap := (th2 h l m).push { cls := .type "tuple", data := .seq #[.ref h.objs.size, .ref (th1 h l).objs.size] }
abbrev th4 (h : Heap) (l m : Addr) : Heap := (th3 h l m).push { cls := .type "tuple", data := .seq #[.none, .none] }
abbrev th5 (h : Heap) (l m : Addr) : Heap := (th4 h l m).push { cls := .type "zip", data := .fields #[.none, .bool false, .bool false, .ref (th2 h l m).objs.size, .ref (th3 h l m).objs.size] }
set_option maxHeartbeats 4000000 in
theorem meets_zipT (l m : Addr) (xs ys : Array Value) : Meets (Builtin.«zip.__new__» ⟨[.type "zip", .ref l, .ref m], []⟩) (fun _ R s => s.heap.IsTuple l xs ∧ s.heap.IsTuple m ys ∧ R (.ok (.ret (.ref (th4 s.heap l m).objs.size))) { s with heap := th5 s.heap l m }) :=
  .of_wp fun prog w A R s h => by
    obtain ⟨hp, g, d, tk, os⟩ := s
    obtain ⟨hl, hm, h⟩ := h
    have hsub := sub_zip
    have q1 : Heap.IsTuple (Shared.heap ⟨hp, g, d, tk, os⟩) l xs := hl
    have q2 : Heap.IsTuple (Shared.heap ⟨hp.push { cls := .type "tuple_iterator", data := .fields #[.ref l, .int 0 0] }, g, d, tk, os⟩) m ys := Heap.IsTuple.push hm _
    wp_walk using wpAny_pyIter_tuple q1, wpAny_pyIter_tuple q2
    exact ⟨_, rfl, h⟩
section
variable {prog : Program} {w : World} {A : Around} {E : Value → Shared → Prop} {s : Shared}
theorem call_zipT {l m : Addr} {xs ys : Array Value} {Q : Value → Shared → Prop} (hl : s.heap.IsTuple l xs) (hm : s.heap.IsTuple m ys)
    (h : ∀ h', IsZip h' (s.heap.objs.size + 4) (s.heap.objs.size + 2) (s.heap.objs.size + 3) .none → IsPair h' (s.heap.objs.size + 2) (.ref s.heap.objs.size) (.ref (s.heap.objs.size + 1)) → IsPair h' (s.heap.objs.size + 3) .none .none →
      h'.IsTupleIter s.heap.objs.size l 0 → h'.IsTupleIter (s.heap.objs.size + 1) m 0 → (∀ c o, s.heap.get? c = some o → h'.get? c = some o) → Q (.ref (s.heap.objs.size + 4)) { s with heap := h' }) :
    wpAny (model prog w) A (call (.type "zip") [.ref l, .ref m]) Q E s := by
  refine callType_new F.called_zip (by decide) (F.typeCall_zip_2 _ _) (F.newCall_zip_2 _ _) (fun obj => F.args_object_init_3 obj _ _) F.entry_zip_new (meets_zipT l m xs ys) ⟨hl, hm, ?_⟩
  have z1 : (th1 s.heap l).objs.size = s.heap.objs.size + 1 := Heap.size_push ..
  have z2 : (th2 s.heap l m).objs.size = s.heap.objs.size + 2 := by rw [Heap.size_push, z1]
  have z3 : (th3 s.heap l m).objs.size = s.heap.objs.size + 3 := by rw [Heap.size_push, z2]
  have z4 : (th4 s.heap l m).objs.size = s.heap.objs.size + 4 := by rw [Heap.size_push, z3]
  have g5 : (th5 s.heap l m).get? (th4 s.heap l m).objs.size = some _ := Heap.get?_push_size _ rfl
  have g4 : (th5 s.heap l m).get? (th3 s.heap l m).objs.size = some _ := Heap.get?_push_of_some _ (Heap.get?_push_size _ rfl)
  have g3 : (th5 s.heap l m).get? (th2 s.heap l m).objs.size = some _ := Heap.get?_push_of_some _ (Heap.get?_push_of_some _ (Heap.get?_push_size _ rfl))
  have g2 : (th5 s.heap l m).get? (th1 s.heap l).objs.size = some _ := Heap.get?_push_of_some _ (Heap.get?_push_of_some _ (Heap.get?_push_of_some _ (Heap.get?_push_size _ rfl)))
  have g1 : (th5 s.heap l m).get? s.heap.objs.size = some _ := Heap.get?_push_of_some _ (Heap.get?_push_of_some _ (Heap.get?_push_of_some _ (Heap.get?_push_of_some _ (Heap.get?_push_size _ rfl))))
  show _ ∧ _
  rw [z2, z3, z4] at g5
  rw [z1, z2] at g3
  rw [z3] at g4
  rw [z1] at g2
  rw [z4]
  exact ⟨⟨_, g5, rfl⟩, h _ g5 g3 g4 ⟨_, g1, rfl, rfl⟩ ⟨_, g2, rfl, rfl⟩ fun c o x => Heap.get?_push_of_some _ (Heap.get?_push_of_some _ (Heap.get?_push_of_some _ (Heap.get?_push_of_some _ (Heap.get?_push_of_some _ x))))⟩
end
def Itzt (K : PySem.W.Frag) (a b : Addr) : It :=
  ⟨fun i H => ∃ xs ys x y, SqT K H a xs ∧ SqT K H b ys ∧ xs[i]? = some x ∧ ys[i]? = some y, fun i H x H' => ∃ p y z, x = .ref p ∧ H p = none ∧ (∀ xs, SqT K H a xs → xs[i]? = some y) ∧ (∀ xs, SqT K H b xs → xs[i]? = some z) ∧ H' = upd H p (.tup [y, z]), fun i H => ∃ xs, SqT K H a xs ∧ xs.length ≤ i⟩
theorem turn_zipT {P : Program} {w : World} {K : PySem.W.Frag} {es : List Expr} {k0} {pos : Pos} {a b z TI TO i1 i2 : Addr} (D : ZipApart z TI TO i1 i2 a b) : Turn P w K (.Tuple es k0 pos) (Itzt K a b) [z, TI, TO, i1, i2] z
    (fun i h => IsZip h z TI TO .none ∧ IsPair h TI (.ref i1) (.ref i2) ∧ (∃ u v, IsPair h TO u v) ∧ h.IsTupleIter i1 a i ∧ h.IsTupleIter i2 b i) where
  mem := by simp
  obj := fun i h st c hc => by
    obtain ⟨hz, hTI, ⟨u, v, hTO⟩, ⟨o1, e1, _, d1⟩, ⟨o2, e2, _, d2⟩⟩ := st
    simp only [List.mem_cons, List.not_mem_nil, or_false] at hc
    rcases hc with rfl | rfl | rfl | rfl | rfl
    · exact ⟨_, hz, fun v q => by cases q⟩
    · exact ⟨_, hTI, fun v q => by cases q⟩
    · exact ⟨_, hTO, fun v q => by cases q⟩
    · exact ⟨o1, e1, fun v q => by rw [d1] at q; cases q⟩
    · exact ⟨o2, e2, fun v q => by rw [d2] at q; cases q⟩
  keep := fun i h h' st k => by
    obtain ⟨hz, hTI, ⟨u, v, hTO⟩, h1, h2⟩ := st
    exact ⟨k z (by simp) _ hz, k TI (by simp) _ hTI, ⟨u, v, k TO (by simp) _ hTO⟩, h1.at fun o q => k i1 (by simp) o q, h2.at fun o q => k i2 (by simp) o q⟩
  item := by
    intro X hP hw hK hc i pins s σ H E I hf st hg
    subst hP hw hK
    obtain ⟨hz, hTI, ⟨u0, v0, hTO⟩, h1, h2⟩ := st
    obtain ⟨xs, ys, x, y, hqa, hqb, hx, hy⟩ := hg
    obtain ⟨its, rv, p, _⟩ := I.tuple hqa
    obtain ⟨jts, rw', p', _⟩ := I.tuple hqb
    obtain ⟨u, hu, ru⟩ := rv.get hx
    obtain ⟨v, hv, rv'⟩ := rw'.get hy
    have hT : s.TypeIs (.ref z) "zip" := ⟨_, hz, rfl⟩
    unfold pyNext
    refine wpAny_bind (wpAny_attempt (wpAny_callSpecial?_slot (name := Str.ofString "__next__") hT F.slot_zip_next (wpAny_call_entry F.slot_zip_next hT F.entry_zip_next (zipT_item D hz hTI hTO h1 h2 (show s.heap.IsTuple a its.toArray from p) (show s.heap.IsTuple b jts.toArray from p') (x := u) (y := v) (by simpa using hu) (by simpa using hv) fun h1' hz1 hTO1 hi1 hi2 ht1 k1 => wpAny_pure ?_) (F.args_zip_next_1 _))))
    refine ⟨_, rfl, wpAny_letOwnedTupleGo_zip (s := { s with heap := h1' }) hz1 fun h2' hz2 sb => ?_⟩
    have np : s.heap.objs.size ≠ z := Nat.ne_of_gt (Heap.lt_size hz)
    have ht2 : h2'.get? s.heap.objs.size = some { cls := .type "tuple", data := .seq #[u, v] } := (sb.2 _ np).trans ht1
    have I2 : Inv X pins σ (upd H s.heap.objs.size (.tup [x, y])) { s with heap := h2', toks := s.toks } :=
      I.turnedNew (fp := [z, TI, TO, i1, i2]) (fun c ob hb q => (sb.2 c (fun r => hb (by simp [r]))).trans (k1 c ob (fun r => hb (by simp [r])) (fun r => hb (by simp [r])) (fun r => hb (by simp [r])) (fun r => hb (by simp [r])) q)) hf (Nat.le_refl _) (tup2_ok ru rv' ht2)
    refine ⟨.ref s.heap.objs.size, _, I2, rfl, ⟨_, x, y, rfl, I.hok.fresh (Nat.le_refl _), fun ys hy' => by rw [I.tuple_inj hy' hqa]; exact hx, fun ys hy' => by rw [I.tuple_inj hy' hqb]; exact hy, rfl⟩, ⟨hz2, (sb.2 _ D.TIz).trans (k1 TI _ D.TIz D.TITO D.TIi1 D.TIi2 hTI), ⟨_, _, (sb.2 _ D.TOz).trans hTO1⟩, hi1.at fun o q => (sb.2 i1 D.i1z).trans q, hi2.at fun o q => (sb.2 i2 D.i2z).trans q⟩, fun c hb => ?_⟩
    have zf := (hf c hb).1
    have lt : c < s.heap.objs.size := by
      simp only [List.mem_cons, List.not_mem_nil, or_false] at hb
      obtain ⟨o1, e1, _⟩ := h1
      obtain ⟨o2, e2, _⟩ := h2
      rcases hb with rfl | rfl | rfl | rfl | rfl
      · exact Heap.lt_size hz
      · exact Heap.lt_size hTI
      · exact Heap.lt_size hTO
      · exact Heap.lt_size e1
      · exact Heap.lt_size e2
    rw [upd_ne (Nat.ne_of_lt lt)]
    exact zf
  done := by
    intro X hP hw hK hc i pins s σ H E I hf st hg
    subst hP hw hK
    obtain ⟨hz, hTI, ⟨u0, v0, hTO⟩, h1, h2⟩ := st
    obtain ⟨xs, hqa, hend⟩ := hg
    obtain ⟨its, rv, p, _⟩ := I.tuple hqa
    have l1 := rv.length
    refine zipT_end (I.ok.hd hc) D hz hTI h1 (show s.heap.IsTuple a its.toArray from p) (by simp; (first | lia | omega)) fun h' kk => ⟨rfl, ?_⟩
    refine I.step (g' := s.gens) (d' := s.drawn) (t' := s.toks) (ch := [z, TI, TO, i1, i2]) (fun c hb => ?_) (fun c ob _ _ hn q _ => kk c ob (fun r => hn (by simp [r])) (fun r => hn (by simp [r])) q)
      (fun c ob _ _ hn q _ => ⟨ob.slots, kk c ob (fun r => hn (by simp [r])) (fun r => hn (by simp [r])) q⟩) (fun _ _ _ _ n => n)
      (fun c ob hn q => ⟨ob, kk c ob (fun r => hn (by simp [r])) (fun r => hn (by simp [r])) q⟩) (fun _ _ q => q) (fun _ _ _ q => q) (fun c ps q => ⟨#[], by rw [q]; simp⟩) (fun m hm => ?_) (fun c u e => ?_) I.bare
    · obtain ⟨_, q2, _, q4, q5, q6⟩ := hf c hb
      exact ⟨q4, q2, q5, q6⟩
    · obtain ⟨ob, es, ep, ho, r⟩ := hm
      have nL : ∀ c ∈ [z, TI, TO, i1, i2], X.env.locals ≠ c := fun c hc => Ne.symm (hf c hc).2.1
      exact ⟨ob, es, ep, kk _ ob (nL z (by simp)) (nL i1 (by simp)) ho, r⟩
    · have nf : ∀ c' u, H c' = some u → ∀ q ∈ [z, TI, TO, i1, i2], c' ≠ q := fun c' u e q hq r => by rw [r, (hf q hq).1] at e; cases e
      refine (I.hok c u e).stay (fun c' v hc' q => ?_) (fun _ q => q) fun _ _ q => q
      have go : ∀ u', H c' = some u' → h'.get? c' = some v := fun u' e' => kk c' v (nf c' _ e' z (by simp)) (nf c' _ e' i1 (by simp)) q
      rcases hc' with r | r
      · exact go u (by rw [r]; exact e)
      · exact go _ r
  self := fun _ _ _ _ _ st h => wpAny_pyIter_zip st.1 h
def iZipT (K : PySem.W.Frag) (ta : TA) : TI := fun σ H R => ta σ H fun vs H1 => ∃ a b, vs = [.ref a, .ref b] ∧ (∃ xs, SqT K H1 a xs) ∧ (∃ xs, SqT K H1 b xs) ∧ R (Itzt K a b) H1
section
variable {X : Cx}
theorem pi_zipT {es : List Expr} {k0} {tp : Pos} {a b : Expr} {ta : TA} {p pos : Pos} (hg : Gl X "zip") (hm : X.mg "zip" = none) (ha : PA X [a, b] ta) (hs : starEach [a, b] X.env = [(false, eval a X.env), (false, eval b X.env)] := by rfl) (hs2 : starEach [b] X.env = [(false, eval b X.env)] := by rfl) : PI X (.Tuple es k0 tp) (.Call (.Name "zip" p) [a, b] [] pos) (iZipT X.K ta) := by
  intro pins s σ H R I h
  refine Call_ (ld_blt I hg hm boot_zip (PyProof.Rows.callWith_type1 (thn (ha pos pins s σ H _ I h) fun us s1 ⟨vs, H1, I1, r1, q1⟩ => ?_) (by rw [hs, hs2]) (by rw [hs2]; rfl)))
  obtain ⟨l, l', e, ⟨xs, hq⟩, ⟨ys, hq'⟩, q⟩ := q1
  subst e
  cases r1 with
  | cons r rr =>
    cases rr with
    | cons r' rr =>
      cases rr
      cases r
      cases r'
      obtain ⟨its, rv, pl, hz⟩ := I1.tuple hq
      obtain ⟨jts, rv', pl', hz'⟩ := I1.tuple hq'
      have hl : l < s1.heap.objs.size := by obtain ⟨o, e, _⟩ := pl; exact Heap.lt_size e
      have hl' : l' < s1.heap.objs.size := by obtain ⟨o, e, _⟩ := pl'; exact Heap.lt_size e
      refine call_zipT (show s1.heap.IsTuple l its.toArray from pl) (show s1.heap.IsTuple l' jts.toArray from pl') fun h' hz hTI hTO hi hi' hk => ?_
      have I2 : Inv X pins σ H1 { s1 with heap := h' } := I1.kept (t' := s1.toks) hk
      refine wpAny_pyIter_zip (s := { s1 with heap := h' }) hz ⟨_, [s1.heap.objs.size + 4, s1.heap.objs.size + 2, s1.heap.objs.size + 3, s1.heap.objs.size, s1.heap.objs.size + 1], _, _, H1, rfl, I2, turn_zipT (zip_apart hl hl'), ⟨hz, hTI, ⟨_, _, hTO⟩, hi, hi'⟩, fun c hb => ?_, q⟩
      have hb' : s1.heap.objs.size ≤ c := zip_in hb
      exact I1.fpOk hb' (I1.hok.fresh hb')
end
theorem comp_zipT {K : PySem.W.Frag} {a b D : Addr} {xs ys : List V} {g : TG} {ts : TT} {te : TE} {σ : St} {H : Hp} {Q : Hp → Prop} (hlen : xs.length = ys.length) (Pv : Nat → St → Hp → Prop) (h0 : Pv 0 σ H) (hl : ∀ i σ H, i ≤ xs.length → Pv i σ H → SqT K H a xs ∧ SqT K H b ys)
    (hs : ∀ i m x y σ H r, xs[i]? = some x → ys[i]? = some y → i + m = xs.length → Pv i σ H → H r = none → g (.ref r) σ (upd H r (.tup [x, y])) fun σ2 H2 => ts σ2 H2 fun b H3 => if b = true then te σ2 H3 fun y H4 => ∃ zs, H4 D = some (.lst zs) ∧ zs.length < sizeLine ∧ ∃ m', m' < m ∧ (i + 1 + m' = xs.length ∧ Pv (i + 1) σ2 (upd H4 D (.lst (zs ++ [y])))) else ∃ m', m' < m ∧ (i + 1 + m' = xs.length ∧ Pv (i + 1) σ2 H3))
    (hd : ∀ σ H, Pv xs.length σ H → Q H) :
    ∃ W : Nat → Nat → St → Hp → Prop, (∃ m, W 0 m σ H) ∧ ∀ i m σ H, W i m σ H → ((Itzt K a b).stop i H ∧ Q H) ∨ ((Itzt K a b).go i H ∧ ∀ x H', (Itzt K a b).yld i H x H' → g x σ H' fun σ2 H2 => ts σ2 H2 fun b H3 => if b = true then te σ2 H3 fun y H4 => ∃ xs, H4 D = some (.lst xs) ∧ xs.length < sizeLine ∧ ∃ m', m' < m ∧ W (i + 1) m' σ2 (upd H4 D (.lst (xs ++ [y]))) else ∃ m', m' < m ∧ W (i + 1) m' σ2 H3) := by
  refine ⟨fun i m σ H => i + m = xs.length ∧ Pv i σ H, ⟨xs.length, by (first | lia | omega), h0⟩, fun i m σ H ⟨e, pv⟩ => ?_⟩
  obtain ⟨hS, hS'⟩ := hl i σ H (by (first | lia | omega)) pv
  by_cases hi : i < xs.length
  · refine .inr ⟨⟨xs, ys, xs[i], ys[i]'(by (first | lia | omega)), hS, hS', List.getElem?_eq_getElem hi, List.getElem?_eq_getElem (by (first | lia | omega))⟩, fun x H' y => ?_⟩
    obtain ⟨p, z, z', rfl, hp, hz, hz', rfl⟩ := y
    exact hs i m z z' σ H p (hz xs hS) (hz' ys hS') e pv hp
  · have : i = xs.length := by (first | lia | omega)
    subst this
    exact .inl ⟨⟨xs, hS, Nat.le_refl _⟩, hd σ H pv⟩
theorem comp_zipS {K : PySem.W.Frag} {a b D : Addr} {xs ys : List V} {g : TG} {ts : TT} {te : TE} {σ : St} {H : Hp} {Q : Hp → Prop} (hlen : ys.length ≤ xs.length) (Pv : Nat → St → Hp → Prop) (h0 : Pv 0 σ H) (hl : ∀ i σ H, i ≤ ys.length → Pv i σ H → SqL K H a xs ∧ SqL K H b ys)
    (hs : ∀ i m x y σ H r, xs[i]? = some x → ys[i]? = some y → i + m = ys.length → Pv i σ H → H r = none → g (.ref r) σ (upd H r (.tup [x, y])) fun σ2 H2 => ts σ2 H2 fun b H3 => if b = true then te σ2 H3 fun y H4 => ∃ zs, H4 D = some (.lst zs) ∧ zs.length < sizeLine ∧ ∃ m', m' < m ∧ (i + 1 + m' = ys.length ∧ Pv (i + 1) σ2 (upd H4 D (.lst (zs ++ [y])))) else ∃ m', m' < m ∧ (i + 1 + m' = ys.length ∧ Pv (i + 1) σ2 H3))
    (hd : ∀ σ H, Pv ys.length σ H → Q H) :
    ∃ W : Nat → Nat → St → Hp → Prop, (∃ m, W 0 m σ H) ∧ ∀ i m σ H, W i m σ H → ((Itz K a b).stop i H ∧ Q H) ∨ ((Itz K a b).go i H ∧ ∀ x H', (Itz K a b).yld i H x H' → g x σ H' fun σ2 H2 => ts σ2 H2 fun b H3 => if b = true then te σ2 H3 fun y H4 => ∃ xs, H4 D = some (.lst xs) ∧ xs.length < sizeLine ∧ ∃ m', m' < m ∧ W (i + 1) m' σ2 (upd H4 D (.lst (xs ++ [y]))) else ∃ m', m' < m ∧ W (i + 1) m' σ2 H3) := by
  refine ⟨fun i m σ H => i + m = ys.length ∧ Pv i σ H, ⟨ys.length, by (first | lia | omega), h0⟩, fun i m σ H ⟨e, pv⟩ => ?_⟩
  obtain ⟨hS, hS'⟩ := hl i σ H (by (first | lia | omega)) pv
  by_cases hi : i < ys.length
  · refine .inr ⟨⟨xs, ys, xs[i]'(by (first | lia | omega)), ys[i], hS, hS', List.getElem?_eq_getElem (by (first | lia | omega)), List.getElem?_eq_getElem hi⟩, fun x H' y => ?_⟩
    obtain ⟨p, z, z', rfl, hp, hz, hz', rfl⟩ := y
    exact hs i m z z' σ H p (hz xs hS) (hz' ys hS') e pv hp
  · have : i = ys.length := by (first | lia | omega)
    subst this
    exact .inl ⟨⟨xs, ys, hS, hS', .inr (Nat.le_refl _)⟩, hd σ H pv⟩
end L2
set_option maxHeartbeats 4000000
namespace My
open PySem PySem.Spec PyProof.Rows L2
local macro_rules | `(tactic| walk_at "side") => `(tactic| first | (first | lia | omega) | (dsimp only; (first | lia | omega)) | (simp only [CDiv, CDivB, CPow, CMul]; (first | lia | omega)) | decide)
local macro_rules | `(tactic| walk_at "rd") => `(tactic| repeat (first | (refine ⟨_, rfl, ?_⟩) | (refine ⟨_, _, rfl, rfl, ?_⟩) | (refine ⟨rfl, ?_⟩) | (refine ⟨(by walk_at "side"), ?_⟩)))
def top (i : Nat) : Stmt := PySem.Challenge.pw_bridgefind_k57_stands_read.main.body.getD i (.Pass ⟨0, 0, 0, 0⟩)
abbrev s_is_whole : Stmt := top 6
abbrev s_is_key : Stmt := top 7
abbrev s_is_one_of_first : Stmt := top 10
abbrev s_tree_of : Stmt := top 11
abbrev s_row_of : Stmt := top 14
abbrev s_long_together : Stmt := top 15
abbrev s_stand_of : Stmt := top 16
abbrev s_line_of : Stmt := top 18
abbrev s_show_stand : Stmt := top 19
abbrev s_number_in : Stmt := top 20
abbrev s_is_head : Stmt := top 21
abbrev s_rises : Stmt := top 22
abbrev s_read_stand : Stmt := top 23
abbrev s_l_begin : Stmt := top 25
abbrev s_l_mixed : Stmt := top 26
abbrev s_l_take : Stmt := top 27
abbrev s_l_key : Stmt := top 28
abbrev s_l_tree : Stmt := top 29
abbrev s_l_row : Stmt := top 30
abbrev s_l_rows : Stmt := top 31
abbrev s_l_stand : Stmt := top 32
abbrev s_l_line : Stmt := top 33
abbrev s_l_changed : Stmt := top 34
abbrev s_l_right : Stmt := top 35
abbrev s_law : Stmt := top 36
theorem sc_is_whole : FnScope ["thing"] ["thing"] (defScope s_is_whole) := ⟨rfl, rfl, rfl, by decide +kernel, rfl, by decide +kernel, by decide +kernel⟩
theorem sc_is_key : FnScope ["thing"] ["thing"] (defScope s_is_key) := ⟨rfl, rfl, rfl, by decide +kernel, rfl, by decide +kernel, by decide +kernel⟩
theorem sc_is_one_of_first : FnScope ["many", "thing"] ["many", "thing"] (defScope s_is_one_of_first) := ⟨rfl, rfl, rfl, by decide +kernel, rfl, by decide +kernel, by decide +kernel⟩
theorem sc_tree_of : FnScope ["parents", "knot"] ["parents"] (defScope s_tree_of) := ⟨rfl, rfl, rfl, by decide +kernel, rfl, by decide +kernel, by decide +kernel⟩
theorem sc_row_of : FnScope ["things", "thing"] ["things"] (defScope s_row_of) := ⟨rfl, rfl, rfl, by decide +kernel, rfl, by decide +kernel, by decide +kernel⟩
theorem sc_long_together : FnScope ["lists"] ["lists"] (defScope s_long_together) := ⟨rfl, rfl, rfl, by decide +kernel, rfl, by decide +kernel, by decide +kernel⟩
theorem sc_stand_of : FnScope ["tree", "rows", "told"] ["tree", "rows"] (defScope s_stand_of) := ⟨rfl, rfl, rfl, by decide +kernel, rfl, by decide +kernel, by decide +kernel⟩
theorem sc_line_of : FnScope ["parent", "row", "head"] ["parent", "row"] (defScope s_line_of) := ⟨rfl, rfl, rfl, by decide +kernel, rfl, by decide +kernel, by decide +kernel⟩
theorem sc_show_stand : FnScope ["stand"] ["stand"] (defScope s_show_stand) := ⟨rfl, rfl, rfl, by decide +kernel, rfl, by decide +kernel, by decide +kernel⟩
theorem sc_number_in : FnScope ["word", "number"] ["word"] (defScope s_number_in) := ⟨rfl, rfl, rfl, by decide +kernel, rfl, by decide +kernel, by decide +kernel⟩
theorem sc_is_head : FnScope ["knot", "words"] ["knot", "words"] (defScope s_is_head) := ⟨rfl, rfl, rfl, by decide +kernel, rfl, by decide +kernel, by decide +kernel⟩
theorem sc_rises : FnScope ["things"] ["things"] (defScope s_rises) := ⟨rfl, rfl, rfl, by decide +kernel, rfl, by decide +kernel, by decide +kernel⟩
theorem sc_read_stand : FnScope ["text", "parents", "rows", "knot", "line", "words", "heads", "row"] ["text"] (defScope s_read_stand) := ⟨rfl, rfl, rfl, by decide +kernel, rfl, by decide +kernel, by decide +kernel⟩
theorem sc_l_begin : FnScope ["_law_script"] ["_law_script"] (defScope s_l_begin) := ⟨rfl, rfl, rfl, by decide +kernel, rfl, by decide +kernel, by decide +kernel⟩
theorem sc_l_mixed : FnScope ["_law_cell", "_law_k", "_law_one", "_law_two"] ["_law_cell", "_law_k"] (defScope s_l_mixed) := ⟨rfl, rfl, rfl, by decide +kernel, rfl, by decide +kernel, by decide +kernel⟩
theorem sc_l_take : FnScope ["_law_state", "_law_most", "_law_k", "_law_script", "_law_cell", "_law_found"] ["_law_state", "_law_most"] (defScope s_l_take) := ⟨rfl, rfl, rfl, by decide +kernel, rfl, by decide +kernel, by decide +kernel⟩
theorem sc_l_key : FnScope ["_law_state", "_law_way"] ["_law_state"] (defScope s_l_key) := ⟨rfl, rfl, rfl, by decide +kernel, rfl, by decide +kernel, by decide +kernel⟩
theorem sc_l_tree : FnScope ["_law_state", "_law_most", "_law_way", "_law_parents", "_law_k"] ["_law_state", "_law_most"] (defScope s_l_tree) := ⟨rfl, rfl, rfl, by decide +kernel, rfl, by decide +kernel, by decide +kernel⟩
theorem sc_l_row : FnScope ["_law_state", "_law_most", "_law_found", "_law_k"] ["_law_state", "_law_most"] (defScope s_l_row) := ⟨rfl, rfl, rfl, by decide +kernel, rfl, by decide +kernel, by decide +kernel⟩
theorem sc_l_rows : FnScope ["_law_state", "_law_many", "_law_most", "_law_rows_here", "_law_k", "_law_row_here"] ["_law_state", "_law_many", "_law_most"] (defScope s_l_rows) := ⟨rfl, rfl, rfl, by decide +kernel, rfl, by decide +kernel, by decide +kernel⟩
theorem sc_l_stand : FnScope ["_law_state", "_law_most", "_law_keys", "_law_tree_here"] ["_law_state", "_law_most", "_law_keys"] (defScope s_l_stand) := ⟨rfl, rfl, rfl, by decide +kernel, rfl, by decide +kernel, by decide +kernel⟩
theorem sc_l_line : FnScope ["_law_parent", "_law_row_here", "_law_words"] ["_law_parent", "_law_row_here"] (defScope s_l_line) := ⟨rfl, rfl, rfl, by decide +kernel, rfl, by decide +kernel, by decide +kernel⟩
theorem sc_l_changed : FnScope ["_law_state", "_law_tree_here", "_law_rows_here", "_law_way", "_law_at", "_law_row_here"] ["_law_state", "_law_tree_here", "_law_rows_here"] (defScope s_l_changed) := ⟨rfl, rfl, rfl, by decide +kernel, rfl, by decide +kernel, by decide +kernel⟩
theorem sc_l_right : FnScope ["_law_found", "_law_stand_here", "_law_row_here"] ["_law_found", "_law_stand_here"] (defScope s_l_right) := ⟨rfl, rfl, rfl, by decide +kernel, rfl, by decide +kernel, by decide +kernel⟩
theorem sc_law : FnScope ["_law_script", "_law_state", "_law_stand_here", "_law_turn", "_law_text"] ["_law_script"] (defScope s_law) := ⟨rfl, rfl, rfl, by decide +kernel, rfl, by decide +kernel, by decide +kernel⟩
abbrev ps_is_whole : List Str := ["thing"]
abbrev ps_is_key : List Str := ["thing"]
abbrev ps_is_one_of_first : List Str := ["many", "thing"]
abbrev ps_tree_of : List Str := ["parents"]
abbrev ps_row_of : List Str := ["things"]
abbrev ps_long_together : List Str := ["lists"]
abbrev ps_stand_of : List Str := ["tree", "rows"]
abbrev ps_line_of : List Str := ["parent", "row"]
abbrev ps_show_stand : List Str := ["stand"]
abbrev ps_number_in : List Str := ["word"]
abbrev ps_is_head : List Str := ["knot", "words"]
abbrev ps_rises : List Str := ["things"]
abbrev ps_read_stand : List Str := ["text"]
abbrev ps_l_begin : List Str := ["_law_script"]
abbrev ps_l_mixed : List Str := ["_law_cell", "_law_k"]
abbrev ps_l_take : List Str := ["_law_state", "_law_most"]
abbrev ps_l_key : List Str := ["_law_state"]
abbrev ps_l_tree : List Str := ["_law_state", "_law_most"]
abbrev ps_l_row : List Str := ["_law_state", "_law_most"]
abbrev ps_l_rows : List Str := ["_law_state", "_law_many", "_law_most"]
abbrev ps_l_stand : List Str := ["_law_state", "_law_most", "_law_keys"]
abbrev ps_l_line : List Str := ["_law_parent", "_law_row_here"]
abbrev ps_l_changed : List Str := ["_law_state", "_law_tree_here", "_law_rows_here"]
abbrev ps_l_right : List Str := ["_law_found", "_law_stand_here"]
abbrev ps_law : List Str := ["_law_script"]
structure Txt (K : PySem.W.Frag) (mg : Str → Option Value) : Prop where
  m_abs : mg "abs" = none
  m_all : mg "all" = none
  m_bool : mg "bool" = none
  m_enumerate : mg "enumerate" = none
  m_int : mg "int" = none
  m_isinstance : mg "isinstance" = none
  m_len : mg "len" = none
  m_list : mg "list" = none
  m_max : mg "max" = none
  m_range : mg "range" = none
  m_set : mg "set" = none
  m_sorted : mg "sorted" = none
  m_str : mg "str" = none
  m_sum : mg "sum" = none
  m_tuple : mg "tuple" = none
  m_zip : mg "zip" = none
  g_MOST_KNOTS : ∃ t, mg "MOST_KNOTS" = some (.int 40 t)
  g_MOST_KEYS : ∃ t, mg "MOST_KEYS" = some (.int 300 t)
def lu (a b : Nat) : Nat := if a = b then 0 else if a % 2 = b % 2 then lu (a / 2) (b / 2) + 1 else 0
termination_by a + b
decreasing_by (first | lia | omega)
def xr (a b : Nat) : Nat := (a ||| b) - (a &&& b)
def lowbit (n : Nat) : Nat := n - (n &&& (n - 1))
def fig (a b : Nat) : Nat := 2 * lu a b + b / 2 ^ lu a b % 2
def turnAt (xs : List Nat) (i : Nat) : Nat := if i = 0 then xs.getD 0 0 % 2 else fig (xs.getD (i - 1) 0) (xs.getD i 0)
def turnL (xs : List Nat) : List Nat := (List.range xs.length).map (turnAt xs)
def Unl (xs : List Nat) : Prop := ∀ i, i + 1 < xs.length → xs.getD i 0 ≠ xs.getD (i + 1) 0
def Below (m : Nat) (xs : List Nat) : Prop := ∀ i, i < xs.length → xs.getD i 0 < m
def TreeOk (ps : List Nat) : Prop := ∀ i (h : i < ps.length), ps[i] ≤ i
def par (ps : List Nat) : Nat → Option Nat
  | 0 => none
  | k + 1 => ps[k]?
theorem par_lt {ps : List Nat} (T : TreeOk ps) {k p : Nat} (h : par ps k = some p) : p < k ∧ k < ps.length + 1 := by
  cases k with
  | zero => cases h
  | succ k =>
    obtain ⟨h1, rfl⟩ := List.getElem?_eq_some_iff.mp (show ps[k]? = some p from h)
    have := T k h1
    (first | lia | omega)
theorem par_some {ps : List Nat} {k : Nat} (h1 : 1 ≤ k) (h2 : k < ps.length + 1) : ∃ p, par ps k = some p := by
  cases k with
  | zero => (first | lia | omega)
  | succ k => exact ⟨_, List.getElem?_eq_getElem (show k < ps.length by (first | lia | omega))⟩
theorem par_none {ps : List Nat} {k : Nat} (h2 : k < ps.length + 1) (h : par ps k = none) : k = 0 := by
  cases k with
  | zero => rfl
  | succ k =>
    have := List.getElem?_eq_none_iff.mp (show ps[k]? = none from h)
    (first | lia | omega)
def wayF (ps : List Nat) (one : Nat) : Nat → Nat → Option (List Nat)
  | 0, _ => none
  | f + 1, o => if o = one then some [o] else match par ps o with
    | none => none
    | some p => (wayF ps one f p).map (· ++ [o])
def wayL (ps : List Nat) (one o : Nat) : Option (List Nat) := wayF ps one (o + 1) o
def Chain (ps : List Nat) (w : List Nat) : Prop := ∀ t, t + 1 < w.length → par ps (w.getD (t + 1) 0) = some (w.getD t 0)
def isB (ps : List Nat) (k j : Nat) : Bool := (wayL ps k j).isSome
def benL (ps : List Nat) (k n : Nat) : List Nat := (List.range n).filter (isB ps k)
def childL (ps : List Nat) (k n : Nat) : List Nat := (List.range n).filter fun j => decide (par ps j = some k)
seal PSs PS PE PT PW PA PI PG PO
section
variable {P : Program} {w : World} {K : PySem.W.Frag} {mg : Str → Option Value} {base : Heap}
theorem ok_mixed (T : Txt K mg) (D_l_mixed : DF K mg "_law_mixed" s_l_mixed ps_l_mixed) : FC P w K mg base 1 "_law_mixed" ps_l_mixed spMixed := by
  refine D_l_mixed.ok sc_l_mixed (fun vs H Q E h => ?_) (fun f cdv A outer s H vs Q E hr h => ?_)
  · obtain ⟨c, k, rfl, _⟩ := h
    rfl
  obtain ⟨c, k, rfl, q⟩ := h
  refine ⟨_, (pss_cons (ps_set (i := 2) sc_l_mixed.nd rfl (Or.inl rfl) (pe_op op_mod (pe_op op_mul (pe_op op_add (pe_op op_add (pe_op op_mod (pv 0) pe_int) (pe_op op_mul pe_int (pv 1))) pe_int) pe_int) pe_int))
      (pss_cons (ps_set (i := 3) sc_l_mixed.nd rfl (Or.inl rfl) (pe_op op_mod (pe_op op_add (pe_op op_add (pe_op op_mul (pv 2) (pv 2)) (pe_op op_mul pe_int (pv 2))) (pv 1)) pe_int))
      (pss_one (ps_ret (pe_op op_fdiv (pe_op op_mod (pe_op op_add (pe_op op_add (pe_op op_mul (pv 3) (pv 3)) (pe_op op_mul pe_int (pv 3))) (pe_op op_mul pe_int (pv 1))) pe_int) pe_int))))), ?_⟩
  walk_at "rd"
  exact q _
theorem ok_begin (T : Txt K mg) (D_l_begin : DF K mg "_law_begin" s_l_begin ps_l_begin) : FC P w K mg base 1 "_law_begin" ps_l_begin (spBegin K) := by
  refine D_l_begin.ok sc_l_begin (fun vs H Q E h => ?_) (fun f cdv A outer s H vs Q E hr h => ?_)
  · obtain ⟨L, ns, rfl, _⟩ := h
    rfl
  obtain ⟨L, ns, rfl, hS, q⟩ := h
  refine ⟨_, (pss_one (ps_ret (pe_disp (pps_cons pe_str (pv 0) (pps_cons pe_str pe_int (pps_cons pe_str pe_int pps_nil))) rfl rfl (by simp) (by decide)))), ?_⟩
  intro p hp
  refine ⟨_, rfl, upd_same, [(.inr "script", .ref L), (.inr "at", .int 0), (.inr "left", .int 0)], rfl, (by show 3 ≤ 15; decide), ?_⟩
  have e : upd (upd H p (.dK [])) p (.dK (mergeK [] [(.inr "script", .ref L), (.inr "at", .int 0), (.inr "left", .int 0)])) = upd H p (lawSt L 0 0) := by
    rw [upd_upd]
    have : mergeK [] [((.inr "script" : Key), V.ref L), (.inr "at", .int 0), (.inr "left", .int 0)] = [(.inr "script", .ref L), (.inr "at", .int 0), (.inr "left", .int 0)] := by
      have a1 : putK [] (.inr "script" : Key) (V.ref L) = [(.inr "script", .ref L)] := putK_new (kvs := []) _ rfl
      have a2 : putK [((.inr "script" : Key), V.ref L)] (.inr "at") (.int 0) = [(.inr "script", .ref L), (.inr "at", .int 0)] := by
        rw [putK_new _ (by rw [valV_neg (key_ne (show ("script" : Str) ≠ "at" by decide +kernel))]; rfl)]
        rfl
      have a3 : putK [((.inr "script" : Key), V.ref L), (.inr "at", .int 0)] (.inr "left") (.int 0) = [(.inr "script", .ref L), (.inr "at", .int 0), (.inr "left", .int 0)] := by
        rw [putK_new _ (by rw [valV_neg (key_ne (show ("script" : Str) ≠ "left" by decide +kernel)), valV_neg (key_ne (show ("at" : Str) ≠ "left" by decide +kernel))]; rfl)]
        rfl
      unfold mergeK
      simp only [List.foldl_cons, List.foldl_nil]
      rw [a1, a2, a3]
    rw [this]
    rfl
  rw [e]
  exact q p _ hp (same_new hp _) ⟨ns, 0, 0, upd_same, (same_new hp _).seq hS⟩
theorem ok_take (T : Txt K mg) (D_l_take : DF K mg "_law_take" s_l_take ps_l_take) (F_l_mixed : FC P w K mg base 1 "_law_mixed" ps_l_mixed spMixed) : FC P w K mg base 2 "_law_take" ps_l_take (spTake K) := by
  refine D_l_take.ok sc_l_take (fun vs H Q E h => ?_) (fun f cdv A outer s H vs Q E hr h => ?_)
  · obtain ⟨d, L, m, rfl, _⟩ := h
    rfl
  obtain ⟨d, L, m, rfl, ⟨hm, hm'⟩, ⟨ns, a, l, hd, hS⟩, q⟩ := h
  refine ⟨_, (pss_cons (ps_set (i := 2) sc_l_take.nd rfl (Or.inl rfl) (pe_dget (hu_of hr) (pv 0) pe_str (fun _ _ => rfl)))
      (pss_cons (ps_set (i := 3) sc_l_take.nd rfl (Or.inl rfl) (pe_dget (hu_of hr) (pv 0) pe_str (fun _ _ => rfl)))
      (pss_join (ps_if (pt_cmpR op_eq (pe_dget (hu_of hr) (pv 0) pe_str (fun _ _ => rfl)) pe_int (nomark _)) (pss_cons (ps_dput (hu_of hr) (pv 0) pe_str (pe_op op_add (pv 2) pe_int) rfl)
      (pss_cons (ps_set (i := 4) sc_l_take.nd rfl (Or.inl rfl) pe_int)
      (pss_join (ps_if (pt_cmpR op_gt (pe_callB call_len_seq rfl T.m_len boot_len (pa_cons (pv 3) pa_nil)) pe_int (nomark _)) (pss_one (ps_set (i := 4) sc_l_take.nd rfl (Or.inl rfl) (pe_ix ix_list (pv 3) (pe_op op_mod (pv 2) (pe_callB call_len_seq rfl T.m_len boot_len (pa_cons (pv 3) pa_nil))) (fun _ _ => rfl)))) pss_nil)
      (pss_join (ps_if (PW.pt (pw_or (pt_cmpR op_ge (pv 2) (pe_callB call_len_seq rfl T.m_len boot_len (pa_cons (pv 3) pa_nil)) (nomark _)) (pw_or1 (pt_cmpR op_lt (pe_callB call_abs rfl T.m_abs boot_abs (pa_cons (pv 4) pa_nil)) (pe_op op_pow pe_int pe_int) (nomark _))))) (pss_one (ps_ret (pe_op op_mod (pe_fc F_l_mixed hr (pa_cons (pv 4) (pa_cons (pv 2) pa_nil))) (pv 1)))) pss_nil)
      (pss_one (ps_dput (hu_of hr) (pv 0) pe_str (pe_callB call_abs rfl T.m_abs boot_abs (pa_cons (pv 4) pa_nil)) rfl)))))) pss_nil)
      (pss_cons (ps_set (i := 5) sc_l_take.nd rfl (Or.inl rfl) (pe_op op_mod (pe_dget (hu_of hr) (pv 0) pe_str (fun _ _ => rfl)) (pv 1)))
      (pss_cons (ps_dput (hu_of hr) (pv 0) pe_str (pe_op op_fdiv (pe_dget (hu_of hr) (pv 0) pe_str (fun _ _ => rfl)) (pv 1)) rfl)
      (pss_one (ps_ret (pv 5)))))))), ?_⟩
  refine ⟨_, rfl, _, _, rfl, get_at hd, _, rfl, _, _, rfl, get_script hd, ?_⟩
  refine ⟨fun σ' H' => ∃ (x2 x3 x4 x5 : Option V) (a' l' : Int), σ' = [some (.ref d), some (.int m), x2, x3, x4, x5] ∧ H' d = some (lawSt L a' l') ∧ Keep d H H', ?_, ?_⟩
  · refine ⟨_, rfl, _, _, rfl, get_left hd, rfl, _, rfl, ?_⟩
    refine ite2 (fun _ => ?_) (fun _ => ?_)
    · refine ⟨_, rfl, _, _, rfl, rfl, _, rfl, _, _, rfl, put_at hd, ?_⟩
      have hd1 : upd H d (lawSt L (a + 1) l) d = some (lawSt L (a + 1) l) := upd_same
      obtain ⟨-, k1⟩ := LS.set (a' := a + 1) (l' := l) hd hS
      have hS1 := seq_keep hd k1 hS
      generalize upd H d (lawSt L (a + 1) l) = H1 at hd1 k1 hS1 ⊢
      refine ⟨fun σ' H' => ∃ c : Int, σ' = [some (.ref d), some (.int m), some (.int a), some (.ref L), some (.int c), none] ∧ H1 = H', ?_, ?_⟩
      · refine ⟨_, rfl, _, _, rfl, .inl hS1, _, _, rfl, rfl, _, rfl, ?_⟩
        refine ite2 (fun c => ?_) (fun c => ?_)
        · have c' : (0 : Int) < (((ns.map V.int).length : Nat) : Int) := of_decide_eq_true c
          obtain ⟨v, hv⟩ := at_mod (ns := ns) (k := a) (by rw [List.length_map] at c'; (first | lia | omega))
          refine ⟨_, rfl, _, rfl, _, rfl, _, _, rfl, .inl hS1, _, _, rfl, rfl, c', _, _, _, _, rfl, rfl, hS1, hv, ?_⟩
          exact ⟨v, rfl, rfl⟩
        · exact ⟨0, rfl, rfl⟩
      rintro σ' H' ⟨c, rfl, rfl⟩
      refine ⟨fun σ' H' => σ' = [some (.ref d), some (.int m), some (.int a), some (.ref L), some (.int c), none] ∧ H1 = H', ?_, ?_⟩
      · refine ⟨_, rfl, _, rfl, _, _, rfl, .inl hS1, _, _, rfl, rfl, _, rfl, ?_⟩
        refine ite2 (fun _ => ?_) (fun _ => ?_)
        · refine iteT ?_
          refine ⟨_, rfl, _, rfl, c, a, rfl, fun v => ⟨_, rfl, _, _, rfl, rfl, hm, ?_⟩⟩
          exact q _ _ (Int.emod_nonneg _ (by (first | lia | omega))) (Int.emod_lt_of_pos _ hm) k1 ⟨ns, a + 1, l, hd1, hS1⟩
        · refine ⟨_, rfl, _, rfl, _, _, rfl, rfl, ⟨by decide, by decide, by decide⟩, _, _, rfl, rfl, _, rfl, ?_⟩
          refine ite2 (fun _ => ?_) (fun _ => ?_)
          · refine ⟨_, rfl, _, rfl, c, a, rfl, fun v => ⟨_, rfl, _, _, rfl, rfl, hm, ?_⟩⟩
            exact q _ _ (Int.emod_nonneg _ (by (first | lia | omega))) (Int.emod_lt_of_pos _ hm) k1 ⟨ns, a + 1, l, hd1, hS1⟩
          · exact ⟨rfl, rfl⟩
      rintro σ' H' ⟨rfl, rfl⟩
      refine ⟨_, rfl, _, rfl, _, rfl, _, _, rfl, put_left hd1, ?_⟩
      obtain ⟨-, k2⟩ := LS.set (a' := a + 1) (l' := if c < 0 then -c else c) hd1 hS1
      exact ⟨_, _, _, _, _, _, rfl, upd_same, k1.trans k2⟩
    · exact ⟨_, _, _, _, a, l, rfl, hd, Keep.refl _ _⟩
  rintro σ' H' ⟨x2, x3, x4, x5, a', l', rfl, hd', k'⟩
  have hS' := seq_keep hd k' hS
  refine ⟨_, rfl, _, _, rfl, get_left hd', _, rfl, _, _, rfl, rfl, hm, ?_⟩
  refine ⟨_, rfl, _, _, rfl, get_left hd', _, rfl, _, _, rfl, rfl, ⟨hm, hm'⟩, _, rfl, _, _, rfl, put_left hd', ?_⟩
  obtain ⟨s1, k1⟩ := LS.set (a' := a') (l' := l' / m) hd' hS'
  refine ⟨_, rfl, ?_⟩
  exact q _ _ (Int.emod_nonneg _ (by (first | lia | omega))) (Int.emod_lt_of_pos _ hm) (k'.trans k1) s1
abbrev nV (n : Nat) : V := .int (n : Int)
theorem nat_ex {v : Int} (h : 0 ≤ v) : ∃ n : Nat, v = (n : Int) := ⟨v.toNat, by (first | lia | omega)⟩
def But (p : Addr) (H H' : Hp) : Prop := ∀ b o, b ≠ p → H b = some o → H' b = some o
theorem But.sq {K : PySem.W.Frag} {p : Addr} {H H' : Hp} {a : Addr} {xs : List V} (k : But p H H') (h : SqL K H a xs) (n : H p = none) : SqL K H' a xs := by
  rcases h with (h | ⟨o, h⟩) | h
  · exact .inl (.inl (k _ _ (ne_of_none h n) h))
  · exact .inl (.inr ⟨o, k _ _ (ne_of_none h n) h⟩)
  · exact .inr h
theorem sIx_nat {n d i : Nat} : HT.sIx n d (some (i : Int)) = min i n := by
  unfold HT.sIx
  simp
  try (first | lia | omega)
theorem cutV_to (xs : List V) (a : Nat) : cutV xs none (some (a : Int)) = xs.take a := by
  unfold cutV
  rw [sIx_nat, show HT.sIx xs.length 0 none = 0 from rfl, List.drop_zero, Nat.sub_zero]
  by_cases h : a ≤ xs.length
  · rw [Nat.min_eq_left h]
  · rw [Nat.min_eq_right (by (first | lia | omega)), List.take_of_length_le (Nat.le_refl _), List.take_of_length_le (by (first | lia | omega))]
theorem cutV_from (xs : List V) (a : Nat) : cutV xs (some (a : Int)) none = xs.drop a := by
  unfold cutV
  rw [sIx_nat, show HT.sIx xs.length xs.length none = xs.length from rfl]
  by_cases h : a ≤ xs.length
  · rw [Nat.min_eq_left h, List.take_of_length_le (by rw [List.length_drop]; exact Nat.le_refl _)]
  · rw [Nat.min_eq_right (by (first | lia | omega)), List.drop_eq_nil_of_le (Nat.le_refl _), List.drop_eq_nil_of_le (show xs.length ≤ a by (first | lia | omega)), List.take_nil]
def spKey (K : PySem.W.Frag) : Sp := fun vs H Q _ => ∃ d L : Addr, vs = [.ref d] ∧ LS K L d H ∧ ∀ (v : Int) (H' : Hp), -(10 ^ 60) < v → v < 10 ^ 60 → Keep d H H' → LS K L d H' → Q (.int v) H'
theorem key_fits {x m : Int} (h1 : -999 ≤ x) (h2 : x ≤ 999) (h3 : 0 < m) (h4 : m ≤ 10 ^ 57) : -(10 ^ 60) < x * m ∧ x * m < 10 ^ 60 := by
  have a := Int.mul_le_mul_of_nonneg_right h2 (Int.le_of_lt h3)
  have b := Int.mul_le_mul_of_nonneg_right h1 (Int.le_of_lt h3)
  (first | lia | omega)
theorem ok_key (T : Txt K mg) (D_l_key : DF K mg "_law_key" s_l_key ps_l_key) (F_l_take : FC P w K mg base 2 "_law_take" ps_l_take (spTake K)) : FC P w K mg base 3 "_law_key" ps_l_key (spKey K) := by
  refine D_l_key.ok sc_l_key (fun vs H Q E h => ?_) (fun f cdv A outer s H vs Q E hr h => ?_)
  · obtain ⟨d, L, rfl, _⟩ := h
    rfl
  obtain ⟨d, L, rfl, hs, q⟩ := h
  refine ⟨_, (pss_cons (ps_set (i := 1) sc_l_key.nd rfl (Or.inl rfl) (pe_fc F_l_take hr (pa_cons (pv 0) (pa_cons pe_int pa_nil))))
      (pss_join (ps_if (pt_cmpR op_lt (pv 1) pe_int (nomark _)) (pss_one (ps_ret (pe_fc F_l_take hr (pa_cons (pv 0) (pa_cons pe_int pa_nil))))) pss_nil)
      (pss_join (ps_if (pt_cmpR op_lt (pv 1) pe_int (nomark _)) (pss_one (ps_ret (pe_op op_sub (pe_fc F_l_take hr (pa_cons (pv 0) (pa_cons pe_int pa_nil))) pe_int))) pss_nil)
      (pss_join (ps_if (pt_cmpR op_eq (pv 1) pe_int (nomark _)) (pss_one (ps_ret (pe_op op_mul (pe_op op_sub (pe_fc F_l_take hr (pa_cons (pv 0) (pa_cons pe_int pa_nil))) pe_int) (pe_ix ix_list (pe_lst (pa_cons pe_int (pa_cons (pe_op op_pow pe_int pe_int) (pa_cons (pe_op op_pow pe_int pe_int) (pa_cons (pe_op op_pow pe_int pe_int) pa_nil))))) (pe_fc F_l_take hr (pa_cons (pv 0) (pa_cons pe_int pa_nil))) (fun _ _ => rfl))))) pss_nil)
      (pss_one (ps_ret (pe_op op_mul (pe_ix ix_list (pe_lst (pa_cons pe_int (pa_cons (pe_un un_neg pe_int) pa_nil))) (pe_fc F_l_take hr (pa_cons (pv 0) (pa_cons pe_int pa_nil))) (fun _ _ => rfl)) (pe_op op_sub (pe_op op_sub (pe_op op_pow pe_int pe_int) pe_int) (pe_fc F_l_take hr (pa_cons (pv 0) (pa_cons pe_int pa_nil))))))))))), ?_⟩
  refine ⟨_, rfl, d, L, 8, rfl, by decide, hs, fun w1 H1 w0 w8 k1 s1 => ?_⟩
  have nd : ∀ {H' : Hp} {p : Addr}, LS K L d H' → H' p = none → p ≠ d := fun s hp z => by
    obtain ⟨_, _, _, e, _⟩ := s.ex
    rw [← z, hp] at e
    cases e
  refine ⟨fun σ' H' => σ' = [some (.ref d), some (.int w1)] ∧ H1 = H', ?_, ?_⟩
  · refine ⟨_, rfl, _, _, rfl, rfl, _, rfl, ?_⟩
    refine ite2 (fun c => ?_) (fun c => ?_)
    · refine ⟨_, rfl, d, L, 10, rfl, by decide, s1, fun u H2 u0 u1 k2 s2 => ?_⟩
      exact q u H2 (by (first | lia | omega)) (by (first | lia | omega)) (k1.trans k2) s2
    · exact ⟨rfl, rfl⟩
  rintro σ' H' ⟨rfl, rfl⟩
  refine ⟨fun σ' H' => σ' = [some (.ref d), some (.int w1)] ∧ H1 = H', ?_, ?_⟩
  · refine ⟨_, rfl, _, _, rfl, rfl, _, rfl, ?_⟩
    refine ite2 (fun c => ?_) (fun c => ?_)
    · refine ⟨_, rfl, d, L, 60, rfl, by decide, s1, fun u H2 u0 u1 k2 s2 => ⟨_, _, rfl, rfl, ?_⟩⟩
      exact q (u - 30) H2 (by (first | lia | omega)) (by (first | lia | omega)) (k1.trans k2) s2
    · exact ⟨rfl, rfl⟩
  rintro σ' H' ⟨rfl, rfl⟩
  refine ⟨fun σ' H' => σ' = [some (.ref d), some (.int w1)] ∧ H1 = H', ?_, ?_⟩
  · refine ⟨_, rfl, rfl, _, rfl, ?_⟩
    refine ite2 (fun c => ?_) (fun c => ?_)
    · refine ⟨_, rfl, d, L, 1999, rfl, by decide, s1, fun u H2 u0 u1 k2 s2 => ⟨_, _, rfl, rfl, ?_⟩⟩
      refine ⟨_, _, rfl, rfl, ⟨by decide, by decide, by decide⟩, _, _, rfl, rfl, ⟨by decide, by decide, by decide⟩, _, _, rfl, rfl, ⟨by decide, by decide, by decide⟩, (by show 4 ≤ sizeLine; decide), fun p hp => ?_⟩
      refine ⟨_, rfl, d, L, 4, rfl, by decide, s2.of_new hp _, fun b H3 b0 b1 k3 s3 => ?_⟩
      obtain ⟨m, hat, m0, m1⟩ : ∃ m : Int, atI [V.int 1, V.int (10 ^ (19 : Int).toNat), V.int (10 ^ (38 : Int).toNat), V.int (10 ^ (57 : Int).toNat)] b = some (.int m) ∧ 0 < m ∧ m ≤ 10 ^ 57 := by
        have z : b = 0 ∨ b = 1 ∨ b = 2 ∨ b = 3 := by (first | lia | omega)
        rcases z with rfl | rfl | rfl | rfl
        · exact ⟨_, rfl, by decide +kernel, by decide +kernel⟩
        · exact ⟨_, rfl, by decide +kernel, by decide +kernel⟩
        · exact ⟨_, rfl, by decide +kernel, by decide +kernel⟩
        · exact ⟨_, rfl, by decide +kernel, by decide +kernel⟩
      refine ⟨_, _, _, _, rfl, rfl, SqL.of (k3 p _ (nd s2 hp) upd_same), hat, _, _, rfl, rfl, .inl ⟨by (first | lia | omega), by (first | lia | omega)⟩, ?_⟩
      obtain ⟨f1, f2⟩ := key_fits (x := u - 999) (m := m) (by (first | lia | omega)) (by (first | lia | omega)) m0 m1
      exact q _ H3 f1 f2 ((k1.trans k2).trans ((same_new hp _).keep.trans k3)) s3
    · exact ⟨rfl, rfl⟩
  rintro σ' H' ⟨rfl, rfl⟩
  refine ⟨_, rfl, (by show 2 ≤ sizeLine; decide), fun p hp => ?_⟩
  refine ⟨_, rfl, d, L, 2, rfl, by decide, s1.of_new hp _, fun b H2 b0 b1 k2 s2 => ?_⟩
  obtain ⟨m, hat, hm⟩ : ∃ m : Int, atI [V.int 1, V.int (-1)] b = some (.int m) ∧ (m = 1 ∨ m = -1) := by
    have z : b = 0 ∨ b = 1 := by (first | lia | omega)
    rcases z with rfl | rfl
    · exact ⟨_, rfl, .inl rfl⟩
    · exact ⟨_, rfl, .inr rfl⟩
  refine ⟨_, _, _, _, rfl, rfl, SqL.of (k2 p _ (nd s1 hp) upd_same), hat, _, _, rfl, rfl, ⟨by decide, by decide, by decide⟩, _, _, rfl, rfl, _, rfl, d, L, 3, rfl, by decide, s2, fun u H3 u0 u1 k3 s3 => ⟨_, _, rfl, rfl, _, _, rfl, rfl, .inl ⟨by (first | lia | omega), by (first | lia | omega)⟩, ?_⟩⟩
  have e60 : (10 : Int) ^ (60 : Int).toNat = 10 ^ 60 := rfl
  rw [e60]
  have kk := k1.trans ((same_new hp _).keep.trans (k2.trans k3))
  rcases hm with rfl | rfl
  · exact q _ H3 (by (first | lia | omega)) (by (first | lia | omega)) kk s3
  · exact q _ H3 (by (first | lia | omega)) (by (first | lia | omega)) kk s3
def Rise (es : List (Int × Int)) : Prop := es.Pairwise fun a b => pLt a b = true
def EntOk (k : Int) (e : Int × Int) : Prop := -(10 ^ 60) < e.1 ∧ e.1 < 10 ^ 60 ∧ 0 ≤ e.2 ∧ e.2 < k
def toPair : List Key → Int × Int
  | [.inl a, .inl b] => (a, b)
  | _ => (0, 0)
def KeyOk (k : Int) (x : List Key) : Prop := ∃ a b : Int, x = [.inl a, .inl b] ∧ EntOk k (a, b)
theorem putK_keys {κ : Type} [DecidableEq κ] (kvs : List (κ × V)) (k : κ) (v : V) : (putK kvs k v).map (·.1) = if (kvs.any fun kv => decide (kv.1 = k)) = true then kvs.map (·.1) else kvs.map (·.1) ++ [k] := by
  unfold putK
  split
  · rw [List.map_map]
    apply List.map_congr_left
    intro a ha
    show (if a.1 = k then (a.1, v) else a).1 = a.1
    split <;> rfl
  · rw [List.map_append]
    rfl
inductive WholeIs (K : PySem.W.Frag) (H : Hp) : V → Bool → Prop where
  | int (i : Int) : WholeIs K H (.int i) true
  | bl (b : Bool) : WholeIs K H (.bl b) false
  | oth (x : V) (t : String) (ty : TyOf K H x (.type t)) (h2 : kitO t "int" = some false) : WholeIs K H x false
def spWhole (K : PySem.W.Frag) : Sp := fun vs H Q _ => ∃ (x : V) (b : Bool), vs = [x] ∧ WholeIs K H x b ∧ Q (.bl b) H
theorem ok_whole (T : Txt K mg) (D_is_whole : DF K mg "is_whole" s_is_whole ps_is_whole) : FC P w K mg base 1 "is_whole" ps_is_whole (spWhole K) := by
  refine D_is_whole.ok sc_is_whole (fun vs H Q E h => ?_) (fun f cdv A outer s H vs Q E hr h => ?_)
  · obtain ⟨x, b, rfl, _⟩ := h
    rfl
  obtain ⟨x, b, rfl, hk, q⟩ := h
  refine ⟨_, (pss_one (ps_ret (pe_and (pe_callB call_isi rfl T.m_isinstance boot_isinstance (pa_cons (pv 0) (pa_cons (pe_bltn (v := .ty "int") rfl T.m_int boot_int rfl) pa_nil))) (pe_one (pe_not (pe_callB call_isi rfl T.m_isinstance boot_isinstance (pa_cons (pv 0) (pa_cons (pe_bltn (v := .ty "bool") rfl T.m_bool boot_bool rfl) pa_nil)))))))), ?_⟩
  cases hk with
  | int i =>
    refine ⟨_, rfl, _, _, _, _, rfl, .int _, kit_ii, _, rfl, ?_⟩
    refine iteT ?_
    refine ⟨_, rfl, _, _, _, _, rfl, .int _, kit_ib, _, rfl, ?_⟩
    exact q
  | bl c =>
    refine ⟨_, rfl, _, _, _, _, rfl, .bl _, (show kitO "bool" "int" = some true by decide +kernel), _, rfl, ?_⟩
    refine iteT ?_
    refine ⟨_, rfl, _, _, _, _, rfl, .bl _, kit_bb, _, rfl, ?_⟩
    exact q
  | oth x t ty h2 =>
    refine ⟨_, rfl, _, _, _, _, rfl, ty, h2, _, rfl, ?_⟩
    refine iteF ?_
    exact q
inductive KeyIs (K : PySem.W.Frag) (H : Hp) : V → Bool → Prop where
  | int (i : Int) (b : Bool) (h : b = decide ((if i < 0 then -i else i) < 10 ^ 60)) : KeyIs K H (.int i) b
  | bl (b : Bool) : KeyIs K H (.bl b) false
  | oth (x : V) (t : String) (ty : TyOf K H x (.type t)) (h1 : kitO t "bool" = some false) (h2 : kitO t "int" = some false) : KeyIs K H x false
def spIsKey (K : PySem.W.Frag) : Sp := fun vs H Q _ => ∃ (x : V) (b : Bool), vs = [x] ∧ KeyIs K H x b ∧ Q (.bl b) H
theorem ok_isKey (T : Txt K mg) (D_is_key : DF K mg "is_key" s_is_key ps_is_key) (F_is_whole : FC P w K mg base 1 "is_whole" ps_is_whole (spWhole K)) : FC P w K mg base 2 "is_key" ps_is_key (spIsKey K) := by
  refine D_is_key.ok sc_is_key (fun vs H Q E h => ?_) (fun f cdv A outer s H vs Q E hr h => ?_)
  · obtain ⟨x, b, rfl, _⟩ := h
    rfl
  obtain ⟨x, b, rfl, hk, q⟩ := h
  refine ⟨_, (pss_one (ps_ret (pe_and (pe_fc F_is_whole hr (pa_cons (pv 0) pa_nil)) (pe_one (pe_cmpR op_lt (pe_callB call_abs rfl T.m_abs boot_abs (pa_cons (pv 0) pa_nil)) (pe_op op_pow pe_int pe_int) (nomark _)))))), ?_⟩
  cases hk with
  | int i b hb =>
    refine ⟨_, rfl, _, true, rfl, .int i, _, rfl, ?_⟩
    refine iteT ?_
    refine ⟨_, rfl, _, rfl, _, _, rfl, rfl, ⟨by decide, by decide, by decide⟩, _, _, rfl, rfl, ?_⟩
    rw [hb] at q
    exact q
  | bl c =>
    refine ⟨_, rfl, _, false, rfl, .bl c, _, rfl, ?_⟩
    refine iteF ?_
    exact q
  | oth x t ty h1 h2 =>
    refine ⟨_, rfl, _, false, rfl, .oth x t ty h2, _, rfl, ?_⟩
    refine iteF ?_
    exact q
def treeV (ps : List Nat) : List V := .non :: ps.map nV
def parV (ps : List Nat) (k : Nat) : V := match par ps k with
  | none => .non
  | some p => nV p
theorem treeV_length (ps : List Nat) : (treeV ps).length = ps.length + 1 := by
  unfold treeV
  rw [List.length_cons, List.length_map]
theorem at_tree {ps : List Nat} {k : Nat} (h : k < ps.length + 1) : atI (treeV ps) (k : Int) = some (parV ps k) := by
  refine atI_nat ?_
  unfold treeV parV
  cases k with
  | zero => rfl
  | succ k =>
    show (ps.map nV)[k]? = some (match ps[k]? with | none => _ | some p => nV p)
    rw [List.getElem?_map, List.getElem?_eq_getElem (show k < ps.length by (first | lia | omega))]
    rfl
theorem parV_some {ps : List Nat} {k p : Nat} (h : par ps k = some p) : parV ps k = nV p := by
  unfold parV
  rw [h]
theorem parV_none {ps : List Nat} {k : Nat} (h : par ps k = none) : parV ps k = .non := by
  unfold parV
  rw [h]
def spTree (K : PySem.W.Frag) : Sp := fun vs H Q _ => ∃ (d L : Addr) (m : Int), vs = [.ref d, .int m] ∧ (0 < m ∧ m ≤ 40) ∧ LS K L d H ∧
  ∀ (t : Addr) (ps : List Nat) (H' : Hp), H t = none → TreeOk ps → (ps.length : Int) < m → H' t = some (.tup (treeV ps)) → Keep d H H' → LS K L d H' → Q (.ref t) H'
theorem tree_snoc {ps : List Nat} {u : Nat} (T : TreeOk ps) (h : u ≤ ps.length) : TreeOk (ps ++ [u]) := by
  intro i hi
  rw [List.length_append, List.length_singleton] at hi
  by_cases c : i < ps.length
  · rw [List.getElem_append_left c]
    exact T i c
  · have : i = ps.length := by (first | lia | omega)
    subst this
    rw [List.getElem_append_right (Nat.le_refl _)]
    simp
    exact h
theorem ok_ltree (T : Txt K mg) (D_l_tree : DF K mg "_law_tree" s_l_tree ps_l_tree) (F_l_take : FC P w K mg base 2 "_law_take" ps_l_take (spTake K)) : FC P w K mg base 3 "_law_tree" ps_l_tree (spTree K) := by
  refine D_l_tree.ok sc_l_tree (fun vs H Q E h => ?_) (fun f cdv A outer s H vs Q E hr h => ?_)
  · obtain ⟨d, L, m, rfl, _⟩ := h
    rfl
  obtain ⟨d, L, m, rfl, ⟨hm0, hm1⟩, hs, q⟩ := h
  refine ⟨_, (pss_cons (ps_set (i := 2) sc_l_tree.nd rfl (Or.inl rfl) (pe_fc F_l_take hr (pa_cons (pv 0) (pa_cons pe_int pa_nil))))
      (pss_cons (ps_set (i := 3) sc_l_tree.nd rfl (Or.inl rfl) (pe_lst (pa_cons pe_non pa_nil)))
      (pss_cons (ps_for PassesOwn.never rfl (pi_range2 rfl T.m_range (pa_cons pe_int (pa_cons (pe_op op_add pe_int (pe_fc F_l_take hr (pa_cons (pv 0) (pa_cons (pv 1) pa_nil)))) pa_nil))) (pg_name (i := 4) sc_l_tree.nd rfl (Or.inl rfl)) (pss_one (ps_expr (pe_bm F.plainAttrs_list F.slot_list_append F.type_list_append mt_append (pv 3) (pa_cons (pe_ix ix_list (pe_lst (pa_cons (pe_op op_sub (pv 4) pe_int) (pa_cons pe_int (pa_cons (pe_fc F_l_take hr (pa_cons (pv 0) (pa_cons (pv 4) pa_nil))) (pa_cons (pe_callB (call_max2 rfl) rfl T.m_max boot_max (pa_cons pe_int (pa_cons (pe_op op_sub (pe_op op_sub (pv 4) pe_int) (pe_fc F_l_take hr (pa_cons (pv 0) (pa_cons pe_int pa_nil)))) pa_nil))) pa_nil))))) (pv 2) (fun _ _ => rfl)) pa_nil)))))
      (pss_one (ps_ret (pe_callTy call_tuple_of rfl T.m_tuple boot_tuple (pa_cons (pv 3) pa_nil))))))), ?_⟩
  refine ⟨_, rfl, d, L, 4, rfl, by decide, hs, fun w1 H1 w0 w4 k1 s1 => ?_⟩
  refine ⟨(by show 1 ≤ sizeLine; decide), fun p hp => ?_⟩
  have g0 := same_new hp (.lst [V.non])
  have hpd : p ≠ d := by
    obtain ⟨ns, a, l, e, _⟩ := s1.ex
    exact Ne.symm (ne_of_none e hp)
  have hp0 : H p = none := by
    cases e : H p with
    | none => rfl
    | some o =>
      have := k1 p o hpd e
      rw [hp] at this
      cases this
  refine ⟨_, rfl, _, rfl, d, L, m, rfl, ⟨hm0, by (first | lia | omega)⟩, s1.same g0, fun n H2 n0 n1 k2 s2 => ⟨_, _, rfl, rfl, 1, _, rfl, ⟨by (first | lia | omega), by (first | lia | omega), by (first | lia | omega), by (first | lia | omega)⟩, ?_⟩⟩
  have en : ((1 : Int) + n - 1).toNat = n.toNat := by (first | lia | omega)
  rw [en]
  refine for_range (n := n.toNat) (fun i σ H3 => ∃ (ps : List Nat) (x4 : Option V), σ = [some (.ref d), some (.int m), some (.int w1), some (.ref p), x4] ∧ H3 p = some (.lst (treeV ps)) ∧ ps.length = i ∧ TreeOk ps ∧ (∀ b o, b ≠ d → b ≠ p → H b = some o → H3 b = some o) ∧ LS K L d H3) ?_ ?_ ?_
  · exact ⟨[], _, rfl, k2 p _ hpd upd_same, rfl, fun i hi => absurd hi (by simp), fun b o n1 n2 e => k2 b o n1 (g0 b o (k1 b o n1 e)), s2⟩
  · rintro i σ H3 hi ⟨ps, x4, rfl, h3, rfl, hT, k3, s3⟩
    have ek : (1 : Int) + ((ps.length : Nat) : Int) = ((ps.length + 1 : Nat) : Int) := by (first | lia | omega)
    rw [ek]
    refine ⟨_, rfl, .inl ⟨rfl, _, SqL.of h3⟩, ?_⟩
    refine ⟨_, rfl, _, _, rfl, rfl, _, rfl, _, rfl, d, L, _, rfl, ⟨by (first | lia | omega), by (first | lia | omega)⟩, s3, fun v1 H4 v10 v11 k4 s4 => ?_⟩
    refine ⟨_, rfl, _, _, rfl, rfl, _, rfl, d, L, 2, rfl, by decide, s4, fun v2 H5 v20 v21 k5 s5 => ⟨_, _, rfl, rfl, _, _, rfl, (by show 4 ≤ sizeLine; decide), fun l hl => ?_⟩⟩
    have h4 := k4 p _ hpd h3
    have h5 := k5 p _ hpd h4
    obtain ⟨u, hat, hu⟩ : ∃ u : Nat, atI [V.int (((ps.length + 1 : Nat) : Int) - 1), V.int 0, V.int v1, V.int (if ((ps.length + 1 : Nat) : Int) - 1 - v2 > 0 then ((ps.length + 1 : Nat) : Int) - 1 - v2 else 0)] w1 = some (nV u) ∧ u ≤ ps.length := by
      have z : w1 = 0 ∨ w1 = 1 ∨ w1 = 2 ∨ w1 = 3 := by (first | lia | omega)
      rcases z with rfl | rfl | rfl | rfl
      · refine ⟨ps.length, ?_, Nat.le_refl _⟩
        rw [show ((ps.length + 1 : Nat) : Int) - 1 = ((ps.length : Nat) : Int) by (first | lia | omega)]
        rfl
      · exact ⟨0, rfl, Nat.zero_le _⟩
      · obtain ⟨u, rfl⟩ := nat_ex v10
        exact ⟨u, rfl, by (first | lia | omega)⟩
      · refine ⟨(if ((ps.length + 1 : Nat) : Int) - 1 - v2 > 0 then ((ps.length + 1 : Nat) : Int) - 1 - v2 else 0).toNat, ?_, ?_⟩
        · show some (V.int _) = some (V.int _)
          rw [Int.toNat_of_nonneg (by split <;> (first | lia | omega))]
        · split <;> (first | lia | omega)
    refine ⟨_, rfl, _, _, _, _, rfl, rfl, SqL.of upd_same, hat, _, _, _, rfl, rfl, by rw [upd_ne (ne_of_none h5 hl)]; exact h5, small1000 (by rw [treeV_length]; (first | lia | omega)), ?_⟩
    refine ⟨ps ++ [u], _, rfl, ?_, by rw [List.length_append, List.length_singleton], tree_snoc hT hu, fun b o n1 n2 e => ?_, ?_⟩
    · rw [upd_same]
      unfold treeV
      rw [List.map_append]
      rfl
    · rw [upd_ne n2]
      have e5 := k5 b o n1 (k4 b o n1 (k3 b o n1 n2 e))
      exact (same_new hl _) _ _ e5
    · exact LS.put hs hp0 (fun b o n1 n2 e => (same_new hl _) _ _ (k5 b o n1 (k4 b o n1 (k3 b o n1 n2 e)))) (s5.of_new hl _)
  · rintro σ H3 ⟨ps, x4, rfl, h3, hl, hT, k3, s3⟩
    refine ⟨_, rfl, p, _, rfl, .inl ⟨SqL.of h3, fun t ht => ?_⟩⟩
    have sn := same_new ht (.tup (treeV ps))
    have htp : t ≠ p := Ne.symm (ne_of_none h3 ht)
    have ht0 : H t = none := by
      cases e : H t with
      | none => rfl
      | some o =>
        have htd : t ≠ d := by
          obtain ⟨ns, a, l, e, _⟩ := s3.ex
          exact Ne.symm (ne_of_none e ht)
        have := k3 t o htd htp e
        rw [ht] at this
        cases this
    exact q t ps _ ht0 hT (by (first | lia | omega)) upd_same (fun b o n e => sn _ _ (k3 b o n (ne_of_none e hp0) e)) (s3.of_new ht _)
theorem paired_imp {α β : Type} {F G : α → β → Prop} (h : ∀ a b, F a b → G a b) : ∀ {l : List α} {m : List β}, Paired F l m → Paired G l m
  | _, _, .nil => .nil
  | _, _, .cons a t => .cons (h _ _ a) (paired_imp h t)
theorem paired_get {α β : Type} {F : α → β → Prop} : ∀ {l : List α} {m : List β} {i : Nat} {a : α}, Paired F l m → l[i]? = some a → ∃ b, m[i]? = some b ∧ F a b
  | _, _, i, a, .nil, h => by simp at h
  | _ :: _, b :: _, 0, a, .cons h t, e => by
    have := Option.some.inj (show some _ = some a from e)
    subst this
    exact ⟨b, rfl, h⟩
  | _ :: _, _ :: _, i + 1, a, .cons h t, e => by
    obtain ⟨q, h1, h2⟩ := paired_get (i := i) t (by simpa using e)
    exact ⟨q, by simpa using h1, h2⟩
theorem paired_get' {α β : Type} {F : α → β → Prop} : ∀ {l : List α} {m : List β} {i : Nat} {b : β}, Paired F l m → m[i]? = some b → ∃ a, l[i]? = some a ∧ F a b
  | _, _, i, a, .nil, h => by simp at h
  | a :: _, _ :: _, 0, b, .cons h t, e => by
    have := Option.some.inj (show some _ = some b from e)
    subst this
    exact ⟨a, rfl, h⟩
  | _ :: _, _ :: _, i + 1, a, .cons h t, e => by
    obtain ⟨q, h1, h2⟩ := paired_get' (i := i) t (by simpa using e)
    exact ⟨q, by simpa using h1, h2⟩
def rowAt (rows : List (List Int)) (k : Nat) : List Int := rows.getD k []
structure RowsOk (rows : List (List Int)) : Prop where
  up : ∀ row ∈ rows, row.Pairwise (· < ·)
  key : ∀ row ∈ rows, ∀ x ∈ row, -(10 ^ 60) < x ∧ x < 10 ^ 60
theorem RowsOk.at_up {rows : List (List Int)} (R : RowsOk rows) (k : Nat) : (rowAt rows k).Pairwise (· < ·) := by
  unfold rowAt
  rw [List.getD_eq_getElem?_getD]
  cases e : rows[k]? with
  | none => exact .nil
  | some row => exact R.up row (List.mem_of_getElem? e)
theorem RowsOk.at_key {rows : List (List Int)} (R : RowsOk rows) (k : Nat) : ∀ x ∈ rowAt rows k, -(10 ^ 60) < x ∧ x < 10 ^ 60 := by
  unfold rowAt
  rw [List.getD_eq_getElem?_getD]
  cases e : rows[k]? with
  | none => exact fun x hx => nomatch hx
  | some row => exact R.key row (List.mem_of_getElem? e)
def keysN (rows : List (List Int)) : Nat := (rows.map List.length).sum
theorem keys_le {m : Nat} : ∀ {rows : List (List Int)}, (∀ row ∈ rows, row.length ≤ m) → keysN rows ≤ rows.length * m
  | [], _ => Nat.zero_le _
  | r :: rows, h => by
    have h1 := h r List.mem_cons_self
    have h2 := keys_le (m := m) (rows := rows) fun x hx => h x (List.mem_cons_of_mem _ hx)
    unfold keysN at h2 ⊢
    rw [List.map_cons, List.sum_cons, List.length_cons, Nat.succ_mul]
    (first | lia | omega)
theorem keys_mem {rows : List (List Int)} {row : List Int} (h : row ∈ rows) : row.length ≤ keysN rows := by
  unfold keysN
  induction rows with
  | nil => cases h
  | cons r rows ih =>
    rw [List.map_cons, List.sum_cons]
    rcases List.mem_cons.mp h with e | e
    · rw [e]
      (first | lia | omega)
    · have := ih e
      (first | lia | omega)
def RowsAt (H : Hp) (as : List Addr) (rows : List (List Int)) : Prop := Paired (fun a row => H a = some (.tup (row.map V.int))) as rows
theorem RowsAt.ext {H H' : Hp} (e : ∀ b o, H b = some o → H' b = some o) : ∀ {as : List Addr} {rows : List (List Int)}, RowsAt H as rows → RowsAt H' as rows
  | _, _, .nil => .nil
  | _, _, .cons h t => .cons (e _ _ h) (RowsAt.ext e t)
theorem RowsAt.keep {d p : Addr} {H H' : Hp} (hd : ∀ a row, H a = some (.tup row) → a ≠ d) (e : ∀ b o, b ≠ d → H b = some o → H' b = some o) : ∀ {as : List Addr} {rows : List (List Int)}, RowsAt H as rows → RowsAt H' as rows
  | _, _, .nil => .nil
  | _, _, .cons h t => .cons (e _ _ (hd _ _ h) h) (RowsAt.keep (p := p) hd e t)
theorem RowsAt.length {H : Hp} {as : List Addr} {rows : List (List Int)} (h : RowsAt H as rows) : as.length = rows.length := Paired.length h
theorem RowsAt.get {H : Hp} : ∀ {as : List Addr} {rows : List (List Int)} {k : Nat}, RowsAt H as rows → k < rows.length → ∃ a, as[k]? = some a ∧ H a = some (.tup ((rowAt rows k).map V.int))
  | _, _, _, .nil, hk => by simp at hk
  | a :: as, row :: rows, 0, .cons h t, _ => ⟨a, rfl, h⟩
  | a :: as, row :: rows, k + 1, .cons h t, hk => by
    obtain ⟨b, h1, h2⟩ := RowsAt.get (k := k) t (by simpa using hk)
    refine ⟨b, by rw [List.getElem?_cons_succ]; exact h1, ?_⟩
    have : rowAt (row :: rows) (k + 1) = rowAt rows k := by
      unfold rowAt
      rw [List.getD_eq_getElem?_getD, List.getD_eq_getElem?_getD, List.getElem?_cons_succ]
    rw [this]
    exact h2
theorem RowsAt.snoc {H : Hp} {a : Addr} {row : List Int} : ∀ {as : List Addr} {rows : List (List Int)}, RowsAt H as rows → H a = some (.tup (row.map V.int)) → RowsAt H (as ++ [a]) (rows ++ [row])
  | _, _, .nil, h => .cons h .nil
  | _, _, .cons h t, h2 => .cons h (RowsAt.snoc t h2)
structure StandAt (H : Hp) (st : Addr) (ps : List Nat) (rows : List (List Int)) (t rs : Addr) (as : List Addr) : Prop where
  st : H st = some (.tup [.ref t, .ref rs])
  tr : H t = some (.tup (treeV ps))
  rs : H rs = some (.tup (as.map V.ref))
  at_ : RowsAt H as rows
  len : rows.length = ps.length + 1
  T : TreeOk ps
  R : RowsOk rows
  few : ps.length ≤ 40
  keys : keysN rows ≤ 400
theorem StandAt.same {H H' : Hp} {st t rs : Addr} {ps : List Nat} {rows : List (List Int)} {as : List Addr} (S : StandAt H st ps rows t rs as) (e : Same H H') : StandAt H' st ps rows t rs as :=
  ⟨e _ _ S.st, e _ _ S.tr, e _ _ S.rs, S.at_.ext e, S.len, S.T, S.R, S.few, S.keys⟩
theorem at_ref {as : List Addr} {k : Nat} {a : Addr} (h : as[k]? = some a) : atI (as.map V.ref) (k : Int) = some (.ref a) := atI_nat (by rw [List.getElem?_map, h]; rfl)
def IntKey (x : Key) : Prop := ∃ a : Int, x = .inl a ∧ -(10 ^ 60) < a ∧ a < 10 ^ 60
def toI : Key → Int
  | .inl a => a
  | _ => 0
theorem putI_ok {kvs : List (Key × V)} {x : Key} {v : V} (h1 : (kvs.map (·.1)).Nodup) (h2 : ∀ y ∈ kvs.map (·.1), IntKey y) (hx : IntKey x) : ((putK kvs x v).map (·.1)).Nodup ∧ ∀ y ∈ (putK kvs x v).map (·.1), IntKey y := by
  rw [putK_keys]
  split
  · exact ⟨h1, h2⟩
  · rename_i c
    refine ⟨?_, fun y hy => ?_⟩
    · rw [List.nodup_append]
      refine ⟨h1, List.nodup_cons.mpr ⟨(fun z => nomatch z), List.nodup_nil⟩, fun a ha b hb z => ?_⟩
      rw [List.mem_singleton.mp hb] at z
      subst z
      obtain ⟨p, hp, e⟩ := List.mem_map.mp ha
      exact c (List.any_eq_true.mpr ⟨p, hp, decide_eq_true e⟩)
    · rcases List.mem_append.mp hy with z | z
      · exact h2 y z
      · rw [List.mem_singleton.mp z]
        exact hx
theorem ints_of_keys : ∀ {l : List Key}, (∀ y ∈ l, IntKey y) → l.map kV = (l.map toI).map V.int
  | [], _ => rfl
  | x :: l, h => by
    obtain ⟨a, rfl, _⟩ := h x List.mem_cons_self
    show V.int a :: l.map kV = V.int a :: (l.map toI).map V.int
    rw [ints_of_keys fun y hy => h y (List.mem_cons_of_mem _ hy)]
theorem toI_nodup : ∀ {l : List Key}, l.Nodup → (∀ y ∈ l, IntKey y) → (l.map toI).Nodup
  | [], _, _ => List.nodup_nil
  | x :: l, hn, h => by
    rw [List.map_cons, List.nodup_cons]
    have hc := List.nodup_cons.mp hn
    refine ⟨fun z => ?_, toI_nodup hc.2 fun y hy => h y (List.mem_cons_of_mem _ hy)⟩
    obtain ⟨y, hy, e⟩ := List.mem_map.mp z
    obtain ⟨a, rfl, _⟩ := h x List.mem_cons_self
    obtain ⟨b, rfl, _⟩ := h y (List.mem_cons_of_mem _ hy)
    have : b = a := e
    subst this
    exact hc.1 hy
def spRow (K : PySem.W.Frag) : Sp := fun vs H Q _ => ∃ (d L : Addr) (m : Int), vs = [.ref d, .int m] ∧ (0 ≤ m ∧ m ≤ 40) ∧ LS K L d H ∧
  ∀ (a : Addr) (row : List Int) (H' : Hp), H a = none → row.Pairwise (· < ·) → (∀ x ∈ row, -(10 ^ 60) < x ∧ x < 10 ^ 60) → (row.length : Int) ≤ m → H' a = some (.tup (row.map V.int)) → Keep d H H' → LS K L d H' → Q (.ref a) H'
theorem ok_lrow (T : Txt K mg) (D_l_row : DF K mg "_law_row" s_l_row ps_l_row) (F_l_take : FC P w K mg base 2 "_law_take" ps_l_take (spTake K)) (F_l_key : FC P w K mg base 3 "_law_key" ps_l_key (spKey K)) : FC P w K mg base 4 "_law_row" ps_l_row (spRow K) := by
  refine D_l_row.ok sc_l_row (fun vs H Q E h => ?_) (fun f cdv A outer s H vs Q E hr h => ?_)
  · obtain ⟨d, L, m, rfl, _⟩ := h
    rfl
  obtain ⟨d, L, m, rfl, ⟨hm0, hm1⟩, hs, q⟩ := h
  refine ⟨_, (pss_cons (ps_set (i := 2) sc_l_row.nd rfl (Or.inl rfl) pe_dnewK)
      (pss_cons (ps_for PassesOwn.never rfl (pi_range1 rfl T.m_range (pa_cons (pe_fc F_l_take hr (pa_cons (pv 0) (pa_cons (pe_op op_add (pv 1) pe_int) pa_nil))) pa_nil)) (pg_name (i := 3) sc_l_row.nd rfl (Or.inl rfl)) (pss_one (ps_dput (hu_of hr) (pv 2) (pe_fc F_l_key hr (pa_cons (pv 0) pa_nil)) pe_bl rfl)))
      (pss_one (ps_ret (pe_callTy call_tuple_of rfl T.m_tuple boot_tuple (pa_cons (pe_callB (call_sortD Int) rfl T.m_sorted boot_sorted (pa_cons (pe_callTy (call_listK rfl) rfl T.m_list boot_list (pa_cons (pv 2) pa_nil)) pa_nil)) pa_nil)))))), ?_⟩
  intro g hg
  have ngd : g ≠ d := fun z => by
    obtain ⟨_, _, _, e, _⟩ := hs.ex
    rw [← z, hg] at e
    cases e
  refine ⟨_, rfl, _, rfl, _, _, rfl, rfl, d, L, m + 1, rfl, ⟨by (first | lia | omega), by (first | lia | omega)⟩, hs.of_new hg _, fun n H1 n0 n1 k1 s1 => ⟨_, rfl, by (first | lia | omega), by (first | lia | omega), ?_⟩⟩
  refine for_range (n := n.toNat) (fun i σ H2 => ∃ (kvs : List (Key × V)) (x3 : Option V), σ = [some (.ref d), some (.int m), some (.ref g), x3] ∧ H2 g = some (.dK kvs) ∧ kvs.length ≤ i ∧ (kvs.map (·.1)).Nodup ∧ (∀ y ∈ kvs.map (·.1), IntKey y) ∧ (∀ b o, b ≠ d → b ≠ g → H b = some o → H2 b = some o) ∧ LS K L d H2) ?_ ?_ ?_
  · exact ⟨[], _, rfl, k1 g _ ngd upd_same, Nat.le_refl _, List.nodup_nil, fun y hy => (by simp at hy), fun b o b1 b2 e => k1 b o b1 (by rw [upd_ne b2]; exact e), s1⟩
  · rintro i σ H2 hi ⟨kvs, x3, rfl, h2, hl, hn, hy, kk, s2⟩
    refine ⟨_, rfl, _, rfl, d, L, rfl, s2, fun v H3 v0 v1 k3 s3 => ?_⟩
    have h3 : H3 g = some (.dK kvs) := k3 g _ ngd h2
    obtain ⟨p1, p2⟩ := putI_ok (v := .bl true) hn hy (x := .inl v) ⟨v, rfl, v0, v1⟩
    refine ⟨g, _, rfl, DPut.k (k := .inl v) (kvs := kvs) h3 (small1000 (by (first | lia | omega))), ?_⟩
    refine ⟨putK kvs (.inl v) (.bl true), _, rfl, upd_same, ?_, p1, p2, ?_, ?_⟩
    · have := length_putK kvs (Sum.inl v : Key) (.bl true)
      (first | lia | omega)
    · intro b o b1 b2 e
      rw [upd_ne b2]
      exact k3 b o b1 (kk b o b1 b2 e)
    · exact LS.put hs hg (fun b o b1 b2 e => k3 b o b1 (kk b o b1 b2 e)) s3
  · rintro σ H2 ⟨kvs, x3, rfl, h2, hl, hn, hy, kk, s2⟩
    refine ⟨_, rfl, g, kvs, rfl, h2, fun l hl1 => ?_⟩
    have ei : kvs.map (fun kv => kV kv.1) = ((kvs.map (·.1)).map toI).map V.int := by
      rw [← ints_of_keys hy, List.map_map]
      rfl
    rw [ei]
    have e1 := same_new hl1 (.lst (((kvs.map (·.1)).map toI).map V.int))
    refine ⟨l, _, _, rfl, SqL.of upd_same, HasAll.ints, fun l2 ws hl2 hw => ?_⟩
    rw [hw.toInts]
    have e2 := same_new hl2 (.lst ((sortD ((kvs.map (·.1)).map toI)).map V.int))
    refine ⟨l2, _, rfl, .inl ⟨SqL.of upd_same, fun a ha => ?_⟩⟩
    have e3 := same_new ha (.tup ((sortD ((kvs.map (·.1)).map toI)).map V.int))
    have e13 := e1.trans (e2.trans e3)
    have free : H a = none := by
      have z2 : H2 a = none := e1.free (e2.free ha)
      cases z : H a with
      | none => rfl
      | some o =>
        by_cases c1 : a = d
        · obtain ⟨_, _, _, e, _⟩ := s2.ex
          rw [← c1, z2] at e
          cases e
        · by_cases c2 : a = g
          · rw [c2, h2] at z2
            cases z2
          · rw [kk a o c1 c2 z] at z2
            cases z2
    refine q a _ _ free ?_ (fun x hx => ?_) ?_ upd_same (fun b o b1 e => e13 _ _ (kk b o b1 (ne_of_none e hg) e)) (s2.same e13)
    · exact List.Pairwise.imp (fun {a b} (h : Srt.blt a b = true) => of_decide_eq_true h) (sortD_rise (toI_nodup hn hy))
    · rw [sortD_mem] at hx
      obtain ⟨y, hy2, rfl⟩ := List.mem_map.mp hx
      obtain ⟨a, rfl, h1, h2⟩ := hy y hy2
      exact ⟨h1, h2⟩
    · rw [sortD_length, List.length_map, List.length_map]
      (first | lia | omega)
def spRows (K : PySem.W.Frag) : Sp := fun vs H Q _ => ∃ (d L : Addr) (n m : Nat), vs = [.ref d, .int n, .int m] ∧ n ≤ 40 ∧ m ≤ 40 ∧ LS K L d H ∧
  ∀ (r : Addr) (as : List Addr) (rows : List (List Int)) (H' : Hp), H r = none → RowsAt H' as rows → rows.length = n → RowsOk rows → (∀ row ∈ rows, row.length ≤ m) → H' r = some (.tup (as.map V.ref)) → Keep d H H' → LS K L d H' → Q (.ref r) H'
theorem RowsOk.snoc {rows : List (List Int)} {row : List Int} (R : RowsOk rows) (h1 : row.Pairwise (· < ·)) (h2 : ∀ x ∈ row, -(10 ^ 60) < x ∧ x < 10 ^ 60) : RowsOk (rows ++ [row]) := by
  refine ⟨fun r hr => ?_, fun r hr => ?_⟩
  · rcases List.mem_append.mp hr with z | z
    · exact R.up r z
    · rw [List.mem_singleton.mp z]
      exact h1
  · rcases List.mem_append.mp hr with z | z
    · exact R.key r z
    · rw [List.mem_singleton.mp z]
      exact h2
theorem ok_lrows (T : Txt K mg) (D_l_rows : DF K mg "_law_rows" s_l_rows ps_l_rows) (F_l_take : FC P w K mg base 2 "_law_take" ps_l_take (spTake K)) (F_l_row : FC P w K mg base 4 "_law_row" ps_l_row (spRow K)) : FC P w K mg base 5 "_law_rows" ps_l_rows (spRows K) := by
  refine D_l_rows.ok sc_l_rows (fun vs H Q E h => ?_) (fun f cdv A outer s H vs Q E hr h => ?_)
  · obtain ⟨d, L, n, m, rfl, _⟩ := h
    rfl
  obtain ⟨d, L, n, m, rfl, hn, hm, hs, q⟩ := h
  refine ⟨_, (pss_cons (ps_set (i := 3) sc_l_rows.nd rfl (Or.inl rfl) (pe_lst pa_nil))
      (pss_cons (ps_for PassesOwn.never rfl (pi_range1 rfl T.m_range (pa_cons (pv 1) pa_nil)) (pg_name (i := 4) sc_l_rows.nd rfl (Or.inl rfl)) (pss_cons (ps_set (i := 5) sc_l_rows.nd rfl (Or.inl rfl) (pe_fc F_l_row hr (pa_cons (pv 0) (pa_cons (pv 2) pa_nil))))
      (pss_join (ps_if (pt_cmpR op_eq (pe_fc F_l_take hr (pa_cons (pv 0) (pa_cons pe_int pa_nil))) pe_int (nomark _)) (pss_one (ps_set (i := 5) sc_l_rows.nd rfl (Or.inl rfl) (pe_tup pa_nil))) pss_nil)
      (pss_join (ps_if (PW.pt (pw_and (pt_cmpR op_gt (pv 4) pe_int (nomark _)) (pw_and1 (pt_cmpR op_eq (pe_fc F_l_take hr (pa_cons (pv 0) (pa_cons pe_int pa_nil))) pe_int (nomark _))))) (pss_one (ps_set (i := 5) sc_l_rows.nd rfl (Or.inl rfl) (pe_ix ix_list (pv 3) (pe_op op_sub (pv 4) pe_int) (fun _ _ => rfl)))) pss_nil)
      (pss_one (ps_expr (pe_bm F.plainAttrs_list F.slot_list_append F.type_list_append mt_append (pv 3) (pa_cons (pv 5) pa_nil))))))))
      (pss_one (ps_ret (pe_callTy call_tuple_of rfl T.m_tuple boot_tuple (pa_cons (pv 3) pa_nil)))))), ?_⟩
  refine ⟨(by show 0 ≤ sizeLine; decide), fun p hp => ?_⟩
  have g0 := same_new hp (.lst [])
  have ndT : ∀ {H' : Hp} {a : Addr} {o : List V}, LS K L d H' → H' a = some (.tup o) → a ≠ d := fun {H' a o} s e z => by
    obtain ⟨_, _, _, e2, _⟩ := s.ex
    rw [← z, e] at e2
    cases e2
  have nd : ∀ {H' : Hp} {a : Addr}, LS K L d H' → H' a = none → a ≠ d := fun {H' a} s e z => by
    obtain ⟨_, _, _, e2, _⟩ := s.ex
    rw [← z, e] at e2
    cases e2
  have hpd : p ≠ d := nd hs hp
  refine ⟨_, rfl, _, rfl, by (first | lia | omega), by (first | lia | omega), ?_⟩
  rw [Int.toNat_natCast]
  refine for_range (n := n) (fun i σ H2 => ∃ (as : List Addr) (rows : List (List Int)) (x4 x5 : Option V), σ = [some (.ref d), some (.int n), some (.int m), some (.ref p), x4, x5] ∧ H2 p = some (.lst (as.map V.ref)) ∧ RowsAt H2 as rows ∧ rows.length = i ∧ RowsOk rows ∧ (∀ row ∈ rows, row.length ≤ m) ∧ (∀ b o, b ≠ d → b ≠ p → H b = some o → H2 b = some o) ∧ LS K L d H2) ?_ ?_ ?_
  · exact ⟨[], [], _, _, rfl, upd_same, .nil, rfl, ⟨(fun r hr => nomatch hr), (fun r hr => nomatch hr)⟩, (fun r hr => nomatch hr), fun b o _ n e => g0 b o e, hs.same g0⟩
  · rintro i σ H2 hi ⟨as, rows, x4, x5, rfl, h2, hA, hl, hR, hlen, k2, s2⟩
    rw [Int.zero_add]
    have hal := hA.length
    have old : ∀ {H3 : Hp} {b : Addr} {o : HO}, (∀ b o, b ≠ d → H2 b = some o → H3 b = some o) → b ≠ d → b ≠ p → H b = some o → H3 b = some o := fun k n1 n2 e => k _ _ n1 (k2 _ _ n1 n2 e)
    refine ⟨_, rfl, _, rfl, d, L, m, rfl, ⟨by (first | lia | omega), by (first | lia | omega)⟩, s2, fun a row H3 ha hup hky hlr h3 k3 s3 => ?_⟩
    refine ⟨fun σ' H' => ∃ (a : Addr) (row : List Int), σ' = [some (.ref d), some (.int n), some (.int m), some (.ref p), some (.int i), some (.ref a)] ∧ H' a = some (.tup (row.map V.int)) ∧ row.Pairwise (· < ·) ∧ (∀ x ∈ row, -(10 ^ 60) < x ∧ x < 10 ^ 60) ∧ row.length ≤ m ∧ (∀ b o, b ≠ d → H2 b = some o → H' b = some o) ∧ LS K L d H', ?_, ?_⟩
    · refine ⟨_, rfl, d, L, 4, rfl, by decide, s3, fun v H4 _ _ k4 s4 => ⟨rfl, _, rfl, ?_⟩⟩
      have h4 := k4 _ _ (ndT s3 h3) h3
      refine ite2 (fun _ => ?_) (fun _ => ?_)
      · refine ⟨(by show 0 ≤ sizeLine; decide), fun u hu => ?_⟩
        have su := same_new hu (.tup [])
        exact ⟨u, [], rfl, upd_same, .nil, (fun x hx => nomatch hx), Nat.zero_le _, fun b o n1 e => su _ _ (k4 _ _ n1 (k3 _ _ n1 e)), s4.same su⟩
      · exact ⟨a, row, rfl, h4, hup, hky, by (first | lia | omega), fun b o n1 e => k4 _ _ n1 (k3 _ _ n1 e), s4⟩
    rintro σ' H4 ⟨a, row, rfl, h4, hup, hky, hlr, k4, s4⟩
    refine ⟨fun σ' H' => ∃ (a : Addr) (row : List Int), σ' = [some (.ref d), some (.int n), some (.int m), some (.ref p), some (.int i), some (.ref a)] ∧ H' a = some (.tup (row.map V.int)) ∧ row.Pairwise (· < ·) ∧ (∀ x ∈ row, -(10 ^ 60) < x ∧ x < 10 ^ 60) ∧ row.length ≤ m ∧ (∀ b o, b ≠ d → H2 b = some o → H' b = some o) ∧ LS K L d H', ?_, ?_⟩
    · refine ⟨_, rfl, _, _, rfl, rfl, _, rfl, ?_⟩
      refine ite2 (fun c => ?_) (fun c => ?_)
      · have c' : (0 : Int) < (i : Int) := of_decide_eq_true c
        refine ⟨_, rfl, d, L, 4, rfl, by decide, s4, fun v H5 _ _ k5 s5 => ⟨rfl, _, rfl, ?_⟩⟩
        have h5 := k5 _ _ (ndT s4 h4) h4
        refine ite2 (fun _ => ?_) (fun _ => ?_)
        · have h5p : H5 p = some (.lst (as.map V.ref)) := k5 _ _ hpd (k4 _ _ hpd h2)
          obtain ⟨b, hb1, hb2⟩ := hA.get (k := i - 1) (by (first | lia | omega))
          have hb5 := k5 _ _ (ndT s4 (k4 _ _ (ndT s2 hb2) hb2)) (k4 _ _ (ndT s2 hb2) hb2)
          have hat : atI (as.map V.ref) ((i : Int) - 1) = some (.ref b) := by
            rw [show (i : Int) - 1 = ((i - 1 : Nat) : Int) by (first | lia | omega)]
            exact at_ref hb1
          refine ⟨_, rfl, _, rfl, _, _, rfl, rfl, _, _, _, _, rfl, rfl, SqL.of h5p, hat, ?_⟩
          have hmem : rowAt rows (i - 1) ∈ rows := by
            unfold rowAt
            rw [List.getD_eq_getElem?_getD, List.getElem?_eq_getElem (show i - 1 < rows.length by (first | lia | omega))]
            exact List.getElem_mem _
          exact ⟨b, rowAt rows (i - 1), rfl, hb5, hR.up _ hmem, hR.key _ hmem, hlen _ hmem, fun b o n1 e => k5 _ _ n1 (k4 _ _ n1 e), s5⟩
        · exact ⟨a, row, rfl, h5, hup, hky, hlr, fun b o n1 e => k5 _ _ n1 (k4 _ _ n1 e), s5⟩
      · refine iteF ?_
        exact ⟨a, row, rfl, h4, hup, hky, hlr, k4, s4⟩
    rintro σ' H5 ⟨a, row, rfl, h5, hup, hky, hlr, k5, s5⟩
    have h5p : H5 p = some (.lst (as.map V.ref)) := k5 _ _ hpd h2
    have keep : ∀ b o, b ≠ p → H5 b = some o → upd H5 p (.lst (as.map V.ref ++ [.ref a])) b = some o := fun b o n e => by rw [upd_ne n]; exact e
    have ntp : ∀ {b : Addr} {o : List V}, H5 b = some (.tup o) → b ≠ p := fun {b o} e z => by
      rw [z, h5p] at e
      cases e
    refine ⟨_, rfl, .inl ⟨rfl, _, SqL.of h5p⟩, _, rfl, _, _, _, rfl, rfl, h5p, small1000 (by rw [List.length_map]; (first | lia | omega)), ?_⟩
    refine ⟨as ++ [a], rows ++ [row], _, _, rfl, ?_, ?_, by rw [List.length_append, List.length_singleton, hl], hR.snoc hup hky, fun r hr => ?_, fun b o n1 n2 e => keep _ _ n2 (k5 _ _ n1 (k2 _ _ n1 n2 e)), ?_⟩
    · rw [upd_same, List.map_append]
      rfl
    · refine RowsAt.snoc ?_ (keep _ _ (ntp h5) h5)
      have hA5 : RowsAt H5 as rows := RowsAt.keep (p := d) (fun a row e => ndT s2 e) k5 hA
      exact RowsAt.keep (p := p) (d := p) (fun a row e => ntp e) keep hA5
    · rcases List.mem_append.mp hr with z | z
      · exact hlen r z
      · rw [List.mem_singleton.mp z]
        exact hlr
    · exact LS.put hs hp (fun b o n1 n2 e => k5 _ _ n1 (k2 _ _ n1 n2 e)) s5
  · rintro σ H2 ⟨as, rows, x4, x5, rfl, h2, hA, hl, hR, hlen, k2, s2⟩
    refine ⟨_, rfl, p, _, rfl, .inl ⟨SqL.of h2, fun t ht => ?_⟩⟩
    have sn := same_new ht (.tup (as.map V.ref))
    have ht0 : H t = none := by
      cases e : H t with
      | none => rfl
      | some o =>
        have := k2 t o (nd s2 ht) (Ne.symm (ne_of_none h2 ht)) e
        rw [ht] at this
        cases this
    exact q t as rows _ ht0 (hA.ext sn) hl hR hlen upd_same (fun b o n e => sn _ _ (k2 b o n (ne_of_none e hp) e)) (s2.same sn)
def LenAt (H : Hp) (q : Addr) (n : Nat) : Prop := ∃ xs, (H q = some (.lst xs) ∨ H q = some (.tup xs)) ∧ xs.length = n
theorem LenAt.same {H H' : Hp} (e : Same H H') {q : Addr} {n : Nat} (h : LenAt H q n) : LenAt H' q n := by
  obtain ⟨xs, h | h, hl⟩ := h
  · exact ⟨xs, .inl (e _ _ h), hl⟩
  · exact ⟨xs, .inr (e _ _ h), hl⟩
theorem LenAt.sq {K : PySem.W.Frag} {H : Hp} {q : Addr} {n : Nat} (h : LenAt H q n) : ∃ xs, (SqL K H q xs ∨ SqT K H q xs) ∧ xs.length = n := by
  obtain ⟨xs, h | h, hl⟩ := h
  · exact ⟨xs, .inl (SqL.of h), hl⟩
  · exact ⟨xs, .inr (SqT.of h), hl⟩
theorem sum_ints (l : List Nat) : (l.map fun n : Nat => (n : Int)).sum = ((l.sum : Nat) : Int) := by
  induction l with
  | nil => rfl
  | cons a l ih =>
    rw [List.map_cons, List.sum_cons, ih, List.sum_cons, Int.natCast_add]
def spLong (K : PySem.W.Frag) : Sp := fun vs H Q _ => ∃ (a : Addr) (qs : List Addr) (ls : List Nat), vs = [.ref a] ∧ (H a = some (.lst (qs.map V.ref)) ∨ H a = some (.tup (qs.map V.ref))) ∧ Paired (LenAt H) qs ls ∧ ls.length ≤ 900 ∧ ∀ H', Same H H' → Q (.int ((ls.sum : Nat) : Int)) H'
theorem ok_long (T : Txt K mg) (D_long_together : DF K mg "long_together" s_long_together ps_long_together) : FC P w K mg base 1 "long_together" ps_long_together (spLong K) := by
  refine D_long_together.ok sc_long_together (fun vs H Q E h => ?_) (fun f cdv A outer s H vs Q E hr h => ?_)
  · obtain ⟨a, qs, ls, rfl, _⟩ := h
    rfl
  obtain ⟨a, qs, ls, rfl, ha, hP, hz, q⟩ := h
  have hl := Paired.length hP
  refine ⟨_, (pss_one (ps_ret (pe_callB (call_sumI rfl) rfl T.m_sum boot_sum (pa_cons (pe_comp (N := ["each"]) (own := 1) (cap := []) rfl (pi_seq (pv 0)) ⟨rfl, rfl, rfl, rfl, rfl, rfl⟩ (fun _ _ _ _ _ => (pg_name (i := 0) (show List.Nodup (["each"] : List Str) by decide +kernel) rfl (Or.inl rfl))) (fun _ _ _ _ _ => pts_nil) (fun _ _ _ _ _ => (pe_callB (call_len_seqC (K := K)) rfl T.m_len boot_len (pa_cons (pv 0) pa_nil)))) pa_nil)))), ?_⟩
  have step : ∀ {D : Addr} (hD : H D = none) {i m : Nat} {x : V} {σ : L2.St} {H2 : Hp} {fin : Nat → L2.St → Hp → Prop}, (qs.map V.ref)[i]? = some x → i + m = (qs.map V.ref).length → (∀ b o, b ≠ D → H b = some o → H2 b = some o) → H2 D = some (.lst ((ls.take i).map nV)) → ∃ xs, (SqL K H2 (match x with | .ref q => q | _ => 0) xs ∨ SqT K H2 (match x with | .ref q => q | _ => 0) xs) ∧ (∃ q, x = .ref q) ∧ ls.take (i + 1) = ls.take i ++ [xs.length] ∧ i < ls.length := by
    intro D hD i m x σ H2 fin hx hm k2 h2
    rw [List.getElem?_map] at hx
    obtain ⟨qq, hq, rfl⟩ := Option.map_eq_some_iff.mp hx
    obtain ⟨n, hn, hL⟩ : ∃ n, ls[i]? = some n ∧ LenAt H qq n := by
      have : ∀ {qs : List Addr} {ls : List Nat} {i : Nat}, Paired (LenAt H) qs ls → qs[i]? = some qq → ∃ n, ls[i]? = some n ∧ LenAt H qq n := by
        intro qs ls i r
        induction r generalizing i with
        | nil => intro h; simp at h
        | cons a _ ih =>
          intro h
          cases i with
          | zero =>
            have e := Option.some.inj (show some _ = some qq from h)
            subst e
            exact ⟨_, rfl, a⟩
          | succ i =>
            obtain ⟨n, h1, h2⟩ := ih (i := i) (by simpa using h)
            exact ⟨n, by simpa using h1, h2⟩
      exact this hP hq
    have hi := (List.getElem?_eq_some_iff.mp hn).1
    obtain ⟨xs, hxs, hxl⟩ := hL
    refine ⟨xs, ?_, ⟨qq, rfl⟩, ?_, hi⟩
    · rcases hxs with hxs | hxs
      · exact .inl (SqL.of (k2 _ _ (ne_of_none hxs hD) hxs))
      · exact .inr (SqT.of (k2 _ _ (ne_of_none hxs hD) hxs))
    · rw [List.take_succ_eq_append_getElem hi, (List.getElem?_eq_some_iff.mp hn).2, hxl]
  have end_ : ∀ {D : Addr} {H2 : Hp}, H D = none → H2 D = some (.lst (ls.map nV)) → But D H H2 → (fun xs H Q => ∃ (p : Addr) (ns : List Int), xs = [V.ref p] ∧ SqL K H p (ns.map V.int) ∧ Q (.int ns.sum) H) [V.ref D] H2 Q := fun {D H2} hD h2 k2 => by
    refine ⟨D, ls.map fun n : Nat => (n : Int), rfl, ?_, ?_⟩
    · rw [List.map_map]
      exact SqL.of h2
    · rw [sum_ints]
      exact q H2 (fun b o e => k2 b o (ne_of_none e hD) e)
  rcases ha with ha | ha
  · refine ⟨_, rfl, a, rfl, .inl ⟨⟨_, SqL.of ha⟩, fun D hD => ?_⟩⟩
    refine comp_list (xs := qs.map V.ref) (fun i σ H2 => ∃ x0 : Option V, σ = [x0] ∧ H2 D = some (.lst ((ls.take i).map nV)) ∧ But D H H2) ?_ ?_ ?_ ?_
    · exact ⟨_, rfl, upd_same, fun b o n e => by rw [upd_ne n]; exact e⟩
    · rintro i σ H2 _ ⟨x0, rfl, _, k2⟩
      exact k2.sq (SqL.of ha) hD
    · rintro i m x σ H2 hx hm ⟨x0, rfl, h2, k2⟩
      obtain ⟨xs, hS, ⟨qq, rfl⟩, htk, hi⟩ := step hD (σ := [x0]) (fin := fun _ _ _ => True) hx hm k2 h2
      rw [List.length_map] at hm
      refine iteYes ?_
      refine ⟨_, rfl, qq, xs, rfl, hS, _, h2, small1000 (by rw [List.length_map, List.length_take]; (first | lia | omega)), m - 1, by (first | lia | omega), by rw [List.length_map]; (first | lia | omega), _, rfl, ?_, fun b o n e => by rw [upd_ne n]; exact k2 b o n e⟩
      rw [upd_same, htk, List.map_append]
      rfl
    · rintro σ H2 ⟨x0, rfl, h2, k2⟩
      rw [List.length_map, List.take_of_length_le (by (first | lia | omega))] at h2
      exact end_ hD h2 k2
  · refine ⟨_, rfl, a, rfl, .inr ⟨⟨_, SqT.of ha⟩, fun D hD => ?_⟩⟩
    refine comp_tup (xs := qs.map V.ref) (fun i σ H2 => ∃ x0 : Option V, σ = [x0] ∧ H2 D = some (.lst ((ls.take i).map nV)) ∧ But D H H2) ?_ ?_ ?_ ?_
    · exact ⟨_, rfl, upd_same, fun b o n e => by rw [upd_ne n]; exact e⟩
    · rintro i σ H2 _ ⟨x0, rfl, _, k2⟩
      exact SqT.of (k2 _ _ (ne_of_none ha hD) ha)
    · rintro i m x σ H2 hx hm ⟨x0, rfl, h2, k2⟩
      obtain ⟨xs, hS, ⟨qq, rfl⟩, htk, hi⟩ := step hD (σ := [x0]) (fin := fun _ _ _ => True) hx hm k2 h2
      rw [List.length_map] at hm
      refine iteYes ?_
      refine ⟨_, rfl, qq, xs, rfl, hS, _, h2, small1000 (by rw [List.length_map, List.length_take]; (first | lia | omega)), m - 1, by (first | lia | omega), by rw [List.length_map]; (first | lia | omega), _, rfl, ?_, fun b o n e => by rw [upd_ne n]; exact k2 b o n e⟩
      rw [upd_same, htk, List.map_append]
      rfl
    · rintro σ H2 ⟨x0, rfl, h2, k2⟩
      rw [List.length_map, List.take_of_length_le (by (first | lia | omega))] at h2
      exact end_ hD h2 k2
def spFirst (K : PySem.W.Frag) : Sp := fun vs H Q _ => ∃ (m x : Int), vs = [.int m, .int x] ∧ 0 ≤ x ∧ x < m ∧ Q (.bl true) H
theorem ok_first (T : Txt K mg) (D_is_one_of_first : DF K mg "is_one_of_first" s_is_one_of_first ps_is_one_of_first) (F_is_whole : FC P w K mg base 1 "is_whole" ps_is_whole (spWhole K)) : FC P w K mg base 2 "is_one_of_first" ps_is_one_of_first (spFirst K) := by
  refine D_is_one_of_first.ok sc_is_one_of_first (fun vs H Q E h => ?_) (fun f cdv A outer s H vs Q E hr h => ?_)
  · obtain ⟨m, x, rfl, _⟩ := h
    rfl
  obtain ⟨m, x, rfl, h0, h1, q⟩ := h
  refine ⟨_, (pss_one (ps_ret (pe_and (pe_fc F_is_whole hr (pa_cons (pv 1) pa_nil)) (pe_one (pe_chain op_le op_lt pe_int (pv 1) (pv 0)))))), ?_⟩
  refine ⟨_, rfl, _, true, rfl, .int x, _, rfl, ?_⟩
  refine iteT ?_
  refine ⟨_, rfl, _, _, rfl, rfl, _, rfl, ?_⟩
  refine iteDT h0 ?_
  refine ⟨_, rfl, _, _, rfl, rfl, ?_⟩
  show Q (.bl (decide (x < m))) H
  rw [decide_eq_true h1]
  exact q
theorem at_tree0 {ps : List Nat} : atI (treeV ps) 0 = some .non := by
  have h := at_tree (ps := ps) (k := 0) (by (first | lia | omega))
  rw [parV_none rfl] at h
  exact h
def spTreeOfL (K : PySem.W.Frag) : Sp := fun vs H Q _ => ∃ (t : Addr) (ps : List Nat), vs = [.ref t] ∧ H t = some (.lst (treeV ps)) ∧ TreeOk ps ∧ ps.length ≤ 39 ∧ ∀ (u : Addr) (H' : Hp), H u = none → Same H H' → H' u = some (.tup (treeV ps)) → Q (.ref u) H'
theorem ok_treeOfL (T : Txt K mg) (D_tree_of : DF K mg "tree_of" s_tree_of ps_tree_of) (F_is_one_of_first : FC P w K mg base 2 "is_one_of_first" ps_is_one_of_first (spFirst K)) : FC P w K mg base 3 "tree_of" ps_tree_of (spTreeOfL K) := by
  refine D_tree_of.ok sc_tree_of (fun vs H Q E h => ?_) (fun f cdv A outer s H vs Q E hr h => ?_)
  · obtain ⟨t, ps, rfl, _⟩ := h
    rfl
  obtain ⟨t, ps, rfl, ht, hT, hz, q⟩ := h
  refine ⟨_, (pss_join (ps_if (pt_not (pt_val (pe_callB call_isiLT rfl T.m_isinstance boot_isinstance (pa_cons (pv 0) (pa_cons (pe_tup (pa_cons (pe_bltn (v := .ty "list") rfl T.m_list boot_list rfl) (pa_cons (pe_bltn (v := .ty "tuple") rfl T.m_tuple boot_tuple rfl) pa_nil))) pa_nil))))) (pss_one ps_never) pss_nil)
      (pss_join (ps_if (pt_not (pt_chain op_le op_le pe_int (pe_callB call_len_seq rfl T.m_len boot_len (pa_cons (pv 0) pa_nil)) (pe_globI rfl T.g_MOST_KNOTS))) (pss_one ps_never) pss_nil)
      (pss_join (ps_if (pt_cmpR op_notN (pe_ix ix_list (pv 0) pe_int (fun _ _ => rfl)) pe_non (nomark _)) (pss_one ps_never) pss_nil)
      (pss_cons (ps_for PassesOwn.never rfl (pi_range2 rfl T.m_range (pa_cons pe_int (pa_cons (pe_callB call_len_seq rfl T.m_len boot_len (pa_cons (pv 0) pa_nil)) pa_nil))) (pg_name (i := 1) sc_tree_of.nd rfl (Or.inl rfl)) (pss_one (ps_if (pt_not (pt_val (pe_fc F_is_one_of_first hr (pa_cons (pv 1) (pa_cons (pe_ix ix_list (pv 0) (pv 1) (fun _ _ => rfl)) pa_nil))))) (pss_one ps_never) pss_nil)))
      (pss_one (ps_ret (pe_callTy call_tuple_of rfl T.m_tuple boot_tuple (pa_cons (pv 0) pa_nil)))))))), ?_⟩
  refine ⟨fun σ' H' => σ' = [some (.ref t), none] ∧ Same H H', ?_, ?_⟩
  · refine ⟨_, rfl, (by show 2 ≤ sizeLine; decide), fun p hp => ?_⟩
    have sp := same_new hp (.tup [.ty "list", .ty "tuple"])
    refine ⟨t, p, rfl, upd_same, .inl ⟨_, sp _ _ ht⟩, _, rfl, ?_⟩
    refine iteF ?_
    exact ⟨rfl, sp⟩
  rintro σ' H1 ⟨rfl, s1⟩
  have h1 := s1 _ _ ht
  refine ⟨fun σ' H' => σ' = [some (.ref t), none] ∧ H1 = H', ?_, ?_⟩
  · refine ⟨_, rfl, _, _, rfl, .inl (SqL.of h1), _, _, rfl, rfl, _, rfl, ?_⟩
    refine iteDT (by rw [treeV_length]; (first | lia | omega)) ?_
    refine ⟨_, _, rfl, rfl, _, rfl, ?_⟩
    rw [decide_eq_true (by rw [treeV_length]; (first | lia | omega))]
    refine iteF ?_
    exact ⟨rfl, rfl⟩
  rintro σ' H' ⟨rfl, rfl⟩
  refine ⟨fun σ' H' => σ' = [some (.ref t), none] ∧ H1 = H', ?_, ?_⟩
  · refine ⟨_, rfl, _, _, _, _, rfl, rfl, SqL.of h1, at_tree0, rfl, _, rfl, ?_⟩
    refine iteF ?_
    exact ⟨rfl, rfl⟩
  rintro σ' H' ⟨rfl, rfl⟩
  refine ⟨_, rfl, _, _, rfl, .inl (SqL.of h1), 1, _, rfl, ⟨by (first | lia | omega), by (first | lia | omega), by rw [treeV_length]; (first | lia | omega), by rw [treeV_length]; (first | lia | omega)⟩, ?_⟩
  have en : ((((treeV ps).length : Nat) : Int) - 1).toNat = ps.length := by rw [treeV_length]; (first | lia | omega)
  rw [en]
  refine for_range (n := ps.length) (fun i σ H2 => ∃ x1 : Option V, σ = [some (.ref t), x1] ∧ H2 = H1) ?_ ?_ ?_
  · exact ⟨_, rfl, rfl⟩
  · rintro i σ H2 hi ⟨x1, rfl, rfl⟩
    have ek : (1 : Int) + (i : Int) = ((i + 1 : Nat) : Int) := by (first | lia | omega)
    rw [ek]
    obtain ⟨u, hu⟩ := par_some (ps := ps) (k := i + 1) (by (first | lia | omega)) (by (first | lia | omega))
    have hlt := (par_lt hT hu).1
    have hat := at_tree (ps := ps) (k := i + 1) (by (first | lia | omega))
    rw [parV_some hu] at hat
    refine ⟨_, rfl, _, rfl, _, rfl, _, _, _, _, rfl, rfl, SqL.of h1, hat, _, _, rfl, by (first | lia | omega), by (first | lia | omega), _, rfl, ?_⟩
    refine iteF ?_
    exact ⟨_, rfl, rfl⟩
  · rintro σ H2 ⟨x1, rfl, rfl⟩
    refine ⟨_, rfl, t, _, rfl, .inl ⟨SqL.of h1, fun u hu => ?_⟩⟩
    exact q u _ (s1.free hu) (s1.trans (same_new hu _)) upd_same
def SeqAt (H : Hp) (a : Addr) (xs : List V) : Prop := H a = some (.lst xs) ∨ H a = some (.tup xs)
theorem SeqAt.same {H H' : Hp} (e : Same H H') {a : Addr} {xs : List V} (h : SeqAt H a xs) : SeqAt H' a xs := h.elim (fun h => .inl (e _ _ h)) (fun h => .inr (e _ _ h))
theorem SeqAt.some {H : Hp} {a : Addr} {xs : List V} (h : SeqAt H a xs) : ∃ o, H a = some o := h.elim (fun h => ⟨_, h⟩) (fun h => ⟨_, h⟩)
theorem SeqAt.but {H H' : Hp} {D : Addr} (k : But D H H') (hD : H D = none) {a : Addr} {xs : List V} (h : SeqAt H a xs) : SeqAt H' a xs := h.elim (fun h => .inl (k _ _ (ne_of_none h hD) h)) (fun h => .inr (k _ _ (ne_of_none h hD) h))
def GivAt (H : Hp) (a : Addr) (row : List Int) : Prop := ∃ r : List Int, SeqAt H a (r.map V.int) ∧ r.Perm row
theorem sort_perm {r row : List Int} (hp : r.Perm row) (hup : row.Pairwise (· < ·)) : sortD r = row :=
  (sortD_is (as := r) (bs := row) hp.symm (List.Pairwise.imp (fun {a b} (h : a < b) => decide_eq_false (by (first | lia | omega))) hup)).symm
def spRowOfQ (K : PySem.W.Frag) : Sp := fun vs H Q _ => ∃ (a : Addr) (r row : List Int), vs = [.ref a] ∧ SeqAt H a (r.map V.int) ∧ r.Perm row ∧ row.Pairwise (· < ·) ∧ (∀ x ∈ row, -(10 ^ 60) < x ∧ x < 10 ^ 60) ∧ row.length ≤ 900 ∧
  ∀ (b : Addr) (H' : Hp), H b = none → Same H H' → H' b = some (.tup (row.map V.int)) → Q (.ref b) H'
theorem ok_rowOfQ (T : Txt K mg) (D_row_of : DF K mg "row_of" s_row_of ps_row_of) (F_is_key : FC P w K mg base 2 "is_key" ps_is_key (spIsKey K)) : FC P w K mg base 3 "row_of" ps_row_of (spRowOfQ K) := by
  refine D_row_of.ok sc_row_of (fun vs H Q E h => ?_) (fun f cdv A outer s H vs Q E hr h => ?_)
  · obtain ⟨a, r, row, rfl, _⟩ := h
    rfl
  obtain ⟨a, r, row, rfl, ha, hpm, hup, hky, hz, q⟩ := h
  refine ⟨_, (pss_join (ps_if (pt_not (pt_val (pe_callB call_isiLT rfl T.m_isinstance boot_isinstance (pa_cons (pv 0) (pa_cons (pe_tup (pa_cons (pe_bltn (v := .ty "list") rfl T.m_list boot_list rfl) (pa_cons (pe_bltn (v := .ty "tuple") rfl T.m_tuple boot_tuple rfl) pa_nil))) pa_nil))))) (pss_one ps_never) pss_nil)
      (pss_cons (ps_for PassesOwn.never rfl (pi_seq (pv 0)) (pg_name (i := 1) sc_row_of.nd rfl (Or.inl rfl)) (pss_one (ps_if (pt_not (pt_val (pe_fc F_is_key hr (pa_cons (pv 1) pa_nil)))) (pss_one ps_never) pss_nil)))
      (pss_join (ps_if (pt_cmpR op_lt (pe_callB call_len_S rfl T.m_len boot_len (pa_cons (pe_callTy (call_setQ rfl) rfl T.m_set boot_set (pa_cons (pv 0) pa_nil)) pa_nil)) (pe_callB call_len_seq rfl T.m_len boot_len (pa_cons (pv 0) pa_nil)) (nomark _)) (pss_one ps_never) pss_nil)
      (pss_one (ps_ret (pe_callTy call_tuple_of rfl T.m_tuple boot_tuple (pa_cons (pe_callB (call_sortQ Int) rfl T.m_sorted boot_sorted (pa_cons (pv 0) pa_nil)) pa_nil))))))), ?_⟩
  have hrn : row.Nodup := List.Pairwise.imp (fun {a b} (q : a < b) => by (first | lia | omega)) hup
  have hnd : r.Nodup := hpm.nodup_iff.mpr hrn
  have hrl : r.length = row.length := hpm.length_eq
  have hsort := sort_perm hpm hup
  rcases ha with ha | ha
  ·
    refine ⟨fun σ' H' => σ' = [some (.ref a), none] ∧ Same H H', ?_, ?_⟩
    · refine ⟨_, rfl, (by show 2 ≤ sizeLine; decide), fun p hp => ?_⟩
      have sp := same_new hp (.tup [.ty "list", .ty "tuple"])
      refine ⟨a, p, rfl, upd_same, .inl ⟨_, sp _ _ ha⟩, _, rfl, ?_⟩
      refine iteF ?_
      exact ⟨rfl, sp⟩
    rintro σ' H1 ⟨rfl, s1⟩
    have h1 := s1 _ _ ha
    refine ⟨_, rfl, a, rfl, .inl ⟨⟨_, SqL.of h1⟩, ?_⟩⟩
    refine for_list (xs := r.map V.int) (fun i σ H2 => ∃ x1 : Option V, σ = [some (.ref a), x1] ∧ H2 = H1) ?_ ?_ ?_ ?_
    · exact ⟨_, rfl, rfl⟩
    · rintro i σ H2 _ ⟨x1, rfl, rfl⟩
      exact SqL.of h1
    · rintro i x σ H2 hx ⟨x1, rfl, rfl⟩
      rw [List.getElem?_map] at hx
      obtain ⟨y, hy, rfl⟩ := Option.map_eq_some_iff.mp hx
      have hb := hky y (hpm.mem_iff.mp (List.mem_of_getElem? hy))
      refine ⟨_, rfl, _, true, rfl, .int y true ?_, _, rfl, ?_⟩
      · rw [decide_eq_true (by split <;> (first | lia | omega))]
      refine iteF ?_
      exact ⟨_, rfl, rfl⟩
    · rintro σ H2 ⟨x1, rfl, rfl⟩
      refine ⟨fun σ' H' => σ' = [some (.ref a), x1] ∧ Same H2 H', ?_, ?_⟩
      · refine ⟨_, rfl, .inl ⟨a, r, rfl, SqL.of h1, by (first | lia | omega), fun l hl => ?_⟩⟩
        have sl := same_new hl (.set (fun k => (metI r).any (· == k)) (metI r).length)
        refine ⟨l, _, _, rfl, upd_same, by rw [metI_nodup hnd]; (first | lia | omega), _, rfl, _, _, rfl, .inl (SqL.of (sl _ _ h1)), _, _, rfl, rfl, _, rfl, ?_⟩
        refine iteDF (by rw [metI_nodup hnd, List.length_map]; (first | lia | omega)) ?_
        exact ⟨rfl, sl⟩
      rintro σ' H3 ⟨rfl, s3⟩
      have h3 := s3 _ _ h1
      refine ⟨_, rfl, .inl ⟨a, _, r, rfl, SqL.of h3, HasAll.ints, fun l ws hl hw => ?_⟩⟩
      rw [hw.toInts, hsort]
      have sl := same_new hl (.lst (row.map V.int))
      refine ⟨l, _, rfl, .inl ⟨SqL.of upd_same, fun b hb => ?_⟩⟩
      have sb := same_new hb (.tup (row.map V.int))
      have s03 : Same H H3 := s1.trans s3
      exact q b _ (s03.free (sl.free hb)) (s03.trans (sl.trans sb)) upd_same
  ·
    refine ⟨fun σ' H' => σ' = [some (.ref a), none] ∧ Same H H', ?_, ?_⟩
    · refine ⟨_, rfl, (by show 2 ≤ sizeLine; decide), fun p hp => ?_⟩
      have sp := same_new hp (.tup [.ty "list", .ty "tuple"])
      refine ⟨a, p, rfl, upd_same, .inr ⟨_, sp _ _ ha⟩, _, rfl, ?_⟩
      refine iteF ?_
      exact ⟨rfl, sp⟩
    rintro σ' H1 ⟨rfl, s1⟩
    have h1 := s1 _ _ ha
    refine ⟨_, rfl, a, rfl, .inr ⟨⟨_, SqT.of h1⟩, ?_⟩⟩
    refine for_tup (xs := r.map V.int) (fun i σ H2 => ∃ x1 : Option V, σ = [some (.ref a), x1] ∧ H2 = H1) ?_ ?_ ?_ ?_
    · exact ⟨_, rfl, rfl⟩
    · rintro i σ H2 _ ⟨x1, rfl, rfl⟩
      exact SqT.of h1
    · rintro i x σ H2 hx ⟨x1, rfl, rfl⟩
      rw [List.getElem?_map] at hx
      obtain ⟨y, hy, rfl⟩ := Option.map_eq_some_iff.mp hx
      have hb := hky y (hpm.mem_iff.mp (List.mem_of_getElem? hy))
      refine ⟨_, rfl, _, true, rfl, .int y true ?_, _, rfl, ?_⟩
      · rw [decide_eq_true (by split <;> (first | lia | omega))]
      refine iteF ?_
      exact ⟨_, rfl, rfl⟩
    · rintro σ H2 ⟨x1, rfl, rfl⟩
      refine ⟨fun σ' H' => σ' = [some (.ref a), x1] ∧ Same H2 H', ?_, ?_⟩
      · refine ⟨_, rfl, .inr ⟨a, r, rfl, SqT.of h1, by (first | lia | omega), fun l hl => ?_⟩⟩
        have sl := same_new hl (.set (fun k => (metI r).any (· == k)) (metI r).length)
        refine ⟨l, _, _, rfl, upd_same, by rw [metI_nodup hnd]; (first | lia | omega), _, rfl, _, _, rfl, .inr (SqT.of (sl _ _ h1)), _, _, rfl, rfl, _, rfl, ?_⟩
        refine iteDF (by rw [metI_nodup hnd, List.length_map]; (first | lia | omega)) ?_
        exact ⟨rfl, sl⟩
      rintro σ' H3 ⟨rfl, s3⟩
      have h3 := s3 _ _ h1
      refine ⟨_, rfl, .inr ⟨a, _, r, rfl, SqT.of h3, HasAll.ints, fun l ws hl hw => ?_⟩⟩
      rw [hw.toInts, hsort]
      have sl := same_new hl (.lst (row.map V.int))
      refine ⟨l, _, rfl, .inl ⟨SqL.of upd_same, fun b hb => ?_⟩⟩
      have sb := same_new hb (.tup (row.map V.int))
      have s03 : Same H H3 := s1.trans s3
      exact q b _ (s03.free (sl.free hb)) (s03.trans (sl.trans sb)) upd_same
theorem RowsAt.lens {H : Hp} : ∀ {as : List Addr} {rows : List (List Int)}, RowsAt H as rows → Paired (LenAt H) as (rows.map List.length)
  | _, _, .nil => .nil
  | _, _, .cons h t => .cons ⟨_, .inr h, by rw [List.length_map]⟩ (RowsAt.lens t)
def spStandOfQ (K : PySem.W.Frag) : Sp := fun vs H Q _ => ∃ (t r : Addr) (ps : List Nat) (rows : List (List Int)) (as : List Addr), vs = [.ref t, .ref r] ∧ H t = some (.tup (treeV ps)) ∧ SeqAt H r (as.map V.ref) ∧ Paired (GivAt H) as rows ∧ rows.length = ps.length + 1 ∧ TreeOk ps ∧ RowsOk rows ∧ ps.length ≤ 40 ∧ keysN rows ≤ 300 ∧
  ∀ (st rs : Addr) (bs : List Addr) (H' : Hp), H st = none → Same H H' → StandAt H' st ps rows t rs bs → Q (.ref st) H'
theorem ok_standOfQ (T : Txt K mg) (D_stand_of : DF K mg "stand_of" s_stand_of ps_stand_of) (F_row_of : FC P w K mg base 3 "row_of" ps_row_of (spRowOfQ K)) (F_long_together : FC P w K mg base 1 "long_together" ps_long_together (spLong K)) : FC P w K mg base 4 "stand_of" ps_stand_of (spStandOfQ K) := by
  refine D_stand_of.ok sc_stand_of (fun vs H Q E h => ?_) (fun f cdv A outer s H vs Q E hr h => ?_)
  · obtain ⟨t, r, ps, rows, as, rfl, _⟩ := h
    rfl
  obtain ⟨t, r, ps, rows, as, rfl, ht, hr0, hA, hlen, hT, hR, hfew, hkeys, q⟩ := h
  have hal : as.length = rows.length := Paired.length hA
  refine ⟨_, (pss_join (ps_if (pt_not (pt_val (pe_callB call_isiLT rfl T.m_isinstance boot_isinstance (pa_cons (pv 1) (pa_cons (pe_tup (pa_cons (pe_bltn (v := .ty "list") rfl T.m_list boot_list rfl) (pa_cons (pe_bltn (v := .ty "tuple") rfl T.m_tuple boot_tuple rfl) pa_nil))) pa_nil))))) (pss_one ps_never) pss_nil)
      (pss_join (ps_if (pt_cmpR op_ne (pe_callB call_len_seq rfl T.m_len boot_len (pa_cons (pv 1) pa_nil)) (pe_callB call_len_seq rfl T.m_len boot_len (pa_cons (pv 0) pa_nil)) (nomark _)) (pss_one ps_never) pss_nil)
      (pss_cons (ps_set (i := 2) sc_stand_of.nd rfl (Or.inl rfl) (pe_callTy call_tuple_of rfl T.m_tuple boot_tuple (pa_cons (pe_comp (N := ["row"]) (own := 1) (cap := []) rfl (pi_seq (pv 1)) ⟨rfl, rfl, rfl, rfl, rfl, rfl⟩ (fun _ _ _ _ _ => (pg_name (i := 0) (show List.Nodup (["row"] : List Str) by decide +kernel) rfl (Or.inl rfl))) (fun _ _ _ _ _ => pts_nil) (fun _ _ _ _ _ => (pe_fc F_row_of hr (pa_cons (pv 0) pa_nil)))) pa_nil)))
      (pss_join (ps_if (pt_cmpR op_gt (pe_fc F_long_together hr (pa_cons (pv 2) pa_nil)) (pe_globI rfl T.g_MOST_KEYS) (nomark _)) (pss_one ps_never) pss_nil)
      (pss_one (ps_ret (pe_tup (pa_cons (pv 0) (pa_cons (pv 2) pa_nil))))))))), ?_⟩
  rcases hr0 with hr0 | hr0
  ·
    refine ⟨fun σ' H' => σ' = [some (.ref t), some (.ref r), none] ∧ Same H H', ?_, ?_⟩
    · refine ⟨_, rfl, (by show 2 ≤ sizeLine; decide), fun p hp => ?_⟩
      have sp := same_new hp (.tup [.ty "list", .ty "tuple"])
      refine ⟨r, p, rfl, upd_same, .inl ⟨_, sp _ _ hr0⟩, _, rfl, ?_⟩
      refine iteF ?_
      exact ⟨rfl, sp⟩
    rintro σ' H1 ⟨rfl, s1⟩
    have h1t := s1 _ _ ht
    have h1r := s1 _ _ hr0
    have A1 : Paired (GivAt H1) as rows := paired_imp (fun _ _ ⟨x, h, p⟩ => ⟨x, h.same s1, p⟩) hA
    refine ⟨fun σ' H' => σ' = [some (.ref t), some (.ref r), none] ∧ H1 = H', ?_, ?_⟩
    · refine ⟨_, rfl, _, _, rfl, .inl (SqL.of h1r), _, rfl, _, _, rfl, .inr (SqT.of h1t), rfl, _, rfl, ?_⟩
      refine iteNS (by rw [List.length_map, treeV_length, hal, hlen]) ?_
      exact ⟨rfl, rfl⟩
    rintro σ' H' ⟨rfl, rfl⟩
    refine ⟨_, rfl, r, rfl, .inl ⟨⟨_, SqL.of h1r⟩, fun D hD => ?_⟩⟩
    refine comp_list (xs := as.map V.ref) (fun i σ H2 => ∃ (bs : List Addr) (x0 : Option V), σ = [x0] ∧ H2 D = some (.lst (bs.map V.ref)) ∧ RowsAt H2 bs (rows.take i) ∧ But D H1 H2) ?_ ?_ ?_ ?_
    · exact ⟨[], _, rfl, upd_same, .nil, fun b o n e => by rw [upd_ne n]; exact e⟩
    · rintro i σ H2 _ ⟨bs, x0, rfl, _, _, k2⟩
      exact SqL.of (k2 _ _ (ne_of_none h1r hD) h1r)
    · rintro i m x σ H2 hx hm ⟨bs, x0, rfl, h2, hB, k2⟩
      have hbl := hB.length
      rw [List.length_take] at hbl
      rw [List.length_map] at hm
      have hi : i < rows.length := by
        have := (List.getElem?_eq_some_iff.mp hx).1
        rw [List.length_map] at this
        (first | lia | omega)
      obtain ⟨b, hb1, x2, hb2, hxp⟩ : ∃ b, as[i]? = some b ∧ GivAt H1 b (rowAt rows i) := by
        have hri : rows[i]? = some (rowAt rows i) := by
          unfold rowAt
          rw [List.getD_eq_getElem?_getD, List.getElem?_eq_getElem hi]
          rfl
        exact paired_get' A1 hri
      rw [List.getElem?_map, hb1] at hx
      have := Option.some.inj hx
      subst this
      have hmem : rowAt rows i ∈ rows := by
        unfold rowAt
        rw [List.getD_eq_getElem?_getD, List.getElem?_eq_getElem hi]
        exact List.getElem_mem hi
      have hrl := keys_mem hmem
      have htk : rows.take (i + 1) = rows.take i ++ [rowAt rows i] := by
        rw [List.take_succ_eq_append_getElem hi]
        unfold rowAt
        rw [List.getD_eq_getElem?_getD, List.getElem?_eq_getElem hi]
        rfl
      have h2b := hb2.but k2 hD
      refine iteYes ?_
      refine ⟨_, rfl, b, x2, rowAt rows i, rfl, h2b, hxp, hR.at_up i, hR.at_key i, by (first | lia | omega), fun c H3 hc s3 h3 => ?_⟩
      have h3D := s3 _ _ h2
      have ncD : ∀ {x : Addr} {o : List V}, H3 x = some (.tup o) → x ≠ D := fun {x o} e z => by
        rw [z, h3D] at e
        cases e
      have kD : ∀ b o, b ≠ D → H3 b = some o → upd H3 D (.lst (bs.map V.ref ++ [.ref c])) b = some o := fun b o n e => by rw [upd_ne n]; exact e
      refine ⟨_, h3D, small1000 (by rw [List.length_map]; (first | lia | omega)), m - 1, by (first | lia | omega), by rw [List.length_map]; (first | lia | omega), bs ++ [c], _, rfl, ?_, ?_, fun b o n e => kD _ _ n (s3 _ _ (k2 b o n e))⟩
      · rw [upd_same, List.map_append]
        rfl
      · rw [htk]
        exact RowsAt.snoc (RowsAt.keep (p := D) (d := D) (fun a row e => ncD e) kD (hB.ext s3)) (kD _ _ (ncD h3) h3)
    rintro σ H2 ⟨bs, x0, rfl, h2, hB, k2⟩
    rw [List.length_map, List.take_of_length_le (by (first | lia | omega))] at hB
    have s2 : Same H1 H2 := fun b o e => k2 b o (ne_of_none e hD) e
    refine ⟨D, _, rfl, .inl ⟨SqL.of h2, fun rs hrs => ?_⟩⟩
    have s3 := same_new hrs (.tup (bs.map V.ref))
    have h3 : upd H2 rs (.tup (bs.map V.ref)) rs = some (.tup (bs.map V.ref)) := upd_same
    have s13 := s2.trans s3
    have B3 := hB.ext s3
    generalize upd H2 rs (.tup (bs.map V.ref)) = H3 at s3 h3 s13 B3 ⊢
    refine ⟨fun σ' H' => σ' = [some (.ref t), some (.ref r), some (.ref rs)] ∧ Same H3 H', ?_, ?_⟩
    · refine ⟨_, rfl, rs, bs, rows.map List.length, rfl, .inr h3, B3.lens, by rw [List.length_map]; (first | lia | omega), fun H4 s4 => ?_⟩
      have hk : (rows.map List.length).sum = keysN rows := rfl
      rw [hk]
      refine ⟨_, _, rfl, rfl, _, rfl, ?_⟩
      refine iteDF (by (first | lia | omega)) ?_
      exact ⟨rfl, s4⟩
    rintro σ' H4 ⟨rfl, s4⟩
    have s04 := s1.trans (s13.trans s4)
    refine ⟨_, rfl, _, rfl, (by show 2 ≤ sizeLine; decide), fun st hst => ?_⟩
    have ss := same_new hst (.tup [.ref t, .ref rs])
    exact q st rs bs _ (s04.free hst) (s04.trans ss) ⟨upd_same, ss _ _ (s04 _ _ ht), ss _ _ (s4 _ _ h3), (B3.ext s4).ext ss, hlen, hT, hR, hfew, by (first | lia | omega)⟩
  ·
    refine ⟨fun σ' H' => σ' = [some (.ref t), some (.ref r), none] ∧ Same H H', ?_, ?_⟩
    · refine ⟨_, rfl, (by show 2 ≤ sizeLine; decide), fun p hp => ?_⟩
      have sp := same_new hp (.tup [.ty "list", .ty "tuple"])
      refine ⟨r, p, rfl, upd_same, .inr ⟨_, sp _ _ hr0⟩, _, rfl, ?_⟩
      refine iteF ?_
      exact ⟨rfl, sp⟩
    rintro σ' H1 ⟨rfl, s1⟩
    have h1t := s1 _ _ ht
    have h1r := s1 _ _ hr0
    have A1 : Paired (GivAt H1) as rows := paired_imp (fun _ _ ⟨x, h, p⟩ => ⟨x, h.same s1, p⟩) hA
    refine ⟨fun σ' H' => σ' = [some (.ref t), some (.ref r), none] ∧ H1 = H', ?_, ?_⟩
    · refine ⟨_, rfl, _, _, rfl, .inr (SqT.of h1r), _, rfl, _, _, rfl, .inr (SqT.of h1t), rfl, _, rfl, ?_⟩
      refine iteNS (by rw [List.length_map, treeV_length, hal, hlen]) ?_
      exact ⟨rfl, rfl⟩
    rintro σ' H' ⟨rfl, rfl⟩
    refine ⟨_, rfl, r, rfl, .inr ⟨⟨_, SqT.of h1r⟩, fun D hD => ?_⟩⟩
    refine comp_tup (xs := as.map V.ref) (fun i σ H2 => ∃ (bs : List Addr) (x0 : Option V), σ = [x0] ∧ H2 D = some (.lst (bs.map V.ref)) ∧ RowsAt H2 bs (rows.take i) ∧ But D H1 H2) ?_ ?_ ?_ ?_
    · exact ⟨[], _, rfl, upd_same, .nil, fun b o n e => by rw [upd_ne n]; exact e⟩
    · rintro i σ H2 _ ⟨bs, x0, rfl, _, _, k2⟩
      exact SqT.of (k2 _ _ (ne_of_none h1r hD) h1r)
    · rintro i m x σ H2 hx hm ⟨bs, x0, rfl, h2, hB, k2⟩
      have hbl := hB.length
      rw [List.length_take] at hbl
      rw [List.length_map] at hm
      have hi : i < rows.length := by
        have := (List.getElem?_eq_some_iff.mp hx).1
        rw [List.length_map] at this
        (first | lia | omega)
      obtain ⟨b, hb1, x2, hb2, hxp⟩ : ∃ b, as[i]? = some b ∧ GivAt H1 b (rowAt rows i) := by
        have hri : rows[i]? = some (rowAt rows i) := by
          unfold rowAt
          rw [List.getD_eq_getElem?_getD, List.getElem?_eq_getElem hi]
          rfl
        exact paired_get' A1 hri
      rw [List.getElem?_map, hb1] at hx
      have := Option.some.inj hx
      subst this
      have hmem : rowAt rows i ∈ rows := by
        unfold rowAt
        rw [List.getD_eq_getElem?_getD, List.getElem?_eq_getElem hi]
        exact List.getElem_mem hi
      have hrl := keys_mem hmem
      have htk : rows.take (i + 1) = rows.take i ++ [rowAt rows i] := by
        rw [List.take_succ_eq_append_getElem hi]
        unfold rowAt
        rw [List.getD_eq_getElem?_getD, List.getElem?_eq_getElem hi]
        rfl
      have h2b := hb2.but k2 hD
      refine iteYes ?_
      refine ⟨_, rfl, b, x2, rowAt rows i, rfl, h2b, hxp, hR.at_up i, hR.at_key i, by (first | lia | omega), fun c H3 hc s3 h3 => ?_⟩
      have h3D := s3 _ _ h2
      have ncD : ∀ {x : Addr} {o : List V}, H3 x = some (.tup o) → x ≠ D := fun {x o} e z => by
        rw [z, h3D] at e
        cases e
      have kD : ∀ b o, b ≠ D → H3 b = some o → upd H3 D (.lst (bs.map V.ref ++ [.ref c])) b = some o := fun b o n e => by rw [upd_ne n]; exact e
      refine ⟨_, h3D, small1000 (by rw [List.length_map]; (first | lia | omega)), m - 1, by (first | lia | omega), by rw [List.length_map]; (first | lia | omega), bs ++ [c], _, rfl, ?_, ?_, fun b o n e => kD _ _ n (s3 _ _ (k2 b o n e))⟩
      · rw [upd_same, List.map_append]
        rfl
      · rw [htk]
        exact RowsAt.snoc (RowsAt.keep (p := D) (d := D) (fun a row e => ncD e) kD (hB.ext s3)) (kD _ _ (ncD h3) h3)
    rintro σ H2 ⟨bs, x0, rfl, h2, hB, k2⟩
    rw [List.length_map, List.take_of_length_le (by (first | lia | omega))] at hB
    have s2 : Same H1 H2 := fun b o e => k2 b o (ne_of_none e hD) e
    refine ⟨D, _, rfl, .inl ⟨SqL.of h2, fun rs hrs => ?_⟩⟩
    have s3 := same_new hrs (.tup (bs.map V.ref))
    have h3 : upd H2 rs (.tup (bs.map V.ref)) rs = some (.tup (bs.map V.ref)) := upd_same
    have s13 := s2.trans s3
    have B3 := hB.ext s3
    generalize upd H2 rs (.tup (bs.map V.ref)) = H3 at s3 h3 s13 B3 ⊢
    refine ⟨fun σ' H' => σ' = [some (.ref t), some (.ref r), some (.ref rs)] ∧ Same H3 H', ?_, ?_⟩
    · refine ⟨_, rfl, rs, bs, rows.map List.length, rfl, .inr h3, B3.lens, by rw [List.length_map]; (first | lia | omega), fun H4 s4 => ?_⟩
      have hk : (rows.map List.length).sum = keysN rows := rfl
      rw [hk]
      refine ⟨_, _, rfl, rfl, _, rfl, ?_⟩
      refine iteDF (by (first | lia | omega)) ?_
      exact ⟨rfl, s4⟩
    rintro σ' H4 ⟨rfl, s4⟩
    have s04 := s1.trans (s13.trans s4)
    refine ⟨_, rfl, _, rfl, (by show 2 ≤ sizeLine; decide), fun st hst => ?_⟩
    have ss := same_new hst (.tup [.ref t, .ref rs])
    exact q st rs bs _ (s04.free hst) (s04.trans ss) ⟨upd_same, ss _ _ (s04 _ _ ht), ss _ _ (s4 _ _ h3), (B3.ext s4).ext ss, hlen, hT, hR, hfew, by (first | lia | omega)⟩
theorem app_cut {c : Nat} : ∀ {x y a b : List Nat}, c ∉ x → c ∉ y → x ++ c :: a = y ++ c :: b → x = y ∧ a = b
  | [], [], _, _, _, _, h => ⟨rfl, (List.cons.inj h).2⟩
  | [], _ :: _, _, _, _, hy, h => absurd (by rw [← (List.cons.inj h).1]; exact List.mem_cons_self) hy
  | _ :: _, [], _, _, hx, _, h => absurd (by rw [(List.cons.inj h).1]; exact List.mem_cons_self) hx
  | u :: x, v :: y, _, _, hx, hy, h => by
    obtain ⟨h1, h2⟩ := List.cons.inj h
    obtain ⟨h3, h4⟩ := app_cut (fun z => hx (List.mem_cons_of_mem _ z)) (fun z => hy (List.mem_cons_of_mem _ z)) h2
    exact ⟨by rw [h1, h3], h4⟩
def Free (c : Nat) (p : Str) : Prop := c ∉ p.cps.toList
theorem join_two (c : Nat) (x y : Str) (r : List Str) : (Str.join ⟨#[c]⟩ (x :: y :: r)).cps.toList = x.cps.toList ++ c :: (Str.join ⟨#[c]⟩ (y :: r)).cps.toList := by
  show (x ++ ⟨#[c]⟩ ++ Str.join ⟨#[c]⟩ (y :: r)).cps.toList = _
  rw [Str.cps_append, Str.cps_append]
  simp
theorem str_ext {a b : Str} (h : a.cps.toList = b.cps.toList) : a = b := Str.ext' (Array.toList_inj.mp h)
theorem join_inj (c : Nat) : ∀ {ps qs : List Str}, ps ≠ [] → qs ≠ [] → (∀ p ∈ ps, Free c p) → (∀ q ∈ qs, Free c q) → (Str.join ⟨#[c]⟩ ps).cps.toList = (Str.join ⟨#[c]⟩ qs).cps.toList → ps = qs
  | [], _, h, _, _, _, _ => absurd rfl h
  | _, [], _, h, _, _, _ => absurd rfl h
  | [x], [y], _, _, _, _, h => by rw [str_ext (a := x) (b := y) h]
  | [x], y :: z :: r, _, _, hx, _, h => by
    rw [join_two] at h
    refine absurd ?_ (hx x List.mem_cons_self)
    show c ∈ x.cps.toList
    have e : (Str.join ⟨#[c]⟩ [x]).cps.toList = x.cps.toList := rfl
    rw [← e, h]
    exact List.mem_append_right _ List.mem_cons_self
  | x :: z :: r, [y], _, _, _, hy, h => by
    rw [join_two] at h
    refine absurd ?_ (hy y List.mem_cons_self)
    show c ∈ y.cps.toList
    have e : (Str.join ⟨#[c]⟩ [y]).cps.toList = y.cps.toList := rfl
    rw [← e, ← h]
    exact List.mem_append_right _ List.mem_cons_self
  | x :: x2 :: r, y :: y2 :: r', _, _, hx, hy, h => by
    rw [join_two, join_two] at h
    obtain ⟨h1, h2⟩ := app_cut (hx x List.mem_cons_self) (hy y List.mem_cons_self) h
    rw [str_ext h1, join_inj c (List.cons_ne_nil _ _) (List.cons_ne_nil _ _) (fun p hp => hx p (List.mem_cons_of_mem _ hp)) (fun p hp => hy p (List.mem_cons_of_mem _ hp)) h2]
theorem split_join (c : Nat) {ps : List Str} (h : ps ≠ []) (hf : ∀ p ∈ ps, Free c p) : Txt.split (Txt.join ⟨#[c]⟩ ps) ⟨#[c]⟩ = ps := by
  have e : Txt.join ⟨#[c]⟩ ps = Str.join ⟨#[c]⟩ ps := StrLaws.glued_eq_join _ _
  rw [e]
  refine join_inj c (fun z => ?_) h (StrLaws.split_free _ c) hf (by rw [StrLaws.join_split])
  have := split_pos (Str.join ⟨#[c]⟩ ps) ⟨#[c]⟩
  rw [z] at this
  exact absurd this (by decide)
def digs (m : Nat) : List Nat := (Nat.toDigits 10 m).map Char.toNat
theorem digs_lt {m : Nat} (h : m < 10) : digs m = [48 + m] := by
  unfold digs
  rw [Nat.toDigits_of_lt_base h]
  have : ∀ m : Fin 10, [Nat.digitChar m].map Char.toNat = [48 + m.1] := by decide
  exact this ⟨m, h⟩
theorem digs_ge {m : Nat} (h : 10 ≤ m) : digs m = digs (m / 10) ++ [48 + m % 10] := by
  have hm : m % 10 < 10 := Nat.mod_lt m (by decide)
  have t : Nat.toDigits 10 (m / 10) ++ Nat.toDigits 10 (m % 10) = Nat.toDigits 10 (10 * (m / 10) + m % 10) := Nat.toDigits_append_toDigits (by decide) (by (first | lia | omega)) hm
  rw [Nat.div_add_mod] at t
  have := digs_lt hm
  unfold digs at this ⊢
  rw [← t, List.map_append, this]
theorem digs_all (m : Nat) : ∀ c ∈ digs m, 48 ≤ c ∧ c ≤ 57 := fun c hc => by
  obtain ⟨ch, hch, rfl⟩ := List.mem_map.mp hc
  exact digit_range (Nat.isDigit_of_mem_toDigits (by decide) (by decide) hch)
theorem digs_ne (m : Nat) : digs m ≠ [] := fun e => by
  have h := toDigits_len_ge 10 m
  rw [List.map_eq_nil_iff.mp e] at h
  exact absurd h (by decide)
theorem digs_len : ∀ (k m : Nat), m < 10 ^ (k + 1) → (digs m).length ≤ k + 1
  | 0, m, h => by
    rw [digs_lt (by simpa using h)]
    exact Nat.le_refl _
  | k + 1, m, h => by
    by_cases c : m < 10
    · rw [digs_lt c]
      show 1 ≤ k + 1 + 1
      (first | lia | omega)
    · rw [digs_ge (by (first | lia | omega)), List.length_append, List.length_singleton]
      have : m / 10 < 10 ^ (k + 1) := by
        rw [Nat.div_lt_iff_lt_mul (by decide)]
        rw [Nat.pow_succ] at h
        exact h
      have := digs_len k (m / 10) this
      (first | lia | omega)
def numT (n : Int) : Str := Str.ofString (toString n)
theorem numT_nat (m : Nat) : (numT (m : Int)).cps.toList = digs m := PySem.W.KIN.signs_num m
theorem numT_neg (m : Nat) : (numT (-((m + 1 : Nat) : Int))).cps.toList = 45 :: digs (m + 1) := by
  have e : numT (-((m + 1 : Nat) : Int)) = Str.ofString ("-" ++ toString (m + 1)) := rfl
  rw [e, signs_ofString, String.toList_append, List.map_append]
  have h : (toString (m + 1)).toList.map Char.toNat = digs (m + 1) := by
    have := numT_nat (m + 1)
    unfold numT at this
    rw [signs_ofString] at this
    exact this
  rw [h]
  rfl
theorem num_cases (n : Int) : (∃ m : Nat, n = (m : Int)) ∨ ∃ m : Nat, n = -((m + 1 : Nat) : Int) := by
  cases n with
  | ofNat m => exact .inl ⟨m, rfl⟩
  | negSucc m => exact .inr ⟨m, rfl⟩
def KeyW (n : Int) : Prop := -(10 ^ 60) < n ∧ n < 10 ^ 60
theorem numT_len {n : Int} (h : KeyW n) : (numT n).length ≤ 61 := by
  have e : (numT n).length = (numT n).cps.toList.length := by simp [Str.length]
  rw [e]
  have hk : ∀ m : Nat, m < 10 ^ 60 → (digs m).length ≤ 60 := fun m hm => digs_len 59 m hm
  unfold KeyW at h
  rcases num_cases n with ⟨m, rfl⟩ | ⟨m, rfl⟩
  · rw [numT_nat]
    have := hk m (by
      have h2 := h.2
      exact_mod_cast h2)
    (first | lia | omega)
  · rw [numT_neg, List.length_cons]
    have := hk (m + 1) (by
      have h1 := h.1
      have h3 : ((m + 1 : Nat) : Int) < ((10 ^ 60 : Nat) : Int) := by
        rw [Int.natCast_pow]
        exact Int.neg_lt_neg_iff.mp h1
      exact Int.ofNat_lt.mp h3)
    (first | lia | omega)
theorem numT_in {n : Int} : ∀ c ∈ (numT n).cps.toList, c = 45 ∨ (48 ≤ c ∧ c ≤ 57) := fun c hc => by
  rcases num_cases n with ⟨m, rfl⟩ | ⟨m, rfl⟩
  · rw [numT_nat] at hc
    exact .inr (digs_all m c hc)
  · rw [numT_neg] at hc
    rcases List.mem_cons.mp hc with rfl | hc
    · exact .inl rfl
    · exact .inr (digs_all _ c hc)
theorem numT_free {n : Int} {c : Nat} (h : c < 45) : Free c (numT n) := fun z => by
  have := numT_in c z
  (first | lia | omega)
theorem numT_reads {n : Int} (h : KeyW n) : PySem.intText? (numT n) = some n := by
  have hl := numT_len h
  rcases num_cases n with ⟨m, rfl⟩ | ⟨m, rfl⟩
  · have e := PySem.intText_digits (x := numT (m : Int)) (by rw [numT_nat]; exact digs_all m) (by rw [numT_nat]; exact digs_ne m) (by (first | lia | omega))
    rw [numT_nat] at e
    unfold digs at e
    rw [PySem.W.KIN.val_back] at e
    exact e
  · have e := PySem.intText_neg (x := numT (-((m + 1 : Nat) : Int))) (numT_neg m) (digs_all _) (digs_ne _) (by (first | lia | omega))
    unfold digs at e
    rw [PySem.W.KIN.val_back] at e
    exact e
theorem joinOk {sep : Str} {ys : List Str} {B : Nat} (hB : ∀ y ∈ ys, y.length ≤ B) (h : ys.length * B + ys.length * sep.length ≤ 16777216) : JoinOk sep ys = true := by
  unfold JoinOk
  rw [StrLaws.joinFits hB h]
  rfl
def headT : Option Nat → Str
  | none => "root"
  | some p => Str.empty ++ "under " ++ numT (p : Int)
def lineT (o : Option Nat) (row : List Int) : Str := Txt.join " " (headT o :: row.map numT)
def optV : Option Nat → V
  | none => .non
  | some p => nV p
theorem key_log {n : Int} (h : KeyW n) : n.natAbs.log2 < 1920 := by
  unfold KeyW at h
  have h1 : n.natAbs < 10 ^ 60 := by
    have e : ((n.natAbs : Nat) : Int) < ((10 ^ 60 : Nat) : Int) := by
      rw [Int.natCast_pow]
      have := h.1
      have := h.2
      show ((n.natAbs : Nat) : Int) < 10 ^ 60
      (first | lia | omega)
    exact Int.ofNat_lt.mp e
  by_cases c : n.natAbs = 0
  · rw [c]
    decide
  · exact Nat.lt_of_lt_of_le ((Nat.log2_lt c).mpr (Nat.lt_trans h1 (show 10 ^ 60 < 2 ^ 200 by decide))) (by decide)
theorem nat_key {p : Nat} (h : p < 64) : KeyW (p : Int) := by
  unfold KeyW
  have : (64 : Int) < 10 ^ 60 := by decide
  (first | lia | omega)
theorem headT_len {o : Option Nat} (h : ∀ p, o = some p → p < 64) : (headT o).length ≤ 70 := by
  cases o with
  | none => decide
  | some p =>
    have := numT_len (nat_key (h p rfl))
    show (Str.empty ++ "under " ++ numT (p : Int)).length ≤ 70
    rw [Str.length_append, Str.length_append]
    have e1 : (Str.empty : Str).length = 0 := rfl
    have e2 : ("under " : Str).length = 6 := by decide
    (first | lia | omega)
def spLine (K : PySem.W.Frag) : Sp := fun vs H Q _ => ∃ (o : Option Nat) (r : Addr) (row : List Int), vs = [optV o, .ref r] ∧ H r = some (.tup (row.map V.int)) ∧ (∀ p, o = some p → p < 64) ∧ row.length ≤ 900 ∧ (∀ x ∈ row, KeyW x) ∧ ∀ H', Same H H' → Q (.str (lineT o row)) H'
theorem ok_line (T : Txt K mg) (D_line_of : DF K mg "line_of" s_line_of ps_line_of) : FC P w K mg base 1 "line_of" ps_line_of (spLine K) := by
  refine D_line_of.ok sc_line_of (fun vs H Q E h => ?_) (fun f cdv A outer s H vs Q E hr h => ?_)
  · obtain ⟨o, r, row, rfl, _⟩ := h
    rfl
  obtain ⟨o, r, row, rfl, hr0, ho, hz, hk, q⟩ := h
  refine ⟨_, (pss_cons (ps_set (i := 2) sc_line_of.nd rfl (Or.inl rfl) (pe_ifExp (pt_cmpR op_isN (pv 0) pe_non (nomark _)) pe_str (pe_fstr2 (pv 0) (by decide +kernel))))
      (pss_one (ps_ret (pe_bm F.plainAttrs_str F.slot_str_join F.type_str_join mt_join pe_str (pa_cons (pe_op op_cat (pe_lst (pa_cons (pv 2) pa_nil)) (pe_comp (N := ["key"]) (own := 1) (cap := []) rfl (pi_tup (pv 1)) ⟨rfl, rfl, rfl, rfl, rfl, rfl⟩ (fun _ _ _ _ _ => (pg_name (i := 0) (show List.Nodup (["key"] : List Str) by decide +kernel) rfl (Or.inl rfl))) (fun _ _ _ _ _ => pts_nil) (fun _ _ _ _ _ => (pe_callTy call_strN rfl T.m_str boot_str (pa_cons (pv 0) pa_nil))))) pa_nil))))), ?_⟩
  have hhl := headT_len ho
  have rest : ∀ (H1 : Hp), H1 = H → ∀ (R : V → Hp → Prop), (∀ H', Same H H' → R (.str (lineT o row)) H') → tBM K "str" (rJoin K) (tC (V.str " ")) (tCons (tOp rCat (tLst (tCons (tVar 2) tNil)) (tComp 1 [] (iTup K (tVar 1)) (gName 0) tYes (tCB (fun xs H Q => ∃ i : Int, xs = [V.int i] ∧ i.natAbs.log2 < 1920 ∧ Q (V.str (Str.ofString (toString i))) H) (tCons (tVar 0) tNil)))) tNil) [some (optV o), some (.ref r), some (.str (headT o))] H1 R := by
    rintro H1 rfl R hR
    refine ⟨rfl, ?_⟩
    refine ⟨_, rfl, (by show 1 ≤ sizeLine; decide), fun l hl => ?_⟩
    have g2 := same_new hl (.lst [V.str (headT o)])
    have w2 : upd H1 l (.lst [V.str (headT o)]) l = some (.lst [V.str (headT o)]) := upd_same
    generalize upd H1 l (.lst [V.str (headT o)]) = H2 at g2 w2 ⊢
    have hr2 := g2 _ _ hr0
    refine ⟨_, rfl, r, rfl, ⟨_, SqT.of hr2⟩, fun D hD => ?_⟩
    refine comp_tup (xs := row.map V.int) (fun i σ H3 => ∃ x0 : Option V, σ = [x0] ∧ H3 D = some (.lst (((row.take i).map numT).map V.str)) ∧ But D H2 H3) ?_ ?_ ?_ ?_
    · exact ⟨_, rfl, upd_same, fun b o n e => by rw [upd_ne n]; exact e⟩
    · rintro i σ H3 _ ⟨x0, rfl, _, k3⟩
      exact SqT.of (k3 _ _ (ne_of_none hr2 hD) hr2)
    · rintro i m x σ H3 hx hm ⟨x0, rfl, h3, k3⟩
      rw [List.getElem?_map] at hx
      obtain ⟨y, hy, rfl⟩ := Option.map_eq_some_iff.mp hx
      have hi := (List.getElem?_eq_some_iff.mp hy).1
      rw [List.length_map] at hm
      refine iteYes ?_
      refine ⟨_, rfl, _, rfl, key_log (hk y (List.mem_of_getElem? hy)), ?_⟩
      refine ⟨_, h3, small1000 (by rw [List.length_map, List.length_map, List.length_take]; (first | lia | omega)), m - 1, by (first | lia | omega), by rw [List.length_map]; (first | lia | omega), _, rfl, ?_, fun b o n e => by rw [upd_ne n]; exact k3 b o n e⟩
      rw [upd_same, List.take_succ_eq_append_getElem hi, (List.getElem?_eq_some_iff.mp hy).2, List.map_append, List.map_append]
      rfl
    rintro σ H3 ⟨x0, rfl, h3, k3⟩
    rw [List.length_map, List.take_of_length_le (Nat.le_refl _)] at h3
    have s23 : Same H2 H3 := fun b o e => k3 b o (ne_of_none e hD) e
    refine ⟨l, D, _, _, rfl, rfl, s23 _ _ w2, h3, Nat.le_of_lt (small1000 (by rw [List.length_map, List.length_map]; show 1 + row.length ≤ 1000; (first | lia | omega))), fun c hc => ?_⟩
    have g4 := same_new hc (.lst ([V.str (headT o)] ++ (row.map numT).map V.str))
    refine ⟨" ", c, headT o :: row.map numT, rfl, rfl, SqL.of upd_same, joinOk (B := 70) (fun y hy => ?_) ?_, hR _ (g2.trans (s23.trans g4))⟩
    · rcases List.mem_cons.mp hy with rfl | hy
      · exact hhl
      · obtain ⟨n, hn, rfl⟩ := List.mem_map.mp hy
        have := numT_len (hk n hn)
        (first | lia | omega)
    · rw [List.length_cons, List.length_map]
      have e : (" " : Str).length = 1 := by decide
      rw [e]
      (first | lia | omega)
  cases o with
  | none =>
    refine ⟨_, rfl, rfl, _, rfl, ?_⟩
    refine iteT ?_
    exact rest H rfl Q q
  | some p =>
    refine ⟨_, rfl, rfl, _, rfl, ?_⟩
    refine iteDF (fun z => nomatch z) ?_
    have hp := nat_key (ho p rfl)
    refine ⟨_, rfl, (p : Int), rfl, key_log hp, Nat.le_trans (numT_len hp) (by decide), ?_⟩
    exact rest H rfl Q q
theorem tYes_ok {σ : L2.St} {H : Hp} {Q : Bool → Hp → Prop} (h : Q true H) : tYes σ H Q := h
theorem iteNX {c A B : Prop} [Decidable c] (hc : ¬ c) (h : A) : if (!decide c) = true then A else B := by
  rw [decide_eq_false hc]
  exact iteT h
def linesT (ps : List Nat) (rows : List (List Int)) (n : Nat) : List Str := (List.range n).map fun k => lineT (par ps k) (rowAt rows k)
def textT (ps : List Nat) (rows : List (List Int)) : Str := Txt.join "\n" (linesT ps rows (ps.length + 1))
theorem linesT_succ (ps : List Nat) (rows : List (List Int)) (n : Nat) : linesT ps rows (n + 1) = linesT ps rows n ++ [lineT (par ps n) (rowAt rows n)] := by
  unfold linesT
  rw [List.range_succ, List.map_append]
  rfl
theorem linesT_len (ps : List Nat) (rows : List (List Int)) (n : Nat) : (linesT ps rows n).length = n := by
  unfold linesT
  rw [List.length_map, List.length_range]
structure TextAt (H : Hp) (t rs : Addr) (ps : List Nat) (rows : List (List Int)) (as : List Addr) : Prop where
  tr : H t = some (.tup (treeV ps))
  rs : H rs = some (.tup (as.map V.ref))
  at_ : RowsAt H as rows
  len : rows.length = ps.length + 1
  T : TreeOk ps
  R : RowsOk rows
  few : ps.length ≤ 40
  short : ∀ r ∈ rows, r.length ≤ 40
theorem TextAt.same {H H' : Hp} {t rs : Addr} {ps : List Nat} {rows : List (List Int)} {as : List Addr} (h : TextAt H t rs ps rows as) (e : Same H H') : TextAt H' t rs ps rows as :=
  ⟨e _ _ h.tr, e _ _ h.rs, h.at_.ext e, h.len, h.T, h.R, h.few, h.short⟩
theorem join_len_le {sep : Str} {B : Nat} {ys : List Str} (hB : ∀ y ∈ ys, y.length ≤ B) : (Txt.join sep ys).length ≤ ys.length * B + ys.length * sep.length := by
  have e : Txt.join sep ys = Str.join sep ys := StrLaws.glued_eq_join _ _
  rw [e]
  have h1 := StrLaws.join_length_le sep ys
  have h2 := StrLaws.sumLen_le ys hB
  (first | lia | omega)
theorem lineT_len {o : Option Nat} {row : List Int} (ho : ∀ p, o = some p → p < 64) (hl : row.length ≤ 40) (hk : ∀ x ∈ row, KeyW x) : (lineT o row).length ≤ 3000 := by
  unfold lineT
  have := join_len_le (sep := " ") (B := 70) (ys := headT o :: row.map numT) (fun y hy => by
    rcases List.mem_cons.mp hy with rfl | hy
    · exact headT_len ho
    · obtain ⟨n, hn, rfl⟩ := List.mem_map.mp hy
      have := numT_len (hk n hn)
      (first | lia | omega))
  rw [List.length_cons, List.length_map] at this
  have e : (" " : Str).length = 1 := by decide
  rw [e] at this
  (first | lia | omega)
theorem TextAt.par {H : Hp} {t rs : Addr} {ps : List Nat} {rows : List (List Int)} {as : List Addr} (h : TextAt H t rs ps rows as) {k : Nat} : ∀ p, par ps k = some p → p < 64 := fun p hp => by
  have := par_lt h.T hp
  have := h.few
  (first | lia | omega)
theorem rowAt_mem {rows : List (List Int)} {k : Nat} (h : k < rows.length) : rowAt rows k ∈ rows := by
  unfold rowAt
  rw [List.getD_eq_getElem?_getD, List.getElem?_eq_getElem h]
  exact List.getElem_mem h
theorem TextAt.row {H : Hp} {t rs : Addr} {ps : List Nat} {rows : List (List Int)} {as : List Addr} (h : TextAt H t rs ps rows as) {k : Nat} (hk : k < ps.length + 1) : (rowAt rows k).length ≤ 40 ∧ ∀ x ∈ rowAt rows k, KeyW x := by
  have hm := rowAt_mem (rows := rows) (k := k) (by rw [h.len]; exact hk)
  exact ⟨h.short _ hm, fun x hx => h.R.key _ hm x hx⟩
theorem lines_short {H : Hp} {t rs : Addr} {ps : List Nat} {rows : List (List Int)} {as : List Addr} (h : TextAt H t rs ps rows as) : ∀ y ∈ linesT ps rows (ps.length + 1), y.length ≤ 3000 := fun y hy => by
  obtain ⟨k, hk, rfl⟩ := List.mem_map.mp hy
  have := h.row (List.mem_range.mp hk)
  exact lineT_len h.par this.1 this.2
theorem lines_ok {H : Hp} {t rs : Addr} {ps : List Nat} {rows : List (List Int)} {as : List Addr} (h : TextAt H t rs ps rows as) : JoinOk "\n" (linesT ps rows (ps.length + 1)) = true := by
  refine joinOk (B := 3000) (lines_short h) ?_
  rw [linesT_len]
  have e : ("\n" : Str).length = 1 := by decide
  have := h.few
  rw [e]
  (first | lia | omega)
theorem optV_par {ps : List Nat} {k : Nat} (h : k < ps.length + 1) : (treeV ps)[k]? = some (optV (par ps k)) := by
  cases k with
  | zero => rfl
  | succ k =>
    show (ps.map nV)[k]? = _
    rw [List.getElem?_map]
    have e : par ps (k + 1) = ps[k]? := rfl
    rw [e, List.getElem?_eq_getElem (show k < ps.length by (first | lia | omega))]
    rfl
def spShow (K : PySem.W.Frag) : Sp := fun vs H Q _ => ∃ (st t rs : Addr) (ps : List Nat) (rows : List (List Int)) (as : List Addr), vs = [.ref st] ∧ H st = some (.tup [.ref t, .ref rs]) ∧ TextAt H t rs ps rows as ∧ ∀ H', Same H H' → Q (.str (textT ps rows)) H'
theorem ok_show (T : Txt K mg) (D_show_stand : DF K mg "show_stand" s_show_stand ps_show_stand) (F_line_of : FC P w K mg base 1 "line_of" ps_line_of (spLine K)) : FC P w K mg base 2 "show_stand" ps_show_stand (spShow K) := by
  refine D_show_stand.ok sc_show_stand (fun vs H Q E h => ?_) (fun f cdv A outer s H vs Q E hr h => ?_)
  · obtain ⟨st, t, rs, ps, rows, as, rfl, _⟩ := h
    rfl
  obtain ⟨st, t, rs, ps, rows, as, rfl, hst, X, q⟩ := h
  have hal := X.at_.length
  have hlen := X.len
  have hfew := X.few
  refine ⟨_, (pss_one (ps_ret (pe_bm F.plainAttrs_str F.slot_str_join F.type_str_join mt_join pe_str (pa_cons (pe_comp (N := ["parent", "row"]) (own := 2) (cap := []) rfl (pi_zipT rfl T.m_zip (pa_cons (pe_ix ix_tup (pv 0) pe_int (fun _ _ => rfl)) (pa_cons (pe_ix ix_tup (pv 0) pe_int (fun _ _ => rfl)) pa_nil))) ⟨rfl, rfl, rfl, rfl, rfl, rfl⟩ (fun _ _ _ _ _ => (pg_tupC (K := K) (n := 2) rfl (pgs_cons (pg_name (i := 0) (show List.Nodup (["parent", "row"] : List Str) by decide +kernel) rfl (Or.inl rfl)) (pgs_cons (pg_name (i := 1) (show List.Nodup (["parent", "row"] : List Str) by decide +kernel) rfl (Or.inl rfl)) pgs_nil)))) (fun _ _ _ _ _ => pts_nil) (fun _ _ _ _ _ => (pe_fc F_line_of hr (pa_cons (pv 0) (pa_cons (pv 1) pa_nil))))) pa_nil)))), ?_⟩
  refine ⟨rfl, ?_⟩
  refine ⟨_, rfl, _, _, _, _, rfl, rfl, SqT.of hst, rfl, _, rfl, _, _, _, _, rfl, rfl, SqT.of hst, rfl, t, rs, rfl, ⟨_, SqT.of X.tr⟩, ⟨_, SqT.of X.rs⟩, fun D hD => ?_⟩
  refine comp_zipT (xs := treeV ps) (ys := as.map V.ref) (by rw [treeV_length, List.length_map]; (first | lia | omega)) (fun i σ H2 => ∃ x0 x1 : Option V, σ = [x0, x1] ∧ H2 D = some (.lst ((linesT ps rows i).map V.str)) ∧ But D H H2) ?_ ?_ ?_ ?_
  · exact ⟨_, _, rfl, upd_same, fun b o n e => by rw [upd_ne n]; exact e⟩
  · rintro i σ H2 _ ⟨x0, x1, rfl, _, k2⟩
    exact ⟨SqT.of (k2 _ _ (ne_of_none X.tr hD) X.tr), SqT.of (k2 _ _ (ne_of_none X.rs hD) X.rs)⟩
  · rintro i m x y σ H2 r hx hy hm ⟨x0, x1, rfl, h2, k2⟩ hr0
    have hi : i < ps.length + 1 := by
      have := (List.getElem?_eq_some_iff.mp hx).1
      rw [treeV_length] at this
      exact this
    rw [optV_par hi] at hx
    cases hx
    obtain ⟨b, hb1, hb2⟩ := X.at_.get (k := i) (by (first | lia | omega))
    rw [List.getElem?_map, hb1] at hy
    cases hy
    have gr := same_new hr0 (.tup [optV (par ps i), V.ref b])
    have wr : upd H2 r (.tup [optV (par ps i), V.ref b]) r = some (.tup [optV (par ps i), V.ref b]) := upd_same
    generalize upd H2 r (.tup [optV (par ps i), V.ref b]) = H3 at gr wr ⊢
    have s03 : Same H H3 := fun b o e => gr _ _ (k2 b o (ne_of_none e hD) e)
    have hrow := X.row hi
    refine ⟨r, _, rfl, SqT.of wr, rfl, _, _, rfl, _, _, rfl, rfl, ?_⟩
    refine tYes_ok (iteT ?_)
    refine ⟨_, rfl, _, rfl, par ps i, b, rowAt rows i, rfl, s03 _ _ hb2, X.par, by (first | lia | omega), hrow.2, fun H4 s34 => ?_⟩
    rw [treeV_length] at hm
    refine ⟨_, s34 _ _ (gr _ _ h2), small1000 (by rw [List.length_map, linesT_len]; (first | lia | omega)), m - 1, by (first | lia | omega), by rw [treeV_length]; (first | lia | omega), _, _, rfl, ?_, fun b o n e => by rw [upd_ne n]; exact s34 _ _ (gr _ _ (k2 b o n e))⟩
    rw [upd_same, linesT_succ, List.map_append]
    rfl
  rintro σ H2 ⟨x0, x1, rfl, h2, k2⟩
  rw [treeV_length] at h2
  refine ⟨"\n", D, _, rfl, rfl, SqL.of h2, lines_ok X, ?_⟩
  exact q H2 fun b o e => k2 b o (ne_of_none e hD) e
def spNumIn (K : PySem.W.Frag) : Sp := fun vs H Q _ => ∃ n : Int, vs = [.str (numT n)] ∧ KeyW n ∧ Q (.int n) H
theorem ok_numIn (T : Txt K mg) (D_number_in : DF K mg "number_in" s_number_in ps_number_in) : FC P w K mg base 1 "number_in" ps_number_in (spNumIn K) := by
  refine D_number_in.ok sc_number_in (fun vs H Q E h => ?_) (fun f cdv A outer s H vs Q E hr h => ?_)
  · obtain ⟨n, rfl, _⟩ := h
    rfl
  obtain ⟨n, rfl, hk, q⟩ := h
  have hl := numT_len hk
  refine ⟨_, (pss_cons (ps_tryN (j := 1) (pe_callTy call_intS rfl T.m_int boot_int (pa_cons (pv 0) pa_nil)) (fun _ _ h => h) rfl rfl sc_number_in.nd)
      (pss_one (ps_ret (pe_ifExp (pt_cmpR op_eq (pe_callTy call_strN rfl T.m_str boot_str (pa_cons (pv 1) pa_nil)) (pv 0) (nomark _)) (pv 1) pe_non)))), ?_⟩
  refine ⟨_, rfl, numT n, n, rfl, numT_reads hk, by (first | lia | omega), ?_⟩
  refine ⟨_, rfl, n, rfl, key_log hk, ?_⟩
  refine ⟨_, rfl, rfl, _, rfl, ?_⟩
  refine iteDT rfl ?_
  exact ⟨_, rfl, q⟩
def headWs : Option Nat → List Str
  | none => ["root"]
  | some p => ["under", numT (p : Int)]
def spHead (K : PySem.W.Frag) : Sp := fun vs H Q _ => ∃ (ps : List Nat) (k : Nat) (a : Addr), vs = [.int k, .ref a] ∧ TreeOk ps ∧ ps.length ≤ 40 ∧ k < ps.length + 1 ∧ H a = some (.lst ((headWs (par ps k)).map V.str)) ∧ ∀ H', Same H H' → Q (.bl true) H'
theorem ok_head (T : Txt K mg) (D_is_head : DF K mg "is_head" s_is_head ps_is_head) (F_is_one_of_first : FC P w K mg base 2 "is_one_of_first" ps_is_one_of_first (spFirst K)) (F_number_in : FC P w K mg base 1 "number_in" ps_number_in (spNumIn K)) : FC P w K mg base 3 "is_head" ps_is_head (spHead K) := by
  refine D_is_head.ok sc_is_head (fun vs H Q E h => ?_) (fun f cdv A outer s H vs Q E hr h => ?_)
  · obtain ⟨ps, k, a, rfl, _⟩ := h
    rfl
  obtain ⟨ps, k, a, rfl, hT, hz, hk, ha, q⟩ := h
  refine ⟨_, (pss_join (ps_if (pt_cmpR op_eq (pv 0) pe_int (nomark _)) (pss_one (ps_ret (pe_cmpR (op_eqD (List Str) (huD hr)) (pv 1) (pe_lst (pa_cons pe_str pa_nil)) (nomark _)))) pss_nil)
      (pss_one (ps_ret (pe_and (pe_cmpR op_eq (pe_callB call_len_seq rfl T.m_len boot_len (pa_cons (pv 1) pa_nil)) pe_int (nomark _)) (pe_and (pe_cmpR op_eq (pe_ix ix_list (pv 1) pe_int (fun _ _ => rfl)) pe_str (nomark _)) (pe_one (pe_fc F_is_one_of_first hr (pa_cons (pv 0) (pa_cons (pe_fc F_number_in hr (pa_cons (pe_ix ix_list (pv 1) pe_int (fun _ _ => rfl)) pa_nil)) pa_nil))))))))), ?_⟩
  cases hp : par ps k with
  | none =>
    have h0 := par_none hk hp
    subst h0
    rw [hp] at ha
    refine ⟨fun _ _ => False, ?_, fun _ _ z => z.elim⟩
    refine ⟨_, rfl, rfl, _, rfl, ?_⟩
    refine iteDT rfl ?_
    refine ⟨_, rfl, (by show 1 ≤ sizeLine; decide), fun l hl => ?_⟩
    have gl := same_new hl (.lst [V.str "root"])
    refine ⟨(["root"] : List Str), (["root"] : List Str), ⟨_, _, rfl, SqL.of (gl _ _ ha), HasAll.strs⟩, ⟨_, _, rfl, SqL.of upd_same, HasAll.strs⟩, ?_⟩
    rw [decide_eq_true rfl]
    exact q _ gl
  | some p =>
    have hpl := par_lt hT hp
    rw [hp] at ha
    refine ⟨fun σ' H' => σ' = [some (.int k), some (.ref a)] ∧ H = H', ?_, ?_⟩
    · refine ⟨_, rfl, rfl, _, rfl, ?_⟩
      refine iteDF (fun z => ?_) ?_
      · have := V.int.inj z
        (first | lia | omega)
      exact ⟨rfl, rfl⟩
    rintro σ' H' ⟨rfl, rfl⟩
    refine ⟨_, rfl, _, _, rfl, .inl (SqL.of ha), rfl, _, rfl, ?_⟩
    refine iteDT rfl ?_
    refine ⟨_, rfl, _, _, _, _, rfl, rfl, SqL.of ha, rfl, rfl, _, rfl, ?_⟩
    refine iteDT rfl ?_
    exact ⟨_, rfl, _, rfl, _, _, _, _, rfl, rfl, SqL.of ha, rfl, (p : Int), rfl, nat_key (by (first | lia | omega)), (k : Int), (p : Int), rfl, by (first | lia | omega), by (first | lia | omega), q H fun _ _ e => e⟩
theorem keyW_is {K : PySem.W.Frag} {H : Hp} {k : Int} (h : KeyW k) : KeyIs K H (.int k) true := .int k _ (decide_eq_true (by
  unfold KeyW at h
  split <;> (first | lia | omega))).symm
def spRises (K : PySem.W.Frag) : Sp := fun vs H Q _ => ∃ (a : Addr) (row : List Int), vs = [.ref a] ∧ H a = some (.lst (row.map V.int)) ∧ row.length ≤ 900 ∧ row.Pairwise (· < ·) ∧ (∀ x ∈ row, KeyW x) ∧ ∀ H', Same H H' → Q (.bl true) H'
theorem all_rep (n : Nat) : (List.replicate n true).all id = true := List.all_eq_true.mpr fun b hb => by rw [(List.mem_replicate.mp hb).2]; rfl
theorem ok_rises (T : Txt K mg) (D_rises : DF K mg "rises" s_rises ps_rises) (F_is_key : FC P w K mg base 2 "is_key" ps_is_key (spIsKey K)) : FC P w K mg base 3 "rises" ps_rises (spRises K) := by
  refine D_rises.ok sc_rises (fun vs H Q E h => ?_) (fun f cdv A outer s H vs Q E hr h => ?_)
  · obtain ⟨a, row, rfl, _⟩ := h
    rfl
  obtain ⟨a, row, rfl, ha, hz, hup, hk, q⟩ := h
  refine ⟨_, (pss_join (ps_if (pt_not (pt_val (pe_callB (call_allB rfl) rfl T.m_all boot_all (pa_cons (pe_comp (N := ["thing"]) (own := 1) (cap := []) rfl (pi_list (pv 0)) ⟨rfl, rfl, rfl, rfl, rfl, rfl⟩ (fun _ _ _ _ _ => (pg_name (i := 0) (show List.Nodup (["thing"] : List Str) by decide +kernel) rfl (Or.inl rfl))) (fun _ _ _ _ _ => pts_nil) (fun _ _ _ _ _ => (pe_fc F_is_key hr (pa_cons (pv 0) pa_nil)))) pa_nil)))) (pss_one (ps_ret pe_bl)) pss_nil)
      (pss_one (ps_ret (pe_callB (call_allB rfl) rfl T.m_all boot_all (pa_cons (pe_comp (N := ["one", "other"]) (own := 2) (cap := []) rfl (pi_zip rfl T.m_zip (pa_cons (pv 0) (pa_cons (pe_slice sl_list (pv 0) (po_some pe_int) po_none) pa_nil))) ⟨rfl, rfl, rfl, rfl, rfl, rfl⟩ (fun _ _ _ _ _ => (pg_tupC (K := K) (n := 2) rfl (pgs_cons (pg_name (i := 0) (show List.Nodup (["one", "other"] : List Str) by decide +kernel) rfl (Or.inl rfl)) (pgs_cons (pg_name (i := 1) (show List.Nodup (["one", "other"] : List Str) by decide +kernel) rfl (Or.inl rfl)) pgs_nil)))) (fun _ _ _ _ _ => pts_nil) (fun _ _ _ _ _ => (pe_cmpR op_lt (pv 0) (pv 1) (nomark _)))) pa_nil))))), ?_⟩
  refine ⟨fun σ' H' => σ' = [some (.ref a)] ∧ Same H H', ?_, ?_⟩
  · refine ⟨_, rfl, a, rfl, ⟨_, SqL.of ha⟩, fun D hD => ?_⟩
    refine comp_list (xs := row.map V.int) (fun i σ H2 => ∃ x0 : Option V, σ = [x0] ∧ H2 D = some (.lst ((List.replicate i true).map V.bl)) ∧ But D H H2) ?_ ?_ ?_ ?_
    · exact ⟨_, rfl, upd_same, fun b o n e => by rw [upd_ne n]; exact e⟩
    · rintro i σ H2 _ ⟨x0, rfl, _, k2⟩
      exact SqL.of (k2 _ _ (ne_of_none ha hD) ha)
    · rintro i m x σ H2 hx hm ⟨x0, rfl, h2, k2⟩
      rw [List.getElem?_map] at hx
      obtain ⟨y, hy, rfl⟩ := Option.map_eq_some_iff.mp hx
      have hi := (List.getElem?_eq_some_iff.mp hy).1
      rw [List.length_map] at hm
      refine iteYes ?_
      refine ⟨_, rfl, _, _, rfl, keyW_is (hk y (List.mem_of_getElem? hy)), ?_⟩
      refine ⟨_, h2, small1000 (by rw [List.length_map, List.length_replicate]; (first | lia | omega)), m - 1, by (first | lia | omega), by rw [List.length_map]; (first | lia | omega), _, rfl, ?_, fun b o n e => by rw [upd_ne n]; exact k2 b o n e⟩
      rw [upd_same, List.replicate_succ', List.map_append]
      rfl
    rintro σ H2 ⟨x0, rfl, h2, k2⟩
    refine ⟨D, _, rfl, SqL.of h2, _, rfl, ?_⟩
    rw [all_rep]
    refine iteF ?_
    exact ⟨rfl, fun b o e => k2 b o (ne_of_none e hD) e⟩
  rintro σ' H1 ⟨rfl, s1⟩
  have ha1 := s1 _ _ ha
  refine ⟨_, rfl, _, rfl, 1, rfl, a, _, rfl, SqL.of ha1, fun p hp => ?_⟩
  rw [show (1 : Int) = ((1 : Nat) : Int) from rfl, cutV_from, ← List.map_drop]
  have g2 := same_new hp (.lst ((row.drop 1).map V.int))
  have w2 : upd H1 p (.lst ((row.drop 1).map V.int)) p = some (.lst ((row.drop 1).map V.int)) := upd_same
  generalize upd H1 p (.lst ((row.drop 1).map V.int)) = H2 at g2 w2 ⊢
  have ha2 := g2 _ _ ha1
  refine ⟨a, p, rfl, ⟨_, SqL.of ha2⟩, ⟨_, SqL.of w2⟩, fun D hD => ?_⟩
  have hdl : ((row.drop 1).map V.int).length = row.length - 1 := by rw [List.length_map, List.length_drop]
  refine comp_zipS (xs := row.map V.int) (ys := (row.drop 1).map V.int) (by rw [hdl, List.length_map]; (first | lia | omega)) (fun i σ H3 => ∃ x0 x1 : Option V, σ = [x0, x1] ∧ H3 D = some (.lst ((List.replicate i true).map V.bl)) ∧ But D H2 H3) ?_ ?_ ?_ ?_
  · exact ⟨_, _, rfl, upd_same, fun b o n e => by rw [upd_ne n]; exact e⟩
  · rintro i σ H3 _ ⟨x0, x1, rfl, _, k3⟩
    exact ⟨SqL.of (k3 _ _ (ne_of_none ha2 hD) ha2), SqL.of (k3 _ _ (ne_of_none w2 hD) w2)⟩
  · rintro i m x y σ H3 r hx hy hm ⟨x0, x1, rfl, h3, k3⟩ hr0
    rw [List.getElem?_map] at hx hy
    obtain ⟨u, hu, rfl⟩ := Option.map_eq_some_iff.mp hx
    obtain ⟨v, hv, rfl⟩ := Option.map_eq_some_iff.mp hy
    rw [List.getElem?_drop] at hv
    obtain ⟨hu1, rfl⟩ := List.getElem?_eq_some_iff.mp hu
    obtain ⟨hv1, rfl⟩ := List.getElem?_eq_some_iff.mp hv
    have hlt : row[i] < row[1 + i] := List.pairwise_iff_getElem.mp hup i (1 + i) hu1 hv1 (by (first | lia | omega))
    rw [hdl] at hm
    have gr := same_new hr0 (.tup [V.int row[i], V.int row[1 + i]])
    have wr : upd H3 r (.tup [V.int row[i], V.int row[1 + i]]) r = some (.tup [V.int row[i], V.int row[1 + i]]) := upd_same
    generalize upd H3 r (.tup [V.int row[i], V.int row[1 + i]]) = H4 at gr wr ⊢
    refine ⟨r, _, rfl, SqT.of wr, rfl, _, _, rfl, _, _, rfl, rfl, ?_⟩
    refine tYes_ok (iteT ?_)
    refine ⟨_, rfl, _, rfl, _, _, rfl, rfl, ?_⟩
    refine ⟨_, gr _ _ h3, small1000 (by rw [List.length_map, List.length_replicate]; (first | lia | omega)), m - 1, by (first | lia | omega), by rw [hdl]; (first | lia | omega), _, _, rfl, ?_, fun b o n e => by rw [upd_ne n]; exact gr _ _ (k3 b o n e)⟩
    rw [upd_same, List.replicate_succ', List.map_append]
    show some (HO.lst (_ ++ [V.bl (decide (row[i] < row[1 + i]))])) = _
    rw [decide_eq_true hlt]
    rfl
  rintro σ H3 ⟨x0, x1, rfl, h3, k3⟩
  refine ⟨D, _, rfl, SqL.of h3, ?_⟩
  rw [all_rep]
  exact q H3 (s1.trans (g2.trans fun b o e => k3 b o (ne_of_none e hD) e))
theorem line_words {H : Hp} {t rs : Addr} {ps : List Nat} {rows : List (List Int)} {as : List Addr} (X : TextAt H t rs ps rows as) {k : Nat} (hk : k < ps.length + 1) : Txt.split (lineT (par ps k) (rowAt rows k)) " " = headWs (par ps k) ++ (rowAt rows k).map numT := by
  have e : lineT (par ps k) (rowAt rows k) = Txt.join " " (headWs (par ps k) ++ (rowAt rows k).map numT) := by
    unfold lineT
    cases par ps k with
    | none => rfl
    | some p =>
      have e1 : ∀ l, Txt.join " " l = Str.join " " l := fun l => StrLaws.glued_eq_join " " l
      rw [e1, e1]
      cases (rowAt rows k).map numT with
      | nil =>
        show Str.empty ++ "under " ++ numT (p : Int) = ("under" : Str) ++ " " ++ numT (p : Int)
        rw [Str.empty_append]
        rfl
      | cons y ys =>
        show Str.empty ++ "under " ++ numT (p : Int) ++ " " ++ Str.join " " (y :: ys) = ("under" : Str) ++ " " ++ (numT (p : Int) ++ " " ++ Str.join " " (y :: ys))
        rw [Str.empty_append, show ("under " : Str) = "under" ++ " " from rfl]
        simp only [Str.append_assoc]
  rw [e]
  refine split_join 32 ?_ fun p hp => ?_
  · cases par ps k with
    | none => exact List.cons_ne_nil _ _
    | some p => exact List.cons_ne_nil _ _
  · rcases List.mem_append.mp hp with h | h
    · cases hpk : par ps k with
      | none =>
        rw [hpk] at h
        rw [List.mem_singleton.mp h]
        unfold Free
        decide
      | some q =>
        rw [hpk] at h
        rcases List.mem_cons.mp h with rfl | h
        · unfold Free
          decide
        · rw [List.mem_singleton.mp h]
          exact numT_free (by decide)
    · obtain ⟨n, _, rfl⟩ := List.mem_map.mp h
      exact numT_free (by decide)
theorem free_join {c d : Nat} (h : c ≠ d) : ∀ {ws : List Str}, (∀ w ∈ ws, Free c w) → Free c (Txt.join ⟨#[d]⟩ ws) := by
  intro ws hw
  have e : Txt.join ⟨#[d]⟩ ws = Str.join ⟨#[d]⟩ ws := StrLaws.glued_eq_join _ _
  rw [e]
  clear e
  induction ws with
  | nil => exact fun z => nomatch z
  | cons x ws ih =>
    cases ws with
    | nil => exact hw x List.mem_cons_self
    | cons y ws =>
      unfold Free
      rw [join_two]
      intro z
      rcases List.mem_append.mp z with z | z
      · exact hw x List.mem_cons_self z
      · rcases List.mem_cons.mp z with z | z
        · exact h z
        · exact ih (fun w hw' => hw w (List.mem_cons_of_mem _ hw')) z
theorem head_free {o : Option Nat} {c : Nat} (h : c < 32) : Free c (headT o) := by
  cases o with
  | none =>
    intro z
    have : ∀ x ∈ ("root" : Str).cps.toList, 32 ≤ x := by decide
    have := this c z
    (first | lia | omega)
  | some p =>
    intro z
    have e : (headT (some p)).cps.toList = ("under " : Str).cps.toList ++ (numT (p : Int)).cps.toList := by
      show (Str.empty ++ "under " ++ numT (p : Int)).cps.toList = _
      rw [Str.empty_append, Str.cps_append, Array.toList_append]
    rw [e] at z
    rcases List.mem_append.mp z with z | z
    · have : ∀ x ∈ ("under " : Str).cps.toList, 32 ≤ x := by decide
      have := this c z
      (first | lia | omega)
    · exact numT_free (by (first | lia | omega)) z
theorem text_lines {H : Hp} {t rs : Addr} {ps : List Nat} {rows : List (List Int)} {as : List Addr} (X : TextAt H t rs ps rows as) : Txt.split (textT ps rows) "\n" = linesT ps rows (ps.length + 1) := by
  unfold textT
  refine split_join 10 (fun z => ?_) fun p hp => ?_
  · have := linesT_len ps rows (ps.length + 1)
    rw [z] at this
    cases this
  · obtain ⟨k, _, rfl⟩ := List.mem_map.mp hp
    refine free_join (d := 32) (by decide) fun w hw => ?_
    rcases List.mem_cons.mp hw with rfl | hw
    · exact head_free (by decide)
    · obtain ⟨n, _, rfl⟩ := List.mem_map.mp hw
      exact numT_free (by decide)
theorem tif_const {t : TT} {v1 v2 : V} {σ : L2.St} {H : Hp} {Q : V → Hp → Prop} (h : t σ H fun c H1 => Q (if c = true then v1 else v2) H1) : tIf t (tC v1) (tC v2) σ H Q := by
  have e : (fun (c : Bool) (H1 : Hp) => if c = true then Q v1 H1 else Q v2 H1) = fun c H1 => Q (if c = true then v1 else v2) H1 := by
    funext c H1
    cases c <;> rfl
  show t σ H (fun c H1 => if c = true then Q v1 H1 else Q v2 H1)
  rw [e]
  exact h
def RowL (pl rl : Addr) (B : Hp) (b : Addr) (row : List Int) : Prop := B b = some (.lst (row.map V.int)) ∧ b ≠ pl ∧ b ≠ rl
theorem rowsL_keep {pl rl : Addr} {B B' : Hp} (h : ∀ b o, b ≠ pl → b ≠ rl → B b = some o → B' b = some o) : ∀ {bs : List Addr} {rows : List (List Int)}, Paired (RowL pl rl B) bs rows → Paired (RowL pl rl B') bs rows
  | _, _, .nil => .nil
  | _, _, .cons e t => .cons ⟨h _ _ e.2.1 e.2.2 e.1, e.2⟩ (rowsL_keep h t)
theorem rowsL_snoc {pl rl : Addr} {B : Hp} {b : Addr} {row : List Int} (h : RowL pl rl B b row) : ∀ {bs : List Addr} {rows : List (List Int)}, Paired (RowL pl rl B) bs rows → Paired (RowL pl rl B) (bs ++ [b]) (rows ++ [row])
  | _, _, .nil => .cons h .nil
  | _, _, .cons e t => .cons e (rowsL_snoc h t)
theorem rowsL_len {pl rl : Addr} {B : Hp} : ∀ {bs : List Addr} {rows : List (List Int)}, Paired (RowL pl rl B) bs rows → Paired (LenAt B) bs (rows.map List.length)
  | _, _, .nil => .nil
  | _, _, .cons e t => .cons ⟨_, .inl e.1, List.length_map _⟩ (rowsL_len t)
theorem rowsL_giv {pl rl : Addr} {B : Hp} : ∀ {bs : List Addr} {rows : List (List Int)}, Paired (RowL pl rl B) bs rows → Paired (GivAt B) bs rows
  | _, _, .nil => .nil
  | _, _, .cons e t => .cons ⟨_, .inl e.1, List.Perm.refl _⟩ (rowsL_giv t)
theorem take_rowAt {rows : List (List Int)} {i : Nat} (h : i < rows.length) : rows.take (i + 1) = rows.take i ++ [rowAt rows i] := by
  rw [List.take_succ_eq_append_getElem h]
  unfold rowAt
  rw [List.getD_eq_getElem?_getD, List.getElem?_eq_getElem h]
  rfl
theorem keys_take {rows : List (List Int)} {i : Nat} (h : i < rows.length) : ((rows.take i).map List.length).sum + (rowAt rows i).length ≤ keysN rows := by
  unfold keysN
  conv => rhs; rw [← List.take_append_drop (i + 1) rows]
  rw [take_rowAt h, List.map_append, List.map_append, List.sum_append, List.sum_append]
  simp
def spRead (K : PySem.W.Frag) : Sp := fun vs H Q _ => ∃ (t rs : Addr) (ps : List Nat) (rows : List (List Int)) (as : List Addr), vs = [.str (textT ps rows)] ∧ TextAt H t rs ps rows as ∧ ps.length ≤ 39 ∧ keysN rows ≤ 300 ∧
  ∀ (st t' rs' : Addr) (bs : List Addr) (H' : Hp), Same H H' → StandAt H' st ps rows t' rs' bs → Q (.ref st) H'
theorem ok_read (T : Txt K mg) (D_read_stand : DF K mg "read_stand" s_read_stand ps_read_stand) (F_number_in : FC P w K mg base 1 "number_in" ps_number_in (spNumIn K)) (F_is_head : FC P w K mg base 3 "is_head" ps_is_head (spHead K)) (F_rises : FC P w K mg base 3 "rises" ps_rises (spRises K)) (F_long_together : FC P w K mg base 1 "long_together" ps_long_together (spLong K)) (F_tree_of : FC P w K mg base 3 "tree_of" ps_tree_of (spTreeOfL K)) (F_stand_of : FC P w K mg base 4 "stand_of" ps_stand_of (spStandOfQ K)) : FC P w K mg base 5 "read_stand" ps_read_stand (spRead K) := by
  refine D_read_stand.ok sc_read_stand (fun vs H Q E h => ?_) (fun f cdv A outer s H vs Q E hr h => ?_)
  · obtain ⟨t, rs, ps, rows, as, rfl, _⟩ := h
    rfl
  obtain ⟨t, rs, ps, rows, as, rfl, X, hp9, hkeys, q⟩ := h
  have hlen := X.len
  have hfew := X.few
  refine ⟨_, (pss_join (ps_if (pt_not (pt_val (pe_callB call_isi rfl T.m_isinstance boot_isinstance (pa_cons (pv 0) (pa_cons (pe_bltn (v := .ty "str") rfl T.m_str boot_str rfl) pa_nil))))) (pss_one ps_never) pss_nil)
      (pss_cons (ps_set (i := 1) sc_read_stand.nd rfl (Or.inl rfl) (pe_lst pa_nil))
      (pss_cons (ps_set (i := 2) sc_read_stand.nd rfl (Or.inl rfl) (pe_lst pa_nil))
      (pss_cons (ps_for PassesOwn.never rfl (pi_enumerate rfl T.m_enumerate (pa_cons (pe_bm F.plainAttrs_str F.slot_str_split F.type_str_split mt_split (pv 0) (pa_cons pe_str pa_nil)) pa_nil)) (pg_tup rfl (pgs_cons (pg_name (i := 3) sc_read_stand.nd rfl (Or.inl rfl)) (pgs_cons (pg_name (i := 4) sc_read_stand.nd rfl (Or.inl rfl)) pgs_nil))) (pss_cons (ps_set (i := 5) sc_read_stand.nd rfl (Or.inl rfl) (pe_bm F.plainAttrs_str F.slot_str_split F.type_str_split mt_split (pv 4) (pa_cons pe_str pa_nil)))
      (pss_cons (ps_set (i := 6) sc_read_stand.nd rfl (Or.inl rfl) (pe_ifExp (pt_cmpR op_eq (pv 3) pe_int (nomark _)) pe_int pe_int))
      (pss_cons (ps_setC (i := 7) (N := ["word"]) (own := 1) (cap := []) sc_read_stand.nd rfl rfl rfl (pi_list (pe_slice sl_list (pv 5) (po_some (pv 6)) po_none)) ⟨rfl, rfl, rfl, rfl, rfl, rfl⟩ (fun _ _ _ _ _ => (pg_name (i := 0) (show List.Nodup (["word"] : List Str) by decide +kernel) rfl (Or.inl rfl))) (fun _ _ _ _ _ => pts_nil) (fun _ _ _ _ _ => (pe_fc F_number_in hr (pa_cons (pv 0) pa_nil))))
      (pss_join (ps_if (PW.pt (pw_or (pt_cmpR op_ge (pv 3) (pe_globI rfl T.g_MOST_KNOTS) (nomark _)) (pw_or (pt_not (pt_val (pe_fc F_is_head hr (pa_cons (pv 3) (pa_cons (pe_slice sl_list (pv 5) po_none (po_some (pv 6))) pa_nil))))) (pw_or1 (pt_not (pt_val (pe_fc F_rises hr (pa_cons (pv 7) pa_nil)))))))) (pss_one ps_never) pss_nil)
      (pss_join (ps_if (pt_cmpR op_gt (pe_op op_add (pe_fc F_long_together hr (pa_cons (pv 2) pa_nil)) (pe_callB call_len_seq rfl T.m_len boot_len (pa_cons (pv 7) pa_nil))) (pe_globI rfl T.g_MOST_KEYS) (nomark _)) (pss_one ps_never) pss_nil)
      (pss_cons (ps_expr (pe_bm F.plainAttrs_list F.slot_list_append F.type_list_append mt_append (pv 1) (pa_cons (pe_ifExp (pt_cmpR op_eq (pv 3) pe_int (nomark _)) pe_non (pe_fc F_number_in hr (pa_cons (pe_ix ix_list (pv 5) pe_int (fun _ _ => rfl)) pa_nil))) pa_nil)))
      (pss_one (ps_expr (pe_bm F.plainAttrs_list F.slot_list_append F.type_list_append mt_append (pv 2) (pa_cons (pv 7) pa_nil)))))))))))
      (pss_one (ps_ret (pe_fc F_stand_of hr (pa_cons (pe_fc F_tree_of hr (pa_cons (pv 1) pa_nil)) (pa_cons (pv 2) pa_nil))))))))), ?_⟩
  refine ⟨fun σ' H' => σ' = [some (.str (textT ps rows)), none, none, none, none, none, none, none] ∧ H = H', ?_, ?_⟩
  · refine ⟨_, rfl, _, _, _, _, rfl, .str _, (show kitO "str" "str" = some true by decide +kernel), _, rfl, ?_⟩
    refine iteF ?_
    exact ⟨rfl, rfl⟩
  rintro σ' H' ⟨rfl, rfl⟩
  refine ⟨(by show 0 ≤ sizeLine; decide), fun pl hpl => ?_⟩
  have g1 := same_new hpl (.lst [])
  have w1 : upd H pl (.lst []) pl = some (.lst []) := upd_same
  generalize upd H pl (.lst []) = H1 at g1 w1 ⊢
  refine ⟨(by show 0 ≤ sizeLine; decide), fun rl hrl => ?_⟩
  have g2 := same_new hrl (.lst [])
  have w2 : upd H1 rl (.lst []) rl = some (.lst []) := upd_same
  have w12 := g2 _ _ w1
  have hne : pl ≠ rl := ne_of_none w1 hrl
  have hrl0 : H rl = none := g1.free hrl
  generalize upd H1 rl (.lst []) = H2 at g2 w2 w12 ⊢
  have htl : (textT ps rows).length ≤ 1000000 := by
    have := join_len_le (sep := "\n") (lines_short X)
    rw [linesT_len] at this
    have e : ("\n" : Str).length = 1 := by decide
    rw [e] at this
    unfold textT
    (first | lia | omega)
  refine ⟨_, rfl, rfl, _, _, rfl, rfl, by decide, htl, fun la hla => ?_⟩
  rw [text_lines X]
  have g3 := same_new hla (.lst ((linesT ps rows (ps.length + 1)).map V.str))
  have w3 : upd H2 la (.lst ((linesT ps rows (ps.length + 1)).map V.str)) la = some (.lst ((linesT ps rows (ps.length + 1)).map V.str)) := upd_same
  have w23 := g3 _ _ w2
  have w123 := g3 _ _ w12
  have nlp : la ≠ pl := fun z => ne_of_none w12 hla z.symm
  have nlr : la ≠ rl := fun z => ne_of_none w2 hla z.symm
  have s03 := g1.trans (g2.trans g3)
  generalize upd H2 la (.lst ((linesT ps rows (ps.length + 1)).map V.str)) = H3 at w3 w23 w123 s03 ⊢
  have X3 := X.same s03
  refine ⟨la, rfl, ⟨_, SqL.of w3⟩, ?_⟩
  refine for_enum (xs := (linesT ps rows (ps.length + 1)).map V.str) (fun i σ B => ∃ (bs : List Addr) (x3 x4 x5 x6 x7 : Option V), σ = [some (.str (textT ps rows)), some (.ref pl), some (.ref rl), x3, x4, x5, x6, x7] ∧ B pl = some (.lst ((treeV ps).take i)) ∧ B rl = some (.lst (bs.map V.ref)) ∧ Paired (RowL pl rl B) bs (rows.take i) ∧ ∀ b o, b ≠ pl → b ≠ rl → H3 b = some o → B b = some o) ?_ ?_ ?_ ?_
  · exact ⟨[], _, _, _, _, _, rfl, w123, w23, .nil, fun b o _ _ e => e⟩
  · rintro i σ B _ ⟨bs, x3, x4, x5, x6, x7, rfl, _, _, _, kB⟩
    exact SqL.of (kB _ _ nlp nlr w3)
  · rintro i x σ B r hx ⟨bs, x3, x4, x5, x6, x7, rfl, hBp, hBr, hBs, kB⟩ hr0
    rw [List.getElem?_map] at hx
    obtain ⟨y, hy, rfl⟩ := Option.map_eq_some_iff.mp hx
    have hi : i < ps.length + 1 := by
      have := (List.getElem?_eq_some_iff.mp hy).1
      rw [linesT_len] at this
      exact this
    have ey : y = lineT (par ps i) (rowAt rows i) := by
      unfold linesT at hy
      rw [List.getElem?_map, List.getElem?_range hi] at hy
      exact (Option.some.inj hy).symm
    subst ey
    have hrow := X.row hi
    have hll := lineT_len (X.par (k := i)) hrow.1 hrow.2
    have hup := X.R.at_up i
    have gr := same_new hr0 (.tup [V.int (i : Int), V.str (lineT (par ps i) (rowAt rows i))])
    have wr : upd B r (.tup [V.int (i : Int), V.str (lineT (par ps i) (rowAt rows i))]) r = some (.tup [V.int (i : Int), V.str (lineT (par ps i) (rowAt rows i))]) := upd_same
    generalize upd B r (.tup [V.int (i : Int), V.str (lineT (par ps i) (rowAt rows i))]) = B1 at gr wr ⊢
    refine ⟨r, _, rfl, SqT.of wr, rfl, _, _, rfl, _, _, rfl, rfl, ?_⟩
    refine ⟨_, rfl, rfl, _, _, rfl, rfl, by decide, by (first | lia | omega), fun wa hwa => ?_⟩
    rw [line_words X hi]
    have g2' := same_new hwa (.lst ((headWs (par ps i) ++ (rowAt rows i).map numT).map V.str))
    have wwa : upd B1 wa (.lst ((headWs (par ps i) ++ (rowAt rows i).map numT).map V.str)) wa = some (.lst ((headWs (par ps i) ++ (rowAt rows i).map numT).map V.str)) := upd_same
    generalize upd B1 wa (.lst ((headWs (par ps i) ++ (rowAt rows i).map numT).map V.str)) = B2 at g2' wwa ⊢
    have sB2 := gr.trans g2'
    dsimp only [gName, tSeq, tAsg]
    refine tif_const ?_
    refine ⟨_, rfl, rfl, _, rfl, ?_⟩
    have ehd : (if decide (V.int (i : Int) = V.int 0) = true then V.int 1 else V.int 2) = V.int (((headWs (par ps i)).length : Nat) : Int) := by
      cases hp : par ps i with
      | none =>
        have := par_none hi hp
        subst this
        rfl
      | some p =>
        have := (par_lt X.T hp).1
        rw [decide_eq_false (fun z => by have := V.int.inj z; (first | lia | omega))]
        rfl
    dsimp only
    rw [ehd]
    have hdrop : cutV ((headWs (par ps i) ++ (rowAt rows i).map numT).map V.str) (some (((headWs (par ps i)).length : Nat) : Int)) none = ((rowAt rows i).map numT).map V.str := by
      rw [cutV_from, List.map_append, List.drop_left' (by rw [List.length_map])]
    have htake : cutV ((headWs (par ps i) ++ (rowAt rows i).map numT).map V.str) none (some (((headWs (par ps i)).length : Nat) : Int)) = (headWs (par ps i)).map V.str := by
      rw [cutV_to, List.map_append, List.take_left' (by rw [List.length_map])]
    refine ⟨_, rfl, _, rfl, _, rfl, wa, _, rfl, SqL.of wwa, fun sa hsa => ?_⟩
    rw [hdrop]
    have g3' := same_new hsa (.lst (((rowAt rows i).map numT).map V.str))
    have wsa : upd B2 sa (.lst (((rowAt rows i).map numT).map V.str)) sa = some (.lst (((rowAt rows i).map numT).map V.str)) := upd_same
    generalize upd B2 sa (.lst (((rowAt rows i).map numT).map V.str)) = B3 at g3' wsa ⊢
    refine ⟨sa, rfl, ⟨_, SqL.of wsa⟩, fun D hD => ?_⟩
    refine comp_list (xs := ((rowAt rows i).map numT).map V.str) (fun j σ B4 => ∃ x0 : Option V, σ = [x0] ∧ B4 D = some (.lst (((rowAt rows i).take j).map V.int)) ∧ But D B3 B4) ?_ ?_ ?_ ?_
    · exact ⟨_, rfl, upd_same, fun b o n e => by rw [upd_ne n]; exact e⟩
    · rintro j σ B4 _ ⟨x0, rfl, _, k4⟩
      exact SqL.of (k4 _ _ (ne_of_none wsa hD) wsa)
    · rintro j m x σ B4 hx hm ⟨x0, rfl, h4, k4⟩
      rw [List.getElem?_map, List.getElem?_map] at hx
      obtain ⟨z, hz, rfl⟩ := Option.map_eq_some_iff.mp hx
      obtain ⟨k, hk, rfl⟩ := Option.map_eq_some_iff.mp hz
      have hj := (List.getElem?_eq_some_iff.mp hk).1
      rw [List.length_map, List.length_map] at hm
      refine iteYes ?_
      refine ⟨_, rfl, k, rfl, hrow.2 k (List.mem_of_getElem? hk), ?_⟩
      refine ⟨_, h4, small1000 (by rw [List.length_map, List.length_take]; (first | lia | omega)), m - 1, by (first | lia | omega), by rw [List.length_map, List.length_map]; (first | lia | omega), _, rfl, ?_, fun b o n e => by rw [upd_ne n]; exact k4 b o n e⟩
      rw [upd_same, List.take_succ_eq_append_getElem hj, (List.getElem?_eq_some_iff.mp hk).2, List.map_append]
      rfl
    rintro σ B4 ⟨x0, rfl, h4, k4⟩
    rw [List.length_map, List.length_map, List.take_of_length_le (Nat.le_refl _)] at h4
    have s34 : Same B3 B4 := fun b o e => k4 b o (ne_of_none e hD) e
    have s24 := g3'.trans s34
    have sB4 := sB2.trans s24
    have hw4 := s24 _ _ wwa
    have hBr4 := sB4 _ _ hBr
    have hBp4 := sB4 _ _ hBp
    have nDp : D ≠ pl := fun z => ne_of_none ((sB2.trans g3') _ _ hBp) hD z.symm
    have nDr : D ≠ rl := fun z => ne_of_none ((sB2.trans g3') _ _ hBr) hD z.symm
    refine ⟨fun σ' H' => σ' = [some (.str (textT ps rows)), some (.ref pl), some (.ref rl), some (.int (i : Int)), some (.str (lineT (par ps i) (rowAt rows i))), some (.ref wa), some (.int (((headWs (par ps i)).length : Nat) : Int)), some (.ref D)] ∧ Same B4 H', ?_, ?_⟩
    · refine ⟨_, rfl, _, _, rfl, rfl, _, rfl, ?_⟩
      refine iteDF (by (first | lia | omega)) ?_
      refine ⟨_, rfl, _, rfl, _, rfl, _, rfl, wa, _, rfl, SqL.of hw4, fun ha hha => ?_⟩
      rw [htake]
      have g5 := same_new hha (.lst ((headWs (par ps i)).map V.str))
      refine ⟨ps, i, ha, rfl, X.T, hfew, hi, upd_same, fun B5 s5 => ⟨_, rfl, ?_⟩⟩
      refine iteF ?_
      have s45 := g5.trans s5
      refine ⟨_, rfl, D, rowAt rows i, rfl, s45 _ _ h4, by (first | lia | omega), hup, hrow.2, fun B6 s6 => ⟨_, rfl, ?_⟩⟩
      refine iteF ?_
      exact ⟨rfl, s45.trans s6⟩
    rintro σ' B5 ⟨rfl, s45⟩
    have sB5 := sB4.trans s45
    have hBs5 := rowsL_keep (fun b o _ _ e => sB5 _ _ e) hBs
    refine ⟨fun σ' H' => σ' = [some (.str (textT ps rows)), some (.ref pl), some (.ref rl), some (.int (i : Int)), some (.str (lineT (par ps i) (rowAt rows i))), some (.ref wa), some (.int (((headWs (par ps i)).length : Nat) : Int)), some (.ref D)] ∧ Same B5 H', ?_, ?_⟩
    · have hkt := keys_take (rows := rows) (i := i) (by (first | lia | omega))
      refine ⟨_, rfl, rl, bs, _, rfl, .inl (s45 _ _ hBr4), rowsL_len hBs5, by rw [List.length_map, List.length_take]; (first | lia | omega), fun B6 s6 => ?_⟩
      refine ⟨_, rfl, _, _, rfl, .inl (SqL.of (s6 _ _ (s45 _ _ h4))), _, _, rfl, rfl, _, _, rfl, rfl, _, rfl, ?_⟩
      refine iteDF (by rw [List.length_map]; (first | lia | omega)) ?_
      exact ⟨rfl, s6⟩
    rintro σ' B6 ⟨rfl, s56⟩
    have s46 := s45.trans s56
    have sB6 := sB4.trans s46
    have hBp6 := s46 _ _ hBp4
    have hBr6 := s46 _ _ hBr4
    have hw6 := s46 _ _ hw4
    have hD6 := s46 _ _ h4
    have hBs6 := rowsL_keep (fun b o _ _ e => sB6 _ _ e) hBs
    have htk : (treeV ps).take (i + 1) = (treeV ps).take i ++ [optV (par ps i)] := by
      rw [List.take_succ, optV_par hi]
      rfl
    have hbl : bs.length ≤ 60 := by
      have := Paired.length hBs
      rw [List.length_take] at this
      (first | lia | omega)
    have tl : ((treeV ps).take i).length ≤ 60 := by
      rw [List.length_take, treeV_length]
      (first | lia | omega)
    have fin : ∀ x : V, x = optV (par ps i) → ∃ (bs' : List Addr) (y3 y4 y5 y6 y7 : Option V), [some (V.str (textT ps rows)), some (V.ref pl), some (V.ref rl), some (V.int (i : Int)), some (V.str (lineT (par ps i) (rowAt rows i))), some (V.ref wa), some (V.int (((headWs (par ps i)).length : Nat) : Int)), some (V.ref D)] = [some (.str (textT ps rows)), some (.ref pl), some (.ref rl), y3, y4, y5, y6, y7] ∧ upd (upd B6 pl (.lst ((treeV ps).take i ++ [x]))) rl (.lst (bs.map V.ref ++ [V.ref D])) pl = some (.lst ((treeV ps).take (i + 1))) ∧ upd (upd B6 pl (.lst ((treeV ps).take i ++ [x]))) rl (.lst (bs.map V.ref ++ [V.ref D])) rl = some (.lst (bs'.map V.ref)) ∧ Paired (RowL pl rl (upd (upd B6 pl (.lst ((treeV ps).take i ++ [x]))) rl (.lst (bs.map V.ref ++ [V.ref D])))) bs' (rows.take (i + 1)) ∧ ∀ b o, b ≠ pl → b ≠ rl → H3 b = some o → upd (upd B6 pl (.lst ((treeV ps).take i ++ [x]))) rl (.lst (bs.map V.ref ++ [V.ref D])) b = some o := fun x ex => by
      subst ex
      have kp : ∀ b o, b ≠ pl → b ≠ rl → B6 b = some o → upd (upd B6 pl (.lst ((treeV ps).take i ++ [optV (par ps i)]))) rl (.lst (bs.map V.ref ++ [V.ref D])) b = some o := fun b o n1 n2 e => by
        rw [upd_ne n2, upd_ne n1]
        exact e
      refine ⟨bs ++ [D], _, _, _, _, _, rfl, ?_, ?_, ?_, fun b o n1 n2 e => kp b o n1 n2 (sB6 _ _ (kB b o n1 n2 e))⟩
      · rw [upd_ne hne, upd_same, htk]
      · rw [upd_same, List.map_append]
        rfl
      · rw [take_rowAt (by (first | lia | omega))]
        exact rowsL_snoc ⟨kp _ _ nDp nDr hD6, nDp, nDr⟩ (rowsL_keep kp hBs6)
    refine ⟨_, rfl, .inl ⟨rfl, _, SqL.of hBp6⟩, ?_⟩
    cases hp : par ps i with
    | none =>
      have h0 := par_none hi hp
      refine ⟨_, rfl, rfl, _, rfl, ?_⟩
      refine iteDT (by rw [h0]; rfl) ?_
      refine ⟨pl, _, _, rfl, rfl, hBp6, small1000 (by (first | lia | omega)), ?_⟩
      have hBr7 : upd B6 pl (.lst ((treeV ps).take i ++ [V.non])) rl = some (.lst (bs.map V.ref)) := by
        rw [upd_ne (Ne.symm hne)]
        exact hBr6
      refine ⟨_, rfl, .inl ⟨rfl, _, SqL.of hBr7⟩, _, rfl, rl, _, _, rfl, rfl, hBr7, small1000 (by rw [List.length_map]; (first | lia | omega)), ?_⟩
      have := fin V.non (by rw [hp]; rfl)
      rw [hp] at this
      exact this
    | some p =>
      have hpl' := par_lt X.T hp
      rw [hp] at hw6
      refine ⟨_, rfl, rfl, _, rfl, ?_⟩
      refine iteDF (fun z => by have := V.int.inj z; (first | lia | omega)) ?_
      refine ⟨_, rfl, _, _, _, _, rfl, rfl, SqL.of hw6, (show atI _ ((1 : Nat) : Int) = some (V.str (numT (p : Int))) from atI_nat rfl), (p : Int), rfl, nat_key (by (first | lia | omega)), ?_⟩
      refine ⟨pl, _, _, rfl, rfl, hBp6, small1000 (by (first | lia | omega)), ?_⟩
      have hBr7 : upd B6 pl (.lst ((treeV ps).take i ++ [V.int (p : Int)])) rl = some (.lst (bs.map V.ref)) := by
        rw [upd_ne (Ne.symm hne)]
        exact hBr6
      refine ⟨_, rfl, .inl ⟨rfl, _, SqL.of hBr7⟩, _, rfl, rl, _, _, rfl, rfl, hBr7, small1000 (by rw [List.length_map]; (first | lia | omega)), ?_⟩
      have := fin (V.int (p : Int)) (by rw [hp]; rfl)
      rw [hp] at this
      exact this
  rintro σ B ⟨bs, x3, x4, x5, x6, x7, rfl, hBp, hBr, hBs, kB⟩
  rw [List.length_map, linesT_len] at hBp hBs
  rw [List.take_of_length_le (by rw [treeV_length]; (first | lia | omega))] at hBp
  rw [List.take_of_length_le (by (first | lia | omega))] at hBs
  have sHB : Same H B := fun b o e => kB b o (ne_of_none e hpl) (ne_of_none e hrl0) (s03 _ _ e)
  refine ⟨_, rfl, pl, ps, rfl, hBp, X.T, hp9, fun u B1 _ s1 hu => ?_⟩
  refine ⟨_, rfl, u, rl, ps, rows, bs, rfl, hu, .inl (s1 _ _ hBr), rowsL_giv (rowsL_keep (fun b o _ _ e => s1 _ _ e) hBs), hlen, X.T, X.R, hfew, hkeys, fun st rs' cs B2 _ s2 S => ?_⟩
  exact q st u rs' cs B2 (sHB.trans (s1.trans s2)) S
def spLStand6 (K : PySem.W.Frag) : Sp := fun vs H Q _ => ∃ (d L : Addr) (m k : Nat), vs = [.ref d, .int m, .int k] ∧ (0 < m ∧ m ≤ 40) ∧ k ≤ 40 ∧ LS K L d H ∧
  ∀ (st t rs : Addr) (ps : List Nat) (rows : List (List Int)) (as : List Addr) (H' : Hp), H' st = some (.tup [.ref t, .ref rs]) → TextAt H' t rs ps rows as → ps.length < m → (∀ r ∈ rows, r.length ≤ k) → Keep d H H' → LS K L d H' → Q (.ref st) H'
theorem ok_lstand6 (T : Txt K mg) (D_l_stand : DF K mg "_law_stand" s_l_stand ps_l_stand) (F_l_tree : FC P w K mg base 3 "_law_tree" ps_l_tree (spTree K)) (F_l_rows : FC P w K mg base 5 "_law_rows" ps_l_rows (spRows K)) : FC P w K mg base 6 "_law_stand" ps_l_stand (spLStand6 K) := by
  refine D_l_stand.ok sc_l_stand (fun vs H Q E h => ?_) (fun f cdv A outer s H vs Q E hr h => ?_)
  · obtain ⟨d, L, m, k, rfl, _⟩ := h
    rfl
  obtain ⟨d, L, m, k, rfl, hm, hk, hs, q⟩ := h
  refine ⟨_, (pss_cons (ps_set (i := 3) sc_l_stand.nd rfl (Or.inl rfl) (pe_fc F_l_tree hr (pa_cons (pv 0) (pa_cons (pv 1) pa_nil))))
      (pss_one (ps_ret (pe_tup (pa_cons (pv 3) (pa_cons (pe_fc F_l_rows hr (pa_cons (pv 0) (pa_cons (pe_callB call_len_seq rfl T.m_len boot_len (pa_cons (pv 3) pa_nil)) (pa_cons (pv 2) pa_nil)))) pa_nil)))))), ?_⟩
  refine ⟨_, rfl, _, rfl, d, L, (m : Int), rfl, by (first | lia | omega), hs, fun t ps H1 _ hT hl h1 k1 s1 => ?_⟩
  have htd : t ≠ d := fun z => by
    obtain ⟨_, _, _, e2, _⟩ := s1.ex
    rw [← z, h1] at e2
    cases e2
  refine ⟨_, rfl, _, rfl, _, rfl, _, _, rfl, .inr (SqT.of h1), _, rfl, d, L, ps.length + 1, k, by rw [treeV_length]; rfl, by (first | lia | omega), hk, s1, fun r as rows H2 _ hA hlen hR hle h2 k2 s2 => ?_⟩
  refine ⟨(by show 2 ≤ sizeLine; decide), fun st hst => ?_⟩
  have g := same_new hst (.tup [.ref t, .ref r])
  exact q st t r ps rows as _ upd_same ⟨g _ _ (k2 _ _ htd h1), g _ _ h2, hA.ext g, hlen, hT, hR, by (first | lia | omega), fun x hx => Nat.le_trans (hle x hx) hk⟩ (by (first | lia | omega)) hle (fun b o n e => g _ _ (k2 _ _ n (k1 _ _ n e))) (s2.same g)
def optL (ps : List Nat) : List (Option Int) := none :: ps.map fun (p : Nat) => some (Int.ofNat p)
theorem tree_has {K : PySem.W.Frag} {H : Hp} (ps : List Nat) : HasAll K H (optL ps) (treeV ps) := by
  refine .cons rfl ?_
  induction ps with
  | nil => exact .nil
  | cons p ps ih => exact .cons rfl ih
theorem rows_has {K : PySem.W.Frag} {H : Hp} : ∀ {as : List Addr} {rows : List (List Int)}, RowsAt H as rows → HasAll K H (rows.map Tup.mk) (as.map V.ref)
  | _, _, .nil => .nil
  | _, _, .cons h t => .cons ⟨_, _, rfl, SqT.of h, HasAll.ints⟩ (rows_has t)
theorem slX_any {K : PySem.W.Frag} {a : Addr} {xs : List V} {H : Hp} {n : Nat} {Q : V → Hp → Prop} (h : H a = some (.tup xs)) (q : ∀ p H', Same H H' → H' p = some (.tup (xs.take n)) → Q (.ref p) H') : rSlX K (.ref a) none (some ((n : Nat) : Int)) H Q := by
  refine ⟨a, xs, rfl, SqT.of h, fun z => ?_, fun _ p hp => ?_⟩
  · have z2 := z.2
    rw [sIx_nat] at z2
    refine q a H (fun _ _ e => e) ?_
    rw [List.take_of_length_le (by (first | lia | omega))]
    exact h
  · rw [cutV_to]
    exact q p _ (same_new hp _) upd_same
theorem treeV_take (ps : List Nat) (n : Nat) : (treeV ps).take (n + 1) = treeV (ps.take n) := by
  show (V.non :: ps.map nV).take (n + 1) = V.non :: (ps.take n).map nV
  rw [List.take_succ_cons, List.map_take]
theorem lineT_ws (o : Option Nat) (row : List Int) : lineT o row = Txt.join " " (headWs o ++ row.map numT) := by
  unfold lineT
  cases o with
  | none => rfl
  | some p =>
    have e1 : ∀ l, Txt.join " " l = Str.join " " l := fun l => StrLaws.glued_eq_join " " l
    rw [e1, e1]
    cases row.map numT with
    | nil =>
      show Str.empty ++ "under " ++ numT (p : Int) = ("under" : Str) ++ " " ++ numT (p : Int)
      rw [Str.empty_append]
      rfl
    | cons y ys =>
      show Str.empty ++ "under " ++ numT (p : Int) ++ " " ++ Str.join " " (y :: ys) = ("under" : Str) ++ " " ++ (numT (p : Int) ++ " " ++ Str.join " " (y :: ys))
      rw [Str.empty_append, show ("under " : Str) = "under" ++ " " from rfl]
      simp only [Str.append_assoc]
theorem ok_lline (T : Txt K mg) (D_l_line : DF K mg "_law_line" s_l_line ps_l_line) : FC P w K mg base 1 "_law_line" ps_l_line (spLine K) := by
  refine D_l_line.ok sc_l_line (fun vs H Q E h => ?_) (fun f cdv A outer s H vs Q E hr h => ?_)
  · obtain ⟨o, r, row, rfl, _⟩ := h
    rfl
  obtain ⟨o, r, row, rfl, hr0, ho, hz, hk, q⟩ := h
  have hhl := headT_len ho
  refine ⟨_, (pss_cons (ps_set (i := 2) sc_l_line.nd rfl (Or.inl rfl) (pe_lst (pa_cons pe_str pa_nil)))
      (pss_join (ps_if (pt_cmpR op_notN (pv 0) pe_non (nomark _)) (pss_one (ps_set (i := 2) sc_l_line.nd rfl (Or.inl rfl) (pe_lst (pa_cons pe_str (pa_cons (pe_callTy call_strN rfl T.m_str boot_str (pa_cons (pv 0) pa_nil)) pa_nil))))) pss_nil)
      (pss_one (ps_ret (pe_bm F.plainAttrs_str F.slot_str_join F.type_str_join mt_join pe_str (pa_cons (pe_op op_cat (pv 2) (pe_comp (N := ["_law_key_here"]) (own := 1) (cap := []) rfl (pi_tup (pv 1)) ⟨rfl, rfl, rfl, rfl, rfl, rfl⟩ (fun _ _ _ _ _ => (pg_name (i := 0) (show List.Nodup (["_law_key_here"] : List Str) by decide +kernel) rfl (Or.inl rfl))) (fun _ _ _ _ _ => pts_nil) (fun _ _ _ _ _ => (pe_callTy call_strN rfl T.m_str boot_str (pa_cons (pv 0) pa_nil))))) pa_nil)))))), ?_⟩
  refine ⟨(by show 1 ≤ sizeLine; decide), fun l hl => ?_⟩
  have g1 := same_new hl (.lst [V.str "root"])
  have w1 : upd H l (.lst [V.str "root"]) l = some (.lst [V.str "root"]) := upd_same
  generalize upd H l (.lst [V.str "root"]) = H1 at g1 w1 ⊢
  refine ⟨fun σ' H' => ∃ wa : Addr, σ' = [some (optV o), some (.ref r), some (.ref wa)] ∧ H' wa = some (.lst ((headWs o).map V.str)) ∧ Same H H', ?_, ?_⟩
  · cases o with
    | none =>
      refine ⟨_, rfl, rfl, _, rfl, ?_⟩
      refine iteNS rfl ?_
      exact ⟨l, rfl, w1, g1⟩
    | some p =>
      have hp := nat_key (ho p rfl)
      refine ⟨_, rfl, rfl, _, rfl, ?_⟩
      refine iteNX (fun z => nomatch z) ?_
      refine ⟨_, rfl, (p : Int), rfl, key_log hp, (by show 2 ≤ sizeLine; decide), fun wa hwa => ?_⟩
      exact ⟨wa, rfl, upd_same, g1.trans (same_new hwa _)⟩
  rintro σ' H2 ⟨wa, rfl, w2, s2⟩
  have hr2 := s2 _ _ hr0
  refine ⟨rfl, _, rfl, _, rfl, r, rfl, ⟨_, SqT.of hr2⟩, fun D hD => ?_⟩
  refine comp_tup (xs := row.map V.int) (fun i σ H3 => ∃ x0 : Option V, σ = [x0] ∧ H3 D = some (.lst (((row.take i).map numT).map V.str)) ∧ But D H2 H3) ?_ ?_ ?_ ?_
  · exact ⟨_, rfl, upd_same, fun b o n e => by rw [upd_ne n]; exact e⟩
  · rintro i σ H3 _ ⟨x0, rfl, _, k3⟩
    exact SqT.of (k3 _ _ (ne_of_none hr2 hD) hr2)
  · rintro i m x σ H3 hx hm ⟨x0, rfl, h3, k3⟩
    rw [List.getElem?_map] at hx
    obtain ⟨y, hy, rfl⟩ := Option.map_eq_some_iff.mp hx
    have hi := (List.getElem?_eq_some_iff.mp hy).1
    rw [List.length_map] at hm
    refine iteYes ?_
    refine ⟨_, rfl, _, rfl, key_log (hk y (List.mem_of_getElem? hy)), ?_⟩
    refine ⟨_, h3, small1000 (by rw [List.length_map, List.length_map, List.length_take]; (first | lia | omega)), m - 1, by (first | lia | omega), by rw [List.length_map]; (first | lia | omega), _, rfl, ?_, fun b o n e => by rw [upd_ne n]; exact k3 b o n e⟩
    rw [upd_same, List.take_succ_eq_append_getElem hi, (List.getElem?_eq_some_iff.mp hy).2, List.map_append, List.map_append]
    rfl
  rintro σ H3 ⟨x0, rfl, h3, k3⟩
  rw [List.length_map, List.take_of_length_le (Nat.le_refl _)] at h3
  have s23 : Same H2 H3 := fun b o e => k3 b o (ne_of_none e hD) e
  have hhw : (headWs o).length ≤ 2 := by
    cases o with
    | none => decide
    | some p => exact Nat.le_refl 2
  refine ⟨wa, D, _, _, rfl, rfl, s23 _ _ w2, h3, Nat.le_of_lt (small1000 (by rw [List.length_map, List.length_map, List.length_map]; (first | lia | omega))), fun c hc => ?_⟩
  rw [← List.map_append]
  have g4 := same_new hc (.lst ((headWs o ++ row.map numT).map V.str))
  refine ⟨" ", c, headWs o ++ row.map numT, rfl, rfl, SqL.of upd_same, joinOk (B := 70) (fun y hy => ?_) ?_, ?_⟩
  · rcases List.mem_append.mp hy with hy | hy
    · cases o with
      | none =>
        rw [List.mem_singleton.mp hy]
        decide
      | some p =>
        rcases List.mem_cons.mp hy with rfl | hy
        · decide
        · rw [List.mem_singleton.mp hy]
          have := numT_len (nat_key (ho p rfl))
          (first | lia | omega)
    · obtain ⟨n, hn, rfl⟩ := List.mem_map.mp hy
      have := numT_len (hk n hn)
      (first | lia | omega)
  · rw [List.length_append, List.length_map]
    have e : (" " : Str).length = 1 := by decide
    rw [e]
    (first | lia | omega)
  · rw [← lineT_ws]
    exact q _ (s2.trans (s23.trans g4))
def spRight (K : PySem.W.Frag) : Sp := fun vs H Q _ => ∃ (u st t rs t2 rs2 : Addr) (ps : List Nat) (rows : List (List Int)) (as as2 : List Addr), vs = [.ref u, .ref st] ∧ StandAt H u ps rows t2 rs2 as2 ∧ H st = some (.tup [.ref t, .ref rs]) ∧ TextAt H t rs ps rows as ∧ ∀ H', Same H H' → Q (.bl true) H'
theorem ok_right (T : Txt K mg) (D_l_right : DF K mg "_law_right" s_l_right ps_l_right) : FC P w K mg base 1 "_law_right" ps_l_right (spRight K) := by
  refine D_l_right.ok sc_l_right (fun vs H Q E h => ?_) (fun f cdv A outer s H vs Q E hr h => ?_)
  · obtain ⟨u, st, t, rs, t2, rs2, ps, rows, as, as2, rfl, _⟩ := h
    rfl
  obtain ⟨u, st, t, rs, t2, rs2, ps, rows, as, as2, rfl, S, hst, X, q⟩ := h
  have ktt : kitO "tuple" "tuple" = some true := by decide +kernel
  have hal := S.at_.length
  have hlen := S.len
  have hfew := S.few
  refine ⟨_, (pss_join (ps_if (PW.pt (pw_or (pt_not (pt_val (pe_callB call_isi rfl T.m_isinstance boot_isinstance (pa_cons (pv 0) (pa_cons (pe_bltn (v := .ty "tuple") rfl T.m_tuple boot_tuple rfl) pa_nil))))) (pw_or (pt_cmpR (op_neD (Tup (Option Int) × Tup (Tup Int)) (huD hr)) (pv 0) (pv 1) (nomark _)) (pw_or1 (pt_not (pt_val (pe_callB call_isi rfl T.m_isinstance boot_isinstance (pa_cons (pe_ix ix_tup (pv 0) pe_int (fun _ _ => rfl)) (pa_cons (pe_bltn (v := .ty "tuple") rfl T.m_tuple boot_tuple rfl) pa_nil))))))))) (pss_one (ps_ret pe_bl)) pss_nil)
      (pss_join (ps_if (PW.pt (pw_or (pt_not (pt_val (pe_callB call_isi rfl T.m_isinstance boot_isinstance (pa_cons (pe_ix ix_tup (pv 0) pe_int (fun _ _ => rfl)) (pa_cons (pe_bltn (v := .ty "tuple") rfl T.m_tuple boot_tuple rfl) pa_nil))))) (pw_or1 (pt_not (pt_val (pe_callB (call_allB rfl) rfl T.m_all boot_all (pa_cons (pe_comp (N := ["_law_row_here"]) (own := 1) (cap := []) rfl (pi_tup (pe_ix ix_tup (pv 0) pe_int (fun _ _ => rfl))) ⟨rfl, rfl, rfl, rfl, rfl, rfl⟩ (fun _ _ _ _ _ => (pg_name (i := 0) (show List.Nodup (["_law_row_here"] : List Str) by decide +kernel) rfl (Or.inl rfl))) (fun _ _ _ _ _ => pts_nil) (fun _ _ _ _ _ => (pe_callB (call_isiC (K := K)) rfl T.m_isinstance boot_isinstance (pa_cons (pv 0) (pa_cons (pe_bltn (v := .ty "tuple") rfl T.m_tuple boot_tuple rfl) pa_nil))))) pa_nil))))))) (pss_one (ps_ret pe_bl)) pss_nil)
      (pss_cons (ps_for PassesOwn.never rfl (pi_tup (pe_op op_catX (pe_ix ix_tup (pv 0) pe_int (fun _ _ => rfl)) (pe_tup (pa_cons (pe_slice sl_tupX (pe_ix ix_tup (pv 0) pe_int (fun _ _ => rfl)) (po_some pe_int) po_none) pa_nil)))) (pg_name (i := 2) sc_l_right.nd rfl (Or.inl rfl)) (pss_one (ps_if (pt_not (pt_val (pe_callB (call_allB rfl) rfl T.m_all boot_all (pa_cons (pe_comp (N := ["_law_one"]) (own := 1) (cap := []) rfl (pi_tup (pv 2)) ⟨rfl, rfl, rfl, rfl, rfl, rfl⟩ (fun _ _ _ _ _ => (pg_name (i := 0) (show List.Nodup (["_law_one"] : List Str) by decide +kernel) rfl (Or.inl rfl))) (fun _ _ _ _ _ => pts_nil) (fun _ _ _ _ _ => (pe_and (pe_callB (call_isiC (K := K)) rfl T.m_isinstance boot_isinstance (pa_cons (pv 0) (pa_cons (pe_bltn (v := .ty "int") rfl T.m_int boot_int rfl) pa_nil))) (pe_one (pe_not (pe_callB (call_isiC (K := K)) rfl T.m_isinstance boot_isinstance (pa_cons (pv 0) (pa_cons (pe_bltn (v := .ty "bool") rfl T.m_bool boot_bool rfl) pa_nil)))))))) pa_nil)))) (pss_one (ps_ret pe_bl)) pss_nil)))
      (pss_one (ps_ret pe_bl))))), ?_⟩
  refine ⟨fun σ' H' => σ' = [some (.ref u), some (.ref st), none] ∧ H = H', ?_, ?_⟩
  · refine ⟨_, rfl, _, _, _, _, rfl, .tup S.st, ktt, _, rfl, ?_⟩
    refine iteF ?_
    refine ⟨_, rfl, _, rfl, ((⟨optL ps⟩ : Tup (Option Int)), (⟨rows.map Tup.mk⟩ : Tup (Tup Int))), ((⟨optL ps⟩ : Tup (Option Int)), (⟨rows.map Tup.mk⟩ : Tup (Tup Int))), ⟨u, _, _, rfl, S.st, ⟨_, _, rfl, SqT.of S.tr, tree_has ps⟩, ⟨_, _, rfl, SqT.of S.rs, rows_has S.at_⟩⟩, ⟨st, _, _, rfl, hst, ⟨_, _, rfl, SqT.of X.tr, tree_has ps⟩, ⟨_, _, rfl, SqT.of X.rs, rows_has X.at_⟩⟩, _, rfl, ?_⟩
    refine iteNS rfl ?_
    refine ⟨_, rfl, _, _, _, _, rfl, rfl, SqT.of S.st, rfl, _, _, _, _, rfl, .tup S.tr, ktt, _, rfl, ?_⟩
    refine iteF ?_
    exact ⟨rfl, rfl⟩
  rintro σ' H' ⟨rfl, rfl⟩
  refine ⟨fun σ' H' => σ' = [some (.ref u), some (.ref st), none] ∧ Same H H', ?_, ?_⟩
  · refine ⟨_, rfl, _, _, _, _, rfl, rfl, SqT.of S.st, rfl, _, _, _, _, rfl, .tup S.rs, ktt, _, rfl, ?_⟩
    refine iteF ?_
    refine ⟨_, rfl, _, _, _, _, rfl, rfl, SqT.of S.st, rfl, rs2, rfl, ⟨_, SqT.of S.rs⟩, fun D hD => ?_⟩
    refine comp_tup (xs := as2.map V.ref) (fun i σ H2 => ∃ x0 : Option V, σ = [x0] ∧ H2 D = some (.lst ((List.replicate i true).map V.bl)) ∧ But D H H2) ?_ ?_ ?_ ?_
    · exact ⟨_, rfl, upd_same, fun b o n e => by rw [upd_ne n]; exact e⟩
    · rintro i σ H2 _ ⟨x0, rfl, _, k2⟩
      exact SqT.of (k2 _ _ (ne_of_none S.rs hD) S.rs)
    · rintro i m x σ H2 hx hm ⟨x0, rfl, h2, k2⟩
      rw [List.getElem?_map] at hx
      obtain ⟨r, hr1, rfl⟩ := Option.map_eq_some_iff.mp hx
      obtain ⟨row, hrow, hr2⟩ := paired_get S.at_ hr1
      have hi := (List.getElem?_eq_some_iff.mp hrow).1
      rw [List.length_map] at hm
      refine iteYes ?_
      refine ⟨_, rfl, _, _, _, _, rfl, .tup (k2 _ _ (ne_of_none hr2 hD) hr2), ktt, ?_⟩
      refine ⟨_, h2, small1000 (by rw [List.length_map, List.length_replicate]; (first | lia | omega)), m - 1, by (first | lia | omega), by rw [List.length_map]; (first | lia | omega), _, rfl, ?_, fun b o n e => by rw [upd_ne n]; exact k2 b o n e⟩
      rw [upd_same, List.replicate_succ', List.map_append]
      rfl
    rintro σ H2 ⟨x0, rfl, h2, k2⟩
    refine ⟨D, _, rfl, SqL.of h2, _, rfl, ?_⟩
    rw [all_rep]
    refine iteF ?_
    exact ⟨rfl, fun b o e => k2 b o (ne_of_none e hD) e⟩
  rintro σ' H1 ⟨rfl, s1⟩
  have S1 := S.same s1
  refine ⟨_, rfl, _, _, _, _, rfl, rfl, SqT.of S1.st, rfl, ?_⟩
  refine ⟨_, rfl, _, _, _, _, rfl, rfl, SqT.of S1.st, rfl, 1, rfl, ?_⟩
  refine ⟨t2, _, rfl, SqT.of S1.tr, (fun z => ?_), fun _ p hp => ?_⟩
  · have := z.1
    rw [show (1 : Int) = ((1 : Nat) : Int) from rfl, sIx_nat, treeV_length] at this
    (first | lia | omega)
  rw [show (1 : Int) = ((1 : Nat) : Int) from rfl, cutV_from, show (treeV ps).drop 1 = (ps.map fun k : Nat => (k : Int)).map V.int from by rw [List.map_map]; rfl]
  have g2 := same_new hp (.tup ((ps.map fun k : Nat => (k : Int)).map V.int))
  have w2 : upd H1 p (.tup ((ps.map fun k : Nat => (k : Int)).map V.int)) p = some (.tup ((ps.map fun k : Nat => (k : Int)).map V.int)) := upd_same
  generalize upd H1 p (.tup ((ps.map fun k : Nat => (k : Int)).map V.int)) = H2 at g2 w2 ⊢
  refine ⟨(by show 1 ≤ sizeLine; decide), fun tp htp => ?_⟩
  have g3 := same_new htp (.tup [V.ref p])
  have w3 : upd H2 tp (.tup [V.ref p]) tp = some (.tup [V.ref p]) := upd_same
  have w23 := g3 _ _ w2
  generalize upd H2 tp (.tup [V.ref p]) = H3 at g3 w3 w23 ⊢
  have s13 := g2.trans g3
  have S3 := S1.same s13
  refine ⟨rs2, tp, _, _, rfl, rfl, SqT.of S3.rs, SqT.of w3, by simp, Nat.le_of_lt (small1000 (by rw [List.length_map]; show _ + 1 ≤ 1000; (first | lia | omega))), (fun z => ?_), fun _ c hc => ?_⟩
  · have := congrArg List.length z
    rw [List.length_map, List.length_nil] at this
    (first | lia | omega)
  have g4 := same_new hc (.tup (as2.map V.ref ++ [V.ref p]))
  have w4 : upd H3 c (.tup (as2.map V.ref ++ [V.ref p])) c = some (.tup (as2.map V.ref ++ [V.ref p])) := upd_same
  have w24 := g4 _ _ w23
  generalize upd H3 c (.tup (as2.map V.ref ++ [V.ref p])) = H4 at g4 w4 w24 ⊢
  have s14 := s13.trans g4
  have S4 := S1.same s14
  have each : ∀ x ∈ as2.map V.ref ++ [V.ref p], ∃ (b : Addr) (ms : List Int), x = .ref b ∧ H4 b = some (.tup (ms.map V.int)) ∧ ms.length ≤ 900 := fun x hx => by
    rcases List.mem_append.mp hx with hx | hx
    · obtain ⟨b, hb, rfl⟩ := List.mem_map.mp hx
      obtain ⟨i, hi, rfl⟩ := List.getElem_of_mem hb
      obtain ⟨row, hrow, hr2⟩ := paired_get S4.at_ (List.getElem?_eq_getElem hi)
      exact ⟨_, row, rfl, hr2, Nat.le_trans (X.short row (List.mem_of_getElem? hrow)) (by decide)⟩
    · rw [List.mem_singleton.mp hx]
      exact ⟨p, _, rfl, w24, by rw [List.length_map]; (first | lia | omega)⟩
  refine ⟨c, rfl, ⟨_, SqT.of w4⟩, ?_⟩
  refine for_tup (xs := as2.map V.ref ++ [V.ref p]) (fun i σ B => ∃ x2 : Option V, σ = [some (.ref u), some (.ref st), x2] ∧ Same H4 B) ?_ ?_ ?_ ?_
  · exact ⟨_, rfl, fun _ _ e => e⟩
  · rintro i σ B _ ⟨x2, rfl, sB⟩
    exact SqT.of (sB _ _ w4)
  · rintro i x σ B hx ⟨x2, rfl, sB⟩
    obtain ⟨b, ms, rfl, hb, hml⟩ := each x (List.mem_of_getElem? hx)
    have hbB := sB _ _ hb
    refine ⟨_, rfl, b, rfl, ⟨_, SqT.of hbB⟩, fun D hD => ?_⟩
    refine comp_tup (xs := ms.map V.int) (fun j σ H2 => ∃ x0 : Option V, σ = [x0] ∧ H2 D = some (.lst ((List.replicate j true).map V.bl)) ∧ But D B H2) ?_ ?_ ?_ ?_
    · exact ⟨_, rfl, upd_same, fun b o n e => by rw [upd_ne n]; exact e⟩
    · rintro j σ H2 _ ⟨x0, rfl, _, k2⟩
      exact SqT.of (k2 _ _ (ne_of_none hbB hD) hbB)
    · rintro j m x σ H2 hx hm ⟨x0, rfl, h2, k2⟩
      rw [List.getElem?_map] at hx
      obtain ⟨y, hy, rfl⟩ := Option.map_eq_some_iff.mp hx
      have hj := (List.getElem?_eq_some_iff.mp hy).1
      rw [List.length_map] at hm
      refine iteYes ?_
      refine ⟨_, rfl, _, _, _, _, rfl, .int _, kit_ii, _, rfl, ?_⟩
      refine iteT ?_
      refine ⟨_, rfl, _, _, _, _, rfl, .int _, kit_ib, _, rfl, ?_⟩
      refine ⟨_, h2, small1000 (by rw [List.length_map, List.length_replicate]; (first | lia | omega)), m - 1, by (first | lia | omega), by rw [List.length_map]; (first | lia | omega), _, rfl, ?_, fun b o n e => by rw [upd_ne n]; exact k2 b o n e⟩
      rw [upd_same, List.replicate_succ', List.map_append]
      rfl
    rintro σ H2 ⟨x0, rfl, h2, k2⟩
    refine ⟨D, _, rfl, SqL.of h2, _, rfl, ?_⟩
    rw [all_rep]
    refine iteF ?_
    exact ⟨_, rfl, sB.trans fun b o e => k2 b o (ne_of_none e hD) e⟩
  rintro σ B ⟨x2, rfl, sB⟩
  exact q B (s1.trans (s14.trans sB))
theorem dedup_nd : ∀ (ns σ : List Int), σ.Nodup → (ns.foldl step_dedup σ).Nodup ∧ ∀ x ∈ ns.foldl step_dedup σ, x ∈ σ ∨ x ∈ ns
  | [], σ, h => ⟨h, fun x hx => .inl hx⟩
  | n :: ns, σ, h => by
    rw [List.foldl_cons]
    by_cases c : σ.any (· == n) = true
    · have e : step_dedup σ n = σ := by
        unfold step_dedup
        rw [if_pos c]
      rw [e]
      obtain ⟨h1, h2⟩ := dedup_nd ns σ h
      exact ⟨h1, fun x hx => (h2 x hx).imp id (List.mem_cons_of_mem _)⟩
    · have e : step_dedup σ n = σ ++ [n] := by
        unfold step_dedup
        rw [if_neg c]
      rw [e]
      have hn : n ∉ σ := fun hm => c (List.any_eq_true.mpr ⟨n, hm, beq_self_eq_true n⟩)
      obtain ⟨h1, h2⟩ := dedup_nd ns (σ ++ [n]) (by
        rw [List.nodup_append]
        exact ⟨h, (by simp), fun a ha b hb z => hn (by rw [← List.mem_singleton.mp hb, ← z]; exact ha)⟩)
      refine ⟨h1, fun x hx => ?_⟩
      rcases h2 x hx with z | z
      · rcases List.mem_append.mp z with z | z
        · exact .inl z
        · exact .inr (by rw [List.mem_singleton.mp z]; exact List.mem_cons_self)
      · exact .inr (List.mem_cons_of_mem _ z)
theorem metI_nd (ns : List Int) : (metI ns).Nodup ∧ (∀ x ∈ metI ns, x ∈ ns) ∧ (metI ns).length ≤ ns.length := by
  refine ⟨?_, ?_, firstMet_length_le _ _⟩
  · unfold metI firstMet
    rw [L2.range_getD]
    exact (dedup_nd ns [] List.nodup_nil).1
  · unfold metI firstMet
    rw [L2.range_getD]
    exact fun x hx => ((dedup_nd ns [] List.nodup_nil).2 x hx).elim (fun z => nomatch z) id
theorem prs_take {α β : Type} {F : α → β → Prop} : ∀ {l : List α} {r : List β} (n : Nat), Paired F l r → Paired F (l.take n) (r.take n)
  | _, _, 0, _ => .nil
  | _, _, _ + 1, .nil => .nil
  | _, _, n + 1, .cons h t => .cons h (prs_take n t)
theorem prs_drop {α β : Type} {F : α → β → Prop} : ∀ {l : List α} {r : List β} (n : Nat), Paired F l r → Paired F (l.drop n) (r.drop n)
  | _, _, 0, h => h
  | _, _, _ + 1, .nil => .nil
  | _, _, n + 1, .cons _ t => prs_drop n t
theorem prs_app {α β : Type} {F : α → β → Prop} : ∀ {l l2 : List α} {r r2 : List β}, Paired F l r → Paired F l2 r2 → Paired F (l ++ l2) (r ++ r2)
  | _, _, _, _, .nil, h => h
  | _, _, _, _, .cons h t, h2 => .cons h (prs_app t h2)
theorem catX_any {K : PySem.W.Frag} {a b : Addr} {xs ys : List V} {H : Hp} {Q : V → Hp → Prop} (ha : H a = some (.tup xs)) (hb : H b = some (.tup ys)) (hy : ys ≠ []) (hz : xs.length + ys.length ≤ 1000) (q : ∀ p H', Same H H' → H' p = some (.tup (xs ++ ys)) → Q (.ref p) H') : rCatX K (.ref a) (.ref b) H Q := by
  refine ⟨a, b, xs, ys, rfl, rfl, SqT.of ha, SqT.of hb, hy, Nat.le_trans hz (by decide), fun z => ?_, fun _ p hp => q p _ (same_new hp _) upd_same⟩
  subst z
  exact q b H (fun _ _ e => e) hb
theorem catT_any {K : PySem.W.Frag} {a b : Addr} {xs ys : List V} {H : Hp} {Q : V → Hp → Prop} (ha : H a = some (.tup xs)) (hb : H b = some (.tup ys)) (hx : xs ≠ []) (hz : xs.length + ys.length ≤ 1000) (q : ∀ p H', Same H H' → H' p = some (.tup (xs ++ ys)) → Q (.ref p) H') : rCatT K (.ref a) (.ref b) H Q := by
  refine ⟨a, b, xs, ys, rfl, rfl, SqT.of ha, SqT.of hb, hx, Nat.le_trans hz (by decide), fun z => ?_, fun _ p hp => q p _ (same_new hp _) upd_same⟩
  subst z
  rw [List.append_nil] at q
  exact q a H (fun _ _ e => e) ha
theorem slX_gen {K : PySem.W.Frag} {a : Addr} {xs : List V} {H : Hp} {lo hi : Option Int} {Q : V → Hp → Prop} (h : H a = some (.tup xs)) (q : ∀ p H', Same H H' → H' p = some (.tup (cutV xs lo hi)) → Q (.ref p) H') : rSlX K (.ref a) lo hi H Q := by
  refine ⟨a, xs, rfl, SqT.of h, fun z => ?_, fun _ p hp => q p _ (same_new hp _) upd_same⟩
  refine q a H (fun _ _ e => e) ?_
  have e : cutV xs lo hi = xs := by
    unfold cutV
    rw [z.1, z.2, List.drop_zero, Nat.sub_zero, List.take_of_length_le (Nat.le_refl _)]
  rw [e]
  exact h
theorem slX_lo {K : PySem.W.Frag} {σ : L2.St} {a : Addr} {xs : List V} {H : Hp} {lo : Option Int} {Q : V → Hp → Prop} (h : H a = some (.tup xs)) (q : ∀ p H', Same H H' → H' p = some (.tup (cutV xs lo none)) → Q (.ref p) H') : tNoPart σ H fun u H3 => rSlX K (.ref a) lo u H3 Q := slX_gen h q
theorem cut_ints (row : List Int) (lo hi : Option Int) : ∃ r : List Int, cutV (row.map V.int) lo hi = r.map V.int ∧ r.Sublist row := by
  unfold cutV
  rw [← List.map_drop, ← List.map_take]
  exact ⟨_, rfl, (List.take_sublist _ _).trans (List.drop_sublist _ _)⟩
theorem set_rowsAt {H : Hp} {as : List Addr} {rows : List (List Int)} {k : Nat} {b : Addr} {row : List Int} (h : RowsAt H as rows) (hb : H b = some (.tup (row.map V.int))) (hk : k < rows.length) : RowsAt H (as.take k ++ [b] ++ as.drop (k + 1)) (rows.take k ++ [row] ++ rows.drop (k + 1)) :=
  have p1 : RowsAt H (as.take k) (rows.take k) := prs_take k h
  have p3 : RowsAt H (as.drop (k + 1)) (rows.drop (k + 1)) := prs_drop (k + 1) h
  prs_app (prs_app p1 (.cons hb .nil)) p3
def spChanged (K : PySem.W.Frag) : Sp := fun vs H Q _ => ∃ (d L t rs : Addr) (ps : List Nat) (rows : List (List Int)) (as : List Addr) (m : Nat), vs = [.ref d, .ref t, .ref rs] ∧ TextAt H t rs ps rows as ∧ ps.length ≤ 20 ∧ m ≤ 30 ∧ (∀ r ∈ rows, r.length ≤ m) ∧ 3 ≤ m ∧ LS K L d H ∧
  ∀ (st t' rs' : Addr) (ps' : List Nat) (rows' : List (List Int)) (as' : List Addr) (H' : Hp), H' st = some (.tup [.ref t', .ref rs']) → TextAt H' t' rs' ps' rows' as' → ps'.length ≤ ps.length + 1 → (∀ r ∈ rows', r.length ≤ m + 2) → Keep d H H' → LS K L d H' → Q (.ref st) H'
theorem ok_changed (T : Txt K mg) (D_l_changed : DF K mg "_law_changed" s_l_changed ps_l_changed) (F_l_take : FC P w K mg base 2 "_law_take" ps_l_take (spTake K)) (F_l_key : FC P w K mg base 3 "_law_key" ps_l_key (spKey K)) (F_l_row : FC P w K mg base 4 "_law_row" ps_l_row (spRow K)) : FC P w K mg base 5 "_law_changed" ps_l_changed (spChanged K) := by
  refine D_l_changed.ok sc_l_changed (fun vs H Q E h => ?_) (fun f cdv A outer s H vs Q E hr h => ?_)
  · obtain ⟨d, L, t, rs, ps, rows, as, m, rfl, _⟩ := h
    rfl
  obtain ⟨d, L, t, rs, ps, rows, as, m, rfl, X, hp2, hm3, hrm, h3m, hs, q⟩ := h
  have hlen := X.len
  have hal := X.at_.length
  have ndT : ∀ {H' : Hp} {p : Addr} {o : List V}, LS K L d H' → H' p = some (.tup o) → p ≠ d := fun s hp z => by
    obtain ⟨_, _, _, e, _⟩ := s.ex
    rw [← z, hp] at e
    cases e
  refine ⟨_, (pss_cons (ps_set (i := 3) sc_l_changed.nd rfl (Or.inl rfl) (pe_fc F_l_take hr (pa_cons (pv 0) (pa_cons pe_int pa_nil))))
      (pss_cons (ps_set (i := 4) sc_l_changed.nd rfl (Or.inl rfl) (pe_fc F_l_take hr (pa_cons (pv 0) (pa_cons (pe_callB call_len_seq rfl T.m_len boot_len (pa_cons (pv 1) pa_nil)) pa_nil))))
      (pss_cons (ps_set (i := 5) sc_l_changed.nd rfl (Or.inl rfl) (pe_ix ix_tup (pv 2) (pv 4) (fun _ _ => rfl)))
      (pss_join (ps_if (pt_cmpR op_eq (pv 3) pe_int (nomark _)) (pss_one (ps_set (i := 5) sc_l_changed.nd rfl (Or.inl rfl) (pe_callTy call_tuple_of rfl T.m_tuple boot_tuple (pa_cons (pe_callB (call_sortW rfl) rfl T.m_sorted boot_sorted (pa_cons (pe_callTy (call_setWT rfl) rfl T.m_set boot_set (pa_cons (pe_op op_catX (pv 5) (pe_tup (pa_cons (pe_fc F_l_key hr (pa_cons (pv 0) pa_nil)) (pa_cons (pe_op op_sub (pe_op op_pow pe_int pe_int) pe_int) pa_nil)))) pa_nil)) pa_nil)) pa_nil)))) pss_nil)
      (pss_join (ps_if (pt_cmpR op_eq (pv 3) pe_int (nomark _)) (pss_one (ps_set (i := 5) sc_l_changed.nd rfl (Or.inl rfl) (pe_slice sl_tupX (pv 5) (po_some pe_int) po_none))) pss_nil)
      (pss_join (ps_if (pt_cmpR op_eq (pv 3) pe_int (nomark _)) (pss_one (ps_set (i := 5) sc_l_changed.nd rfl (Or.inl rfl) (pe_slice sl_tupX (pv 5) po_none (po_some (pe_un un_neg pe_int))))) pss_nil)
      (pss_cons (ps_set (i := 2) sc_l_changed.nd rfl (Or.inl rfl) (pe_op op_catT (pe_op op_catX (pe_slice sl_tupX (pv 2) po_none (po_some (pv 4))) (pe_tup (pa_cons (pv 5) pa_nil))) (pe_slice sl_tupX (pv 2) (po_some (pe_op op_add (pv 4) pe_int)) po_none)))
      (pss_join (ps_if (pt_cmpR op_eq (pv 3) pe_int (nomark _)) (pss_one (ps_ret (pe_tup (pa_cons (pe_op op_catX (pv 1) (pe_tup (pa_cons (pv 4) pa_nil))) (pa_cons (pe_op op_catX (pv 2) (pe_tup (pa_cons (pe_fc F_l_row hr (pa_cons (pv 0) (pa_cons pe_int pa_nil))) pa_nil))) pa_nil))))) pss_nil)
      (pss_join (ps_if (pt_cmpR op_eq (pv 3) pe_int (nomark _)) (pss_one (ps_ret (pe_tup (pa_cons (pe_op op_catT (pe_slice sl_tupX (pv 1) po_none (po_some pe_int)) (pe_callTy call_tuple_of rfl T.m_tuple boot_tuple (pa_cons (pe_comp (N := ["_law_k", "_law_state"]) (own := 1) (cap := [0]) rfl (pi_range2 rfl T.m_range (pa_cons pe_int (pa_cons (pe_callB call_len_seq rfl T.m_len boot_len (pa_cons (pv 1) pa_nil)) pa_nil))) ⟨rfl, rfl, rfl, rfl, rfl, rfl⟩ (fun _ _ _ _ _ => (pg_name (i := 0) (show List.Nodup (["_law_k", "_law_state"] : List Str) by decide +kernel) rfl (Or.inl rfl))) (fun _ _ _ _ _ => pts_nil) (fun _ _ _ _ _ => (pe_fc F_l_take hr (pa_cons (pv 1) (pa_cons (pv 0) pa_nil))))) pa_nil))) (pa_cons (pv 2) pa_nil))))) pss_nil)
      (pss_one (ps_ret (pe_tup (pa_cons (pv 1) (pa_cons (pv 2) pa_nil)))))))))))))), ?_⟩
  refine ⟨_, rfl, d, L, 5, rfl, by decide, hs, fun wy H1 wy0 wy1 k1 s1 => ?_⟩
  have KT1 : ∀ {A1 A2 : Hp}, LS K L d A1 → Keep d A1 A2 → TextAt A1 t rs ps rows as → TextAt A2 t rs ps rows as := fun s k x => ⟨k _ _ (ndT s x.tr) x.tr, k _ _ (ndT s x.rs) x.rs, (by
    have go : ∀ {as : List Addr} {rows : List (List Int)}, RowsAt _ as rows → RowsAt _ as rows := fun {as rows} h => RowsAt.keep (p := d) (d := d) (fun a row e => ndT s e) k h
    exact go x.at_), x.len, x.T, x.R, x.few, x.short⟩
  have X1 := KT1 hs k1 X
  refine ⟨_, rfl, _, rfl, _, _, rfl, .inr (SqT.of X1.tr), d, L, _, rfl, by rw [treeV_length]; (first | lia | omega), s1, fun v H2 v0 v1 k2 s2 => ?_⟩
  rw [treeV_length] at v1
  obtain ⟨k, rfl⟩ := nat_ex v0
  have hk : k < ps.length + 1 := by (first | lia | omega)
  have X2 := KT1 s1 k2 X1
  have k02 := k1.trans k2
  obtain ⟨b, hb1, hb2⟩ := X2.at_.get (k := k) (by (first | lia | omega))
  refine ⟨_, rfl, _, rfl, _, _, _, _, rfl, rfl, SqT.of X2.rs, at_ref hb1, ?_⟩
  have hrk := X2.row hk
  have hrkm := hrm _ (rowAt_mem (rows := rows) (k := k) (by (first | lia | omega)))
  have hupk := X2.R.at_up k
  refine ⟨fun σ' H' => ∃ (b' : Addr) (row : List Int), σ' = [some (.ref d), some (.ref t), some (.ref rs), some (.int wy), some (.int k), some (.ref b')] ∧ H' b' = some (.tup (row.map V.int)) ∧ row.Pairwise (· < ·) ∧ (∀ x ∈ row, KeyW x) ∧ row.length ≤ m + 2 ∧ TextAt H' t rs ps rows as ∧ Keep d H H' ∧ LS K L d H', ?_, ?_⟩
  · refine ⟨_, rfl, rfl, _, rfl, ?_⟩
    refine ite2 (fun _ => ?_) (fun _ => ?_)
    · refine ⟨_, rfl, _, rfl, d, L, rfl, s2, fun key H3 kl kh k3 s3 => ?_⟩
      have X3 := KT1 s2 k3 X2
      have hb3 := k3 _ _ (ndT s2 hb2) hb2
      refine ⟨_, _, rfl, rfl, ⟨by decide, by decide, by decide⟩, _, _, rfl, rfl, (by show 2 ≤ sizeLine; decide), fun tp htp => ?_⟩
      have g4 := same_new htp (.tup [V.int key, V.int ((10 : Int) ^ (60 : Int).toNat - 4)])
      have w4 : upd H3 tp (.tup [V.int key, V.int ((10 : Int) ^ (60 : Int).toNat - 4)]) tp = some (.tup ([key, (10 : Int) ^ (60 : Int).toNat - 4].map V.int)) := upd_same
      generalize upd H3 tp (.tup [V.int key, V.int ((10 : Int) ^ (60 : Int).toNat - 4)]) = H4 at g4 w4 ⊢
      refine catX_any (g4 _ _ hb3) w4 (by simp) (by rw [List.length_map, List.length_map]; show _ + 2 ≤ 1000; (first | lia | omega)) fun c H5 s5 hc => ?_
      rw [← List.map_append] at hc
      refine ⟨c, _, rfl, SqT.of hc, by rw [List.length_append]; show _ + 2 ≤ 4000; (first | lia | omega), fun sl o hsl hW => ?_⟩
      refine ⟨sl, o, _, _, rfl, upd_same, hW, fun l hl => ?_⟩
      refine ⟨l, _, rfl, .inl ⟨SqL.of upd_same, fun tq htq => ?_⟩⟩
      obtain ⟨n1, n2, n3⟩ := metI_nd (rowAt rows k ++ [key, (10 : Int) ^ (60 : Int).toNat - 4])
      rw [List.length_append] at n3
      refine ⟨tq, _, rfl, upd_same, ?_, fun x hx => ?_, ?_, X3.same (g4.trans (s5.trans ((same_new hsl _).trans ((same_new hl _).trans (same_new htq _))))), fun b o n e => (g4.trans (s5.trans ((same_new hsl _).trans ((same_new hl _).trans (same_new htq _))))) _ _ (k3 _ _ n (k02 _ _ n e)), s3.same (g4.trans (s5.trans ((same_new hsl _).trans ((same_new hl _).trans (same_new htq _)))))⟩
      · exact (sortD_rise n1).imp fun {x y} h => of_decide_eq_true h
      · rcases List.mem_append.mp (n2 x (sortD_mem.mp hx)) with h | h
        · exact hrk.2 x h
        · rcases List.mem_cons.mp h with rfl | h
          · exact ⟨kl, kh⟩
          · rw [List.mem_singleton.mp h]
            unfold KeyW
            decide
      · rw [sortD_length]
        have : ([key, (10 : Int) ^ (60 : Int).toNat - 4] : List Int).length = 2 := rfl
        (first | lia | omega)
    · exact ⟨b, rowAt rows k, rfl, hb2, hupk, hrk.2, by (first | lia | omega), X2, k02, s2⟩
  have cut : ∀ {A1 : Hp} {b' : Addr} {row : List Int} {lo hi : Option Int} {R : V → Hp → Prop}, A1 b' = some (.tup (row.map V.int)) → row.Pairwise (· < ·) → (∀ x ∈ row, KeyW x) → row.length ≤ m + 2 → TextAt A1 t rs ps rows as → Keep d H A1 → LS K L d A1 → (∀ (p : Addr) (r : List Int) (A2 : Hp), A2 p = some (.tup (r.map V.int)) → r.Pairwise (· < ·) → (∀ x ∈ r, KeyW x) → r.length ≤ m + 2 → TextAt A2 t rs ps rows as → Keep d H A2 → LS K L d A2 → R (.ref p) A2) → rSlX K (.ref b') lo hi A1 R := fun {A1 b' row lo hi R} hb hup hkw hl x kk ss hR => by
    refine slX_gen hb fun p A2 sA hp => ?_
    obtain ⟨r, e, hsub⟩ := cut_ints row lo hi
    rw [e] at hp
    exact hR p r A2 hp (hup.sublist hsub) (fun x hx => hkw x (hsub.subset hx)) (Nat.le_trans hsub.length_le hl) (x.same sA) (fun b o n e => sA _ _ (kk _ _ n e)) (ss.same sA)
  have cutLo : ∀ {σ : L2.St} {A1 : Hp} {b' : Addr} {row : List Int} {lo : Option Int} {R : V → Hp → Prop}, A1 b' = some (.tup (row.map V.int)) → row.Pairwise (· < ·) → (∀ x ∈ row, KeyW x) → row.length ≤ m + 2 → TextAt A1 t rs ps rows as → Keep d H A1 → LS K L d A1 → (∀ (p : Addr) (r : List Int) (A2 : Hp), A2 p = some (.tup (r.map V.int)) → r.Pairwise (· < ·) → (∀ x ∈ r, KeyW x) → r.length ≤ m + 2 → TextAt A2 t rs ps rows as → Keep d H A2 → LS K L d A2 → R (.ref p) A2) → tNoPart σ A1 fun u H3 => rSlX K (.ref b') lo u H3 R := fun h1 h2 h3 h4 h5 h6 h7 h8 => cut (hi := none) h1 h2 h3 h4 h5 h6 h7 h8
  rintro σ' A1 ⟨b1, r1, rfl, hb1', hu1, hkw1, hl1, XA1, kA1, sA1⟩
  refine ⟨fun σ' H' => ∃ (b' : Addr) (row : List Int), σ' = [some (.ref d), some (.ref t), some (.ref rs), some (.int wy), some (.int k), some (.ref b')] ∧ H' b' = some (.tup (row.map V.int)) ∧ row.Pairwise (· < ·) ∧ (∀ x ∈ row, KeyW x) ∧ row.length ≤ m + 2 ∧ TextAt H' t rs ps rows as ∧ Keep d H H' ∧ LS K L d H', ?_, ?_⟩
  · refine ⟨_, rfl, rfl, _, rfl, ?_⟩
    refine ite2 (fun _ => ?_) (fun _ => ?_)
    · refine ⟨_, rfl, 1, rfl, ?_⟩
      refine cutLo hb1' hu1 hkw1 hl1 XA1 kA1 sA1 fun p r A2 a1 a2 a3 a4 a5 a6 a7 => ?_
      exact ⟨p, r, rfl, a1, a2, a3, a4, a5, a6, a7⟩
    · exact ⟨b1, r1, rfl, hb1', hu1, hkw1, hl1, XA1, kA1, sA1⟩
  rintro σ' A2 ⟨b2, r2, rfl, hb2', hu2, hkw2, hl2, XA2, kA2, sA2⟩
  refine ⟨fun σ' H' => ∃ (b' : Addr) (row : List Int), σ' = [some (.ref d), some (.ref t), some (.ref rs), some (.int wy), some (.int k), some (.ref b')] ∧ H' b' = some (.tup (row.map V.int)) ∧ row.Pairwise (· < ·) ∧ (∀ x ∈ row, KeyW x) ∧ row.length ≤ m + 2 ∧ TextAt H' t rs ps rows as ∧ Keep d H H' ∧ LS K L d H', ?_, ?_⟩
  · refine ⟨_, rfl, rfl, _, rfl, ?_⟩
    refine ite2 (fun _ => ?_) (fun _ => ?_)
    · refine ⟨_, rfl, _, rfl, _, rfl, ?_⟩
      refine cut hb2' hu2 hkw2 hl2 XA2 kA2 sA2 fun p r A2 a1 a2 a3 a4 a5 a6 a7 => ?_
      exact ⟨p, r, rfl, a1, a2, a3, a4, a5, a6, a7⟩
    · exact ⟨b2, r2, rfl, hb2', hu2, hkw2, hl2, XA2, kA2, sA2⟩
  rintro σ' A3 ⟨b3, r3, rfl, hb3', hu3, hkw3, hl3, XA3, kA3, sA3⟩
  refine ⟨_, rfl, _, rfl, _, rfl, ?_⟩
  refine slX_gen XA3.rs fun p1 A4 sA4 hp1 => ?_
  rw [cutV_to, ← List.map_take] at hp1
  refine ⟨_, rfl, (by show 1 ≤ sizeLine; decide), fun p2 hp2 => ?_⟩
  have g5 := same_new hp2 (.tup [V.ref b3])
  have w5 : upd A4 p2 (.tup [V.ref b3]) p2 = some (.tup [V.ref b3]) := upd_same
  generalize upd A4 p2 (.tup [V.ref b3]) = A5 at g5 w5 ⊢
  refine catX_any (g5 _ _ hp1) w5 (by simp) (by rw [List.length_map, List.length_take]; show _ + 1 ≤ 1000; (first | lia | omega)) fun p3 A6 sA6 hp3 => ?_
  have s36 := sA4.trans (g5.trans sA6)
  refine ⟨_, rfl, _, rfl, _, _, rfl, rfl, _, rfl, ?_⟩
  refine slX_lo (s36 _ _ XA3.rs) fun p4 A7 sA7 hp4 => ?_
  rw [show (k : Int) + 1 = ((k + 1 : Nat) : Int) by (first | lia | omega), cutV_from, ← List.map_drop] at hp4
  refine catT_any (sA7 _ _ hp3) hp4 (by simp) (by rw [List.length_append, List.length_map, List.length_map, List.length_take, List.length_drop]; show _ + 1 + _ ≤ 1000; (first | lia | omega)) fun p5 A8 sA8 hp5 => ?_
  have s38 := s36.trans (sA7.trans sA8)
  have hp5 : A8 p5 = some (.tup ((as.take k ++ [b3] ++ as.drop (k + 1)).map V.ref)) := by
    rw [hp5, List.map_append, List.map_append]
    rfl
  have R8 : RowsAt A8 (as.take k ++ [b3] ++ as.drop (k + 1)) (rows.take k ++ [r3] ++ rows.drop (k + 1)) := set_rowsAt (XA3.at_.ext s38) (s38 _ _ hb3') (by (first | lia | omega))
  have hmem : ∀ r ∈ rows.take k ++ [r3] ++ rows.drop (k + 1), r.Pairwise (· < ·) ∧ (∀ x ∈ r, KeyW x) ∧ r.length ≤ m + 2 := fun r hr => by
    have old : r ∈ rows → r.Pairwise (· < ·) ∧ (∀ x ∈ r, KeyW x) ∧ r.length ≤ m + 2 := fun h => ⟨X.R.up r h, fun x hx => X.R.key r h x hx, Nat.le_trans (hrm r h) (by (first | lia | omega))⟩
    rcases List.mem_append.mp hr with h | h
    · rcases List.mem_append.mp h with h | h
      · exact old (List.mem_of_mem_take h)
      · rw [List.mem_singleton.mp h]
        exact ⟨hu3, hkw3, hl3⟩
    · exact old (List.mem_of_mem_drop h)
  have hl8 : (rows.take k ++ [r3] ++ rows.drop (k + 1)).length = ps.length + 1 := by
    rw [List.length_append, List.length_append, List.length_take, List.length_drop, List.length_singleton]
    (first | lia | omega)
  have kA8 : Keep d H A8 := fun b o n e => s38 _ _ (kA3 _ _ n e)
  have sA8' := sA3.same s38
  have ht8 := s38 _ _ XA3.tr
  generalize as.take k ++ [b3] ++ as.drop (k + 1) = as8 at hp5 R8
  generalize rows.take k ++ [r3] ++ rows.drop (k + 1) = rows8 at R8 hmem hl8
  have fin : ∀ {A9 : Hp} {st t' rs' : Addr} {ps' : List Nat} {rows' : List (List Int)} {as' : List Addr}, A9 st = some (.tup [.ref t', .ref rs']) → A9 t' = some (.tup (treeV ps')) → A9 rs' = some (.tup (as'.map V.ref)) → RowsAt A9 as' rows' → rows'.length = ps'.length + 1 → TreeOk ps' → ps'.length ≤ ps.length + 1 → (∀ r ∈ rows', r.Pairwise (· < ·) ∧ (∀ x ∈ r, KeyW x) ∧ r.length ≤ m + 2) → Keep d H A9 → LS K L d A9 → Q (.ref st) A9 := fun h1 h2 h3 h4 h5 h6 h7 h8 h9 h10 => q _ _ _ _ _ _ _ h1 ⟨h2, h3, h4, h5, h6, ⟨fun r hr => (h8 r hr).1, fun r hr => (h8 r hr).2.1⟩, by (first | lia | omega), fun r hr => Nat.le_trans (h8 r hr).2.2 (by (first | lia | omega))⟩ h7 (fun r hr => (h8 r hr).2.2) h9 h10
  refine ⟨fun σ' H' => σ' = [some (.ref d), some (.ref t), some (.ref p5), some (.int wy), some (.int k), some (.ref b3)] ∧ A8 = H', ?_, ?_⟩
  · refine ⟨_, rfl, rfl, _, rfl, ?_⟩
    refine ite2 (fun _ => ?_) (fun _ => ?_)
    · refine ⟨_, rfl, _, rfl, (by show 1 ≤ sizeLine; decide), fun p6 hp6 => ?_⟩
      have g9 := same_new hp6 (.tup [V.int (k : Int)])
      have w9 : upd A8 p6 (.tup [V.int (k : Int)]) p6 = some (.tup [V.int (k : Int)]) := upd_same
      generalize upd A8 p6 (.tup [V.int (k : Int)]) = A9 at g9 w9 ⊢
      refine catX_any (g9 _ _ ht8) w9 (by simp) (by rw [treeV_length]; show _ + 1 ≤ 1000; (first | lia | omega)) fun t9 B1 sB1 ht9 => ?_
      have s81 := g9.trans sB1
      have c1 := sA8'.same s81
      have et : treeV ps ++ [V.int (k : Int)] = treeV (ps ++ [k]) := by
        show V.non :: ps.map nV ++ [nV k] = V.non :: (ps ++ [k]).map nV
        rw [List.map_append]
        rfl
      rw [et] at ht9
      refine ⟨_, rfl, _, rfl, d, L, 3, rfl, by decide, c1, fun ra row B2 _ hup hkw hl hra k2' c2 => ?_⟩
      refine ⟨(by show 1 ≤ sizeLine; decide), fun p7 hp7 => ?_⟩
      have g3 := same_new hp7 (.tup [V.ref ra])
      have w3 : upd B2 p7 (.tup [V.ref ra]) p7 = some (.tup ([ra].map V.ref)) := upd_same
      generalize upd B2 p7 (.tup [V.ref ra]) = B3 at g3 w3 ⊢
      have hp5' := k2' _ _ (ndT c1 (s81 _ _ hp5)) (s81 _ _ hp5)
      have ht9' := k2' _ _ (ndT c1 ht9) ht9
      have R2 : RowsAt B2 as8 rows8 := RowsAt.keep (p := d) (d := d) (fun a row e => ndT c1 e) k2' (R8.ext s81)
      have hl8' := R8.length
      refine catX_any (g3 _ _ hp5') w3 (by simp) (by rw [List.length_map]; show _ + 1 ≤ 1000; (first | lia | omega)) fun r9 B4 sB4 hr9 => ?_
      rw [← List.map_append] at hr9
      refine ⟨(by show 2 ≤ sizeLine; decide), fun st9 hst9 => ?_⟩
      have g5 := same_new hst9 (.tup [.ref t9, .ref r9])
      have s25 := g3.trans (sB4.trans g5)
      refine fin upd_same (s25 _ _ ht9') (g5 _ _ hr9) (RowsAt.snoc (R2.ext s25) (s25 _ _ hra)) (by rw [List.length_append, List.length_append, hl8]; rfl) (tree_snoc X.T (by (first | lia | omega))) (by rw [List.length_append]; exact Nat.le_refl _) (fun r hr => ?_) (fun b o n e => s25 _ _ (k2' _ _ n (s81 _ _ (kA8 _ _ n e)))) (c2.same s25)
      rcases List.mem_append.mp hr with h | h
      · exact hmem r h
      · rw [List.mem_singleton.mp h]
        exact ⟨hup, hkw, by (first | lia | omega)⟩
    · exact ⟨rfl, rfl⟩
  rintro σ' H' ⟨rfl, rfl⟩
  refine ⟨fun σ' H' => σ' = [some (.ref d), some (.ref t), some (.ref p5), some (.int wy), some (.int k), some (.ref b3)] ∧ A8 = H', ?_, ?_⟩
  · refine ⟨_, rfl, rfl, _, rfl, ?_⟩
    refine ite2 (fun _ => ?_) (fun _ => ?_)
    · refine ⟨_, rfl, 1, rfl, ?_⟩
      refine slX_any (n := 1) ht8 fun t1 B1 sB1 ht1 => ?_
      rw [treeV_take] at ht1
      have c1 := sA8'.same sB1
      have ht1' := sB1 _ _ ht8
      refine ⟨_, rfl, _, _, rfl, .inr (SqT.of ht1'), 1, _, rfl, ⟨by (first | lia | omega), by (first | lia | omega), by rw [treeV_length]; (first | lia | omega), by rw [treeV_length]; (first | lia | omega)⟩, fun D hD => ?_⟩
      have en : ((((treeV ps).length : Nat) : Int) - 1).toNat = ps.length := by rw [treeV_length]; (first | lia | omega)
      rw [en]
      have hDd : D ≠ d := fun z => by
        obtain ⟨_, _, _, e2, _⟩ := c1.ex
        rw [← z, hD] at e2
        cases e2
      refine comp_range (n := ps.length) (fun i σ B2 => ∃ (x0 : Option V) (us : List Nat), σ = [x0, some (.ref d)] ∧ B2 D = some (.lst (us.map nV)) ∧ us.length = i ∧ TreeOk us ∧ (∀ b o, b ≠ d → b ≠ D → B1 b = some o → B2 b = some o) ∧ LS K L d B2) ?_ ?_ ?_
      · exact ⟨_, [], rfl, upd_same, rfl, fun i h => absurd h (Nat.not_lt_zero _), fun b o _ n e => by rw [upd_ne n]; exact e, c1.of_new hD _⟩
      · rintro i mm σ B2 hmm hi ⟨x0, us, rfl, hB2, hul, hT2, kB2, cB2⟩
        have e1 : (1 : Int) + (i : Int) = ((i + 1 : Nat) : Int) := by (first | lia | omega)
        rw [e1]
        refine iteYes ?_
        refine ⟨_, rfl, _, rfl, d, L, _, rfl, by (first | lia | omega), cB2, fun v B3 v0 v1 k3 c3 => ?_⟩
        obtain ⟨u, rfl⟩ := nat_ex v0
        refine ⟨_, k3 _ _ hDd hB2, small1000 (by rw [List.length_map]; (first | lia | omega)), mm - 1, by (first | lia | omega), by (first | lia | omega), _, us ++ [u], rfl, ?_, by rw [List.length_append, List.length_singleton, hul], tree_snoc hT2 (by (first | lia | omega)), fun b o n1 n2 e => by rw [upd_ne n2]; exact k3 _ _ n1 (kB2 _ _ n1 n2 e), LS.put c1 hD (fun b o n1 n2 e => k3 _ _ n1 (kB2 _ _ n1 n2 e)) c3⟩
        rw [upd_same, List.map_append]
        rfl
      rintro σ B2 ⟨x0, us, rfl, hB2, hul, hT2, kB2, cB2⟩
      have nD : ∀ {b : Addr} {o : HO}, B1 b = some o → b ≠ D := fun e => ne_of_none e hD
      refine ⟨D, _, rfl, .inl ⟨SqL.of hB2, fun tq htq => ?_⟩⟩
      have g3 := same_new htq (.tup (us.map nV))
      have w3 : upd B2 tq (.tup (us.map nV)) tq = some (.tup (us.map nV)) := upd_same
      generalize upd B2 tq (.tup (us.map nV)) = B3 at g3 w3 ⊢
      have kp : ∀ b o, b ≠ d → B1 b = some o → B3 b = some o := fun b o n e => g3 _ _ (kB2 _ _ n (nD e) e)
      refine catT_any (kp _ _ (ndT c1 ht1) ht1) w3 (by show treeV _ ≠ []; exact List.cons_ne_nil _ _) (by rw [treeV_length, List.length_map, List.length_take]; (first | lia | omega)) fun t4 B4 sB4 ht4 => ?_
      have et : treeV (ps.take 0) ++ us.map nV = treeV us := rfl
      rw [et] at ht4
      refine ⟨_, rfl, (by show 2 ≤ sizeLine; decide), fun st9 hst9 => ?_⟩
      have g5 := same_new hst9 (.tup [.ref t4, .ref p5])
      have s35 := sB4.trans g5
      have hp5' := s35 _ _ (kp _ _ (ndT c1 (sB1 _ _ hp5)) (sB1 _ _ hp5))
      have R5 : RowsAt B3 as8 rows8 := RowsAt.keep (p := d) (d := d) (fun a row e => ndT c1 e) kp (R8.ext sB1)
      exact fin upd_same (g5 _ _ ht4) hp5' (R5.ext s35) (by rw [hl8, hul]) hT2 (by (first | lia | omega)) hmem (fun b o n e => s35 _ _ (kp _ _ n (sB1 _ _ (kA8 _ _ n e)))) ((cB2.same g3).same s35)
    · exact ⟨rfl, rfl⟩
  rintro σ' H' ⟨rfl, rfl⟩
  refine ⟨_, rfl, _, rfl, (by show 2 ≤ sizeLine; decide), fun st9 hst9 => ?_⟩
  have g9 := same_new hst9 (.tup [.ref t, .ref p5])
  exact fin upd_same (g9 _ _ ht8) (g9 _ _ hp5) (R8.ext g9) hl8 X.T (by (first | lia | omega)) hmem (fun b o n e => g9 _ _ (kA8 _ _ n e)) (sA8'.same g9)
set_option maxHeartbeats 1000000 in
theorem ok_law (T : Txt K mg) (D_law : DF K mg "law" s_law ps_law) (F_l_begin : FC P w K mg base 1 "_law_begin" ps_l_begin (spBegin K)) (F_l_stand : FC P w K mg base 6 "_law_stand" ps_l_stand (spLStand6 K)) (F_l_line : FC P w K mg base 1 "_law_line" ps_l_line (spLine K)) (F_show_stand : FC P w K mg base 2 "show_stand" ps_show_stand (spShow K)) (F_read_stand : FC P w K mg base 5 "read_stand" ps_read_stand (spRead K)) (F_l_right : FC P w K mg base 1 "_law_right" ps_l_right (spRight K)) (F_l_changed : FC P w K mg base 5 "_law_changed" ps_l_changed (spChanged K)) : FC P w K mg base 7 "law" ps_law (spLaw K) := by
  refine D_law.ok sc_law (fun vs H Q E h => ?_) (fun f cdv A outer s H vs Q E hr h => ?_)
  · obtain ⟨a, ns, rfl, _⟩ := h
    rfl
  obtain ⟨a, ns, rfl, hS, _, q⟩ := h
  refine ⟨_, (pss_cons (ps_set (i := 1) sc_law.nd rfl (Or.inl rfl) (pe_fc F_l_begin hr (pa_cons (pv 0) pa_nil)))
      (pss_cons (ps_set (i := 2) sc_law.nd rfl (Or.inl rfl) (pe_fc F_l_stand hr (pa_cons (pv 1) (pa_cons pe_int (pa_cons pe_int pa_nil)))))
      (pss_cons (ps_for PassesOwn.never rfl (pi_range1 rfl T.m_range (pa_cons pe_int pa_nil)) (pg_name (i := 3) sc_law.nd rfl (Or.inl rfl)) (pss_cons (ps_set (i := 4) sc_law.nd rfl (Or.inl rfl) (pe_bm F.plainAttrs_str F.slot_str_join F.type_str_join mt_join pe_str (pa_cons (pe_comp (N := ["_law_parent", "_law_row_here"]) (own := 2) (cap := []) rfl (pi_zipT rfl T.m_zip (pa_cons (pe_ix ix_tup (pv 2) pe_int (fun _ _ => rfl)) (pa_cons (pe_ix ix_tup (pv 2) pe_int (fun _ _ => rfl)) pa_nil))) ⟨rfl, rfl, rfl, rfl, rfl, rfl⟩ (fun _ _ _ _ _ => (pg_tupC (K := K) (n := 2) rfl (pgs_cons (pg_name (i := 0) (show List.Nodup (["_law_parent", "_law_row_here"] : List Str) by decide +kernel) rfl (Or.inl rfl)) (pgs_cons (pg_name (i := 1) (show List.Nodup (["_law_parent", "_law_row_here"] : List Str) by decide +kernel) rfl (Or.inl rfl)) pgs_nil)))) (fun _ _ _ _ _ => pts_nil) (fun _ _ _ _ _ => (pe_fc F_l_line hr (pa_cons (pv 0) (pa_cons (pv 1) pa_nil))))) pa_nil)))
      (pss_join (ps_if (PW.pt (pw_or (pt_not (pt_val (pe_fc F_l_right hr (pa_cons (pe_fc F_read_stand hr (pa_cons (pv 4) pa_nil)) (pa_cons (pv 2) pa_nil))))) (pw_or1 (pt_cmpR op_ne (pe_fc F_show_stand hr (pa_cons (pe_fc F_read_stand hr (pa_cons (pv 4) pa_nil)) pa_nil)) (pv 4) (nomark _))))) (pss_one (ps_ret pe_bl)) pss_nil)
      (pss_one (ps_set (i := 2) sc_law.nd rfl (Or.inl rfl) (pe_fc F_l_changed hr (pa_cons (pv 1) (pa_cons (pe_ix ix_tup (pv 2) pe_int (fun _ _ => rfl)) (pa_cons (pe_ix ix_tup (pv 2) pe_int (fun _ _ => rfl)) pa_nil)))))))))
      (pss_one (ps_ret pe_bl))))), ?_⟩
  refine ⟨_, rfl, a, ns, rfl, hS, fun d H1 _ g1 s1 => ?_⟩
  refine ⟨_, rfl, d, a, 7, 5, rfl, by decide, by decide, s1, fun st t rs ps rows as H2 hst X hl9 hr7 k2 s2 => ?_⟩
  refine ⟨5, rfl, by decide, by decide, ?_⟩
  refine for_range (n := 5) (fun i σ B => ∃ (st t rs : Addr) (ps : List Nat) (rows : List (List Int)) (as : List Addr) (x3 x4 : Option V), σ = [some (.ref a), some (.ref d), some (.ref st), x3, x4] ∧ B st = some (.tup [.ref t, .ref rs]) ∧ TextAt B t rs ps rows as ∧ ps.length ≤ 6 + i ∧ (∀ r ∈ rows, r.length ≤ 5 + 2 * i) ∧ LS K a d B) ?_ ?_ ?_
  · exact ⟨st, t, rs, ps, rows, as, _, _, rfl, hst, X, by (first | lia | omega), hr7, s2⟩
  · clear hst X hl9 hr7 k2 s2 st t rs ps rows as
    rintro i σ B hi ⟨st, t, rs, ps, rows, as, x3, x4, rfl, hst, X, hpl, hrl, cB⟩
    have hal := X.at_.length
    have hlen := X.len
    have hkk : keysN rows ≤ 300 := by
      have h1 := keys_le (m := 5 + 2 * i) hrl
      have h2 : rows.length * (5 + 2 * i) ≤ 11 * 13 := Nat.mul_le_mul (by (first | lia | omega)) (by (first | lia | omega))
      (first | lia | omega)
    refine ⟨rfl, ?_⟩
    refine ⟨_, rfl, _, _, _, _, rfl, rfl, SqT.of hst, rfl, _, rfl, _, _, _, _, rfl, rfl, SqT.of hst, rfl, t, rs, rfl, ⟨_, SqT.of X.tr⟩, ⟨_, SqT.of X.rs⟩, fun D hD => ?_⟩
    refine comp_zipT (xs := treeV ps) (ys := as.map V.ref) (by rw [treeV_length, List.length_map]; (first | lia | omega)) (fun i σ H2 => ∃ x0 x1 : Option V, σ = [x0, x1] ∧ H2 D = some (.lst ((linesT ps rows i).map V.str)) ∧ But D B H2) ?_ ?_ ?_ ?_
    · exact ⟨_, _, rfl, upd_same, fun b o n e => by rw [upd_ne n]; exact e⟩
    · rintro i σ H2 _ ⟨x0, x1, rfl, _, k2⟩
      exact ⟨SqT.of (k2 _ _ (ne_of_none X.tr hD) X.tr), SqT.of (k2 _ _ (ne_of_none X.rs hD) X.rs)⟩
    · rintro i m x y σ H2 r hx hy hm ⟨x0, x1, rfl, h2, k2⟩ hr0
      have hi : i < ps.length + 1 := by
        have := (List.getElem?_eq_some_iff.mp hx).1
        rw [treeV_length] at this
        exact this
      rw [optV_par hi] at hx
      cases hx
      obtain ⟨b, hb1, hb2⟩ := X.at_.get (k := i) (by (first | lia | omega))
      rw [List.getElem?_map, hb1] at hy
      cases hy
      have gr := same_new hr0 (.tup [optV (par ps i), V.ref b])
      have wr : upd H2 r (.tup [optV (par ps i), V.ref b]) r = some (.tup [optV (par ps i), V.ref b]) := upd_same
      generalize upd H2 r (.tup [optV (par ps i), V.ref b]) = H3 at gr wr ⊢
      have s03 : Same B H3 := fun b o e => gr _ _ (k2 b o (ne_of_none e hD) e)
      have hrow := X.row hi
      refine ⟨r, _, rfl, SqT.of wr, rfl, _, _, rfl, _, _, rfl, rfl, ?_⟩
      refine tYes_ok (iteT ?_)
      refine ⟨_, rfl, _, rfl, par ps i, b, rowAt rows i, rfl, s03 _ _ hb2, X.par, by (first | lia | omega), hrow.2, fun H4 s34 => ?_⟩
      rw [treeV_length] at hm
      refine ⟨_, s34 _ _ (gr _ _ h2), small1000 (by rw [List.length_map, linesT_len]; (first | lia | omega)), m - 1, by (first | lia | omega), by rw [treeV_length]; (first | lia | omega), _, _, rfl, ?_, fun b o n e => by rw [upd_ne n]; exact s34 _ _ (gr _ _ (k2 b o n e))⟩
      rw [upd_same, linesT_succ, List.map_append]
      rfl
    rintro σ B1 ⟨x0, x1, rfl, h1, k1⟩
    rw [treeV_length] at h1
    have sB1 : Same B B1 := fun b o e => k1 b o (ne_of_none e hD) e
    have X1 := X.same sB1
    have hst1 := sB1 _ _ hst
    refine ⟨"\n", D, _, rfl, rfl, SqL.of h1, lines_ok X, ?_⟩
    refine ⟨fun σ' H' => σ' = [some (.ref a), some (.ref d), some (.ref st), some (.int (0 + i)), some (.str (textT ps rows))] ∧ Same B1 H', ?_, ?_⟩
    · refine ⟨_, rfl, t, rs, ps, rows, as, rfl, X1, by (first | lia | omega), hkk, fun u tu ru bu B2 s12 Su => ?_⟩
      refine ⟨_, rfl, u, st, t, rs, tu, ru, ps, rows, as, bu, rfl, Su, s12 _ _ hst1, X1.same s12, fun B3 s23 => ⟨_, rfl, ?_⟩⟩
      refine iteF ?_
      have s13 := s12.trans s23
      refine ⟨_, rfl, t, rs, ps, rows, as, rfl, X1.same s13, by (first | lia | omega), hkk, fun v tv rv bv B4 s34 Sv => ?_⟩
      refine ⟨v, tv, rv, ps, rows, bv, rfl, Sv.st, ⟨Sv.tr, Sv.rs, Sv.at_, Sv.len, Sv.T, Sv.R, Sv.few, X.short⟩, fun B5 s45 => ?_⟩
      refine ⟨_, rfl, rfl, _, rfl, ?_⟩
      refine iteNS rfl ?_
      exact ⟨rfl, s13.trans (s34.trans s45)⟩
    rintro σ' B2 ⟨rfl, s12⟩
    have sB2 := sB1.trans s12
    have hst2 := sB2 _ _ hst
    refine ⟨_, rfl, _, rfl, _, _, _, _, rfl, rfl, SqT.of hst2, rfl, _, rfl, _, _, _, _, rfl, rfl, SqT.of hst2, rfl, d, a, t, rs, ps, rows, as, 5 + 2 * i, rfl, X.same sB2, by (first | lia | omega), by (first | lia | omega), hrl, by (first | lia | omega), cB.same sB2, fun st' t' rs' ps' rows' as' B3 e1 e2 e3 e4 _ c3 => ?_⟩
    exact ⟨st', t', rs', ps', rows', as', _, _, rfl, e1, e2, by (first | lia | omega), fun r hr => Nat.le_trans (e4 r hr) (by (first | lia | omega)), c3⟩
  rintro σ B ⟨st, t, rs, ps, rows, as, x3, x4, rfl, hst, X, hpl, hrl, cB⟩
  exact q B
abbrev lawRoom : Nat := 7
theorem all_ok (T : Txt K mg) (D_is_whole : DF K mg "is_whole" s_is_whole ps_is_whole) (D_is_key : DF K mg "is_key" s_is_key ps_is_key) (D_is_one_of_first : DF K mg "is_one_of_first" s_is_one_of_first ps_is_one_of_first) (D_tree_of : DF K mg "tree_of" s_tree_of ps_tree_of) (D_row_of : DF K mg "row_of" s_row_of ps_row_of) (D_long_together : DF K mg "long_together" s_long_together ps_long_together) (D_stand_of : DF K mg "stand_of" s_stand_of ps_stand_of) (D_line_of : DF K mg "line_of" s_line_of ps_line_of) (D_show_stand : DF K mg "show_stand" s_show_stand ps_show_stand) (D_number_in : DF K mg "number_in" s_number_in ps_number_in) (D_is_head : DF K mg "is_head" s_is_head ps_is_head) (D_rises : DF K mg "rises" s_rises ps_rises) (D_read_stand : DF K mg "read_stand" s_read_stand ps_read_stand) (D_l_begin : DF K mg "_law_begin" s_l_begin ps_l_begin) (D_l_mixed : DF K mg "_law_mixed" s_l_mixed ps_l_mixed) (D_l_take : DF K mg "_law_take" s_l_take ps_l_take) (D_l_key : DF K mg "_law_key" s_l_key ps_l_key) (D_l_tree : DF K mg "_law_tree" s_l_tree ps_l_tree) (D_l_row : DF K mg "_law_row" s_l_row ps_l_row) (D_l_rows : DF K mg "_law_rows" s_l_rows ps_l_rows) (D_l_stand : DF K mg "_law_stand" s_l_stand ps_l_stand) (D_l_line : DF K mg "_law_line" s_l_line ps_l_line) (D_l_changed : DF K mg "_law_changed" s_l_changed ps_l_changed) (D_l_right : DF K mg "_law_right" s_l_right ps_l_right) (D_law : DF K mg "law" s_law ps_law) : FC P w K mg base 7 "law" ps_law (spLaw K) :=
  have m := ok_mixed (P := P) (w := w) (base := base) T D_l_mixed
  have t := ok_take T D_l_take m
  have ky := ok_key T D_l_key t
  have rw_ := ok_lrow T D_l_row t ky
  have wh := ok_whole (P := P) (w := w) (base := base) T D_is_whole
  have fi := ok_first T D_is_one_of_first wh
  have ni := ok_numIn (P := P) (w := w) (base := base) T D_number_in
  have ik := ok_isKey T D_is_key wh
  have lo := ok_long (P := P) (w := w) (base := base) T D_long_together
  ok_law T D_law (ok_begin T D_l_begin) (ok_lstand6 T D_l_stand (ok_ltree T D_l_tree t) (ok_lrows T D_l_rows t rw_)) (ok_lline T D_l_line) (ok_show T D_show_stand (ok_line T D_line_of)) (ok_read T D_read_stand ni (ok_head T D_is_head fi ni) (ok_rises T D_rises ik) lo (ok_treeOfL T D_tree_of fi) (ok_standOfQ T D_stand_of (ok_rowOfQ T D_row_of ik) lo)) (ok_right T D_l_right) (ok_changed T D_l_changed t ky rw_)
end
theorem all_mk {l : PySem.W.OpenLaw} {w : World} {K : PySem.W.Frag} {h : Heap} {mg : Str → Option Value} {fa f1 f2 f3 f4 f5 f6 f7 f8 f9 f10 f11 f12 f13 f14 f15 f16 f17 f18 f19 f20 f21 f22 f23 f24 f25  : Addr} (X : K.In h) (G : h.Ns mainGlobals mg) (hfa : mg "law" = some (.ref fa))
    {od1 an1 od2 an2 od3 an3 od4 an4 od5 an5 od6 an6 od7 an7 od8 an8 od9 an9 od10 an10 od11 an11 od12 an12 od13 an13 od14 an14 od15 an15 od16 an16 od17 an17 od18 an18 od19 an19 od20 an20 od21 an21 od22 an22 od23 an23 od24 an24 od25 an25 : Option Addr} {sl1 sl2 sl3 sl4 sl5 sl6 sl7 sl8 sl9 sl10 sl11 sl12 sl13 sl14 sl15 sl16 sl17 sl18 sl19 sl20 sl21 sl22 sl23 sl24 sl25 : Array (Option Value)} {oc1 kV1 dc1 pm1 cd1 ct1 oc2 kV2 dc2 pm2 cd2 ct2 oc3 kV3 dc3 pm3 cd3 ct3 oc4 kV4 dc4 pm4 cd4 ct4 oc5 kV5 dc5 pm5 cd5 ct5 oc6 kV6 dc6 pm6 cd6 ct6 oc7 kV7 dc7 pm7 cd7 ct7 oc8 kV8 dc8 pm8 cd8 ct8 oc9 kV9 dc9 pm9 cd9 ct9 oc10 kV10 dc10 pm10 cd10 ct10 oc11 kV11 dc11 pm11 cd11 ct11 oc12 kV12 dc12 pm12 cd12 ct12 oc13 kV13 dc13 pm13 cd13 ct13 oc14 kV14 dc14 pm14 cd14 ct14 oc15 kV15 dc15 pm15 cd15 ct15 oc16 kV16 dc16 pm16 cd16 ct16 oc17 kV17 dc17 pm17 cd17 ct17 oc18 kV18 dc18 pm18 cd18 ct18 oc19 kV19 dc19 pm19 cd19 ct19 oc20 kV20 dc20 pm20 cd20 ct20 oc21 kV21 dc21 pm21 cd21 ct21 oc22 kV22 dc22 pm22 cd22 ct22 oc23 kV23 dc23 pm23 cd23 ct23 oc24 kV24 dc24 pm24 cd24 ct24 oc25 kV25 dc25 pm25 cd25 ct25 : Value} {t_MOST_KNOTS : Tok} {t_MOST_KEYS : Tok}
    (a1 : PySem.W.nsIn K mainGlobals "is_whole" = some (some (.ref f1))) (l1 : K.lookup f1 = some ⟨oc1, od1, .func (PySem.W.fnOf "is_whole" "is_whole" (defArgs s_is_whole) (defBody s_is_whole) (defScope s_is_whole) .none kV1 dc1 pm1 an1 cd1 ct1), sl1⟩) (c1 : PySem.W.codeIn K cd1 "is_whole" = true) (k1 : PySem.W.keepIn K (.ref f1) = true)
    (a2 : PySem.W.nsIn K mainGlobals "is_key" = some (some (.ref f2))) (l2 : K.lookup f2 = some ⟨oc2, od2, .func (PySem.W.fnOf "is_key" "is_key" (defArgs s_is_key) (defBody s_is_key) (defScope s_is_key) .none kV2 dc2 pm2 an2 cd2 ct2), sl2⟩) (c2 : PySem.W.codeIn K cd2 "is_key" = true) (k2 : PySem.W.keepIn K (.ref f2) = true)
    (a3 : PySem.W.nsIn K mainGlobals "is_one_of_first" = some (some (.ref f3))) (l3 : K.lookup f3 = some ⟨oc3, od3, .func (PySem.W.fnOf "is_one_of_first" "is_one_of_first" (defArgs s_is_one_of_first) (defBody s_is_one_of_first) (defScope s_is_one_of_first) .none kV3 dc3 pm3 an3 cd3 ct3), sl3⟩) (c3 : PySem.W.codeIn K cd3 "is_one_of_first" = true) (k3 : PySem.W.keepIn K (.ref f3) = true)
    (a4 : PySem.W.nsIn K mainGlobals "tree_of" = some (some (.ref f4))) (l4 : K.lookup f4 = some ⟨oc4, od4, .func (PySem.W.fnOf "tree_of" "tree_of" (defArgs s_tree_of) (defBody s_tree_of) (defScope s_tree_of) .none kV4 dc4 pm4 an4 cd4 ct4), sl4⟩) (c4 : PySem.W.codeIn K cd4 "tree_of" = true) (k4 : PySem.W.keepIn K (.ref f4) = true)
    (a5 : PySem.W.nsIn K mainGlobals "row_of" = some (some (.ref f5))) (l5 : K.lookup f5 = some ⟨oc5, od5, .func (PySem.W.fnOf "row_of" "row_of" (defArgs s_row_of) (defBody s_row_of) (defScope s_row_of) .none kV5 dc5 pm5 an5 cd5 ct5), sl5⟩) (c5 : PySem.W.codeIn K cd5 "row_of" = true) (k5 : PySem.W.keepIn K (.ref f5) = true)
    (a6 : PySem.W.nsIn K mainGlobals "long_together" = some (some (.ref f6))) (l6 : K.lookup f6 = some ⟨oc6, od6, .func (PySem.W.fnOf "long_together" "long_together" (defArgs s_long_together) (defBody s_long_together) (defScope s_long_together) .none kV6 dc6 pm6 an6 cd6 ct6), sl6⟩) (c6 : PySem.W.codeIn K cd6 "long_together" = true) (k6 : PySem.W.keepIn K (.ref f6) = true)
    (a7 : PySem.W.nsIn K mainGlobals "stand_of" = some (some (.ref f7))) (l7 : K.lookup f7 = some ⟨oc7, od7, .func (PySem.W.fnOf "stand_of" "stand_of" (defArgs s_stand_of) (defBody s_stand_of) (defScope s_stand_of) .none kV7 dc7 pm7 an7 cd7 ct7), sl7⟩) (c7 : PySem.W.codeIn K cd7 "stand_of" = true) (k7 : PySem.W.keepIn K (.ref f7) = true)
    (a8 : PySem.W.nsIn K mainGlobals "line_of" = some (some (.ref f8))) (l8 : K.lookup f8 = some ⟨oc8, od8, .func (PySem.W.fnOf "line_of" "line_of" (defArgs s_line_of) (defBody s_line_of) (defScope s_line_of) .none kV8 dc8 pm8 an8 cd8 ct8), sl8⟩) (c8 : PySem.W.codeIn K cd8 "line_of" = true) (k8 : PySem.W.keepIn K (.ref f8) = true)
    (a9 : PySem.W.nsIn K mainGlobals "show_stand" = some (some (.ref f9))) (l9 : K.lookup f9 = some ⟨oc9, od9, .func (PySem.W.fnOf "show_stand" "show_stand" (defArgs s_show_stand) (defBody s_show_stand) (defScope s_show_stand) .none kV9 dc9 pm9 an9 cd9 ct9), sl9⟩) (c9 : PySem.W.codeIn K cd9 "show_stand" = true) (k9 : PySem.W.keepIn K (.ref f9) = true)
    (a10 : PySem.W.nsIn K mainGlobals "number_in" = some (some (.ref f10))) (l10 : K.lookup f10 = some ⟨oc10, od10, .func (PySem.W.fnOf "number_in" "number_in" (defArgs s_number_in) (defBody s_number_in) (defScope s_number_in) .none kV10 dc10 pm10 an10 cd10 ct10), sl10⟩) (c10 : PySem.W.codeIn K cd10 "number_in" = true) (k10 : PySem.W.keepIn K (.ref f10) = true)
    (a11 : PySem.W.nsIn K mainGlobals "is_head" = some (some (.ref f11))) (l11 : K.lookup f11 = some ⟨oc11, od11, .func (PySem.W.fnOf "is_head" "is_head" (defArgs s_is_head) (defBody s_is_head) (defScope s_is_head) .none kV11 dc11 pm11 an11 cd11 ct11), sl11⟩) (c11 : PySem.W.codeIn K cd11 "is_head" = true) (k11 : PySem.W.keepIn K (.ref f11) = true)
    (a12 : PySem.W.nsIn K mainGlobals "rises" = some (some (.ref f12))) (l12 : K.lookup f12 = some ⟨oc12, od12, .func (PySem.W.fnOf "rises" "rises" (defArgs s_rises) (defBody s_rises) (defScope s_rises) .none kV12 dc12 pm12 an12 cd12 ct12), sl12⟩) (c12 : PySem.W.codeIn K cd12 "rises" = true) (k12 : PySem.W.keepIn K (.ref f12) = true)
    (a13 : PySem.W.nsIn K mainGlobals "read_stand" = some (some (.ref f13))) (l13 : K.lookup f13 = some ⟨oc13, od13, .func (PySem.W.fnOf "read_stand" "read_stand" (defArgs s_read_stand) (defBody s_read_stand) (defScope s_read_stand) .none kV13 dc13 pm13 an13 cd13 ct13), sl13⟩) (c13 : PySem.W.codeIn K cd13 "read_stand" = true) (k13 : PySem.W.keepIn K (.ref f13) = true)
    (a14 : PySem.W.nsIn K mainGlobals "_law_begin" = some (some (.ref f14))) (l14 : K.lookup f14 = some ⟨oc14, od14, .func (PySem.W.fnOf "_law_begin" "_law_begin" (defArgs s_l_begin) (defBody s_l_begin) (defScope s_l_begin) .none kV14 dc14 pm14 an14 cd14 ct14), sl14⟩) (c14 : PySem.W.codeIn K cd14 "_law_begin" = true) (k14 : PySem.W.keepIn K (.ref f14) = true)
    (a15 : PySem.W.nsIn K mainGlobals "_law_mixed" = some (some (.ref f15))) (l15 : K.lookup f15 = some ⟨oc15, od15, .func (PySem.W.fnOf "_law_mixed" "_law_mixed" (defArgs s_l_mixed) (defBody s_l_mixed) (defScope s_l_mixed) .none kV15 dc15 pm15 an15 cd15 ct15), sl15⟩) (c15 : PySem.W.codeIn K cd15 "_law_mixed" = true) (k15 : PySem.W.keepIn K (.ref f15) = true)
    (a16 : PySem.W.nsIn K mainGlobals "_law_take" = some (some (.ref f16))) (l16 : K.lookup f16 = some ⟨oc16, od16, .func (PySem.W.fnOf "_law_take" "_law_take" (defArgs s_l_take) (defBody s_l_take) (defScope s_l_take) .none kV16 dc16 pm16 an16 cd16 ct16), sl16⟩) (c16 : PySem.W.codeIn K cd16 "_law_take" = true) (k16 : PySem.W.keepIn K (.ref f16) = true)
    (a17 : PySem.W.nsIn K mainGlobals "_law_key" = some (some (.ref f17))) (l17 : K.lookup f17 = some ⟨oc17, od17, .func (PySem.W.fnOf "_law_key" "_law_key" (defArgs s_l_key) (defBody s_l_key) (defScope s_l_key) .none kV17 dc17 pm17 an17 cd17 ct17), sl17⟩) (c17 : PySem.W.codeIn K cd17 "_law_key" = true) (k17 : PySem.W.keepIn K (.ref f17) = true)
    (a18 : PySem.W.nsIn K mainGlobals "_law_tree" = some (some (.ref f18))) (l18 : K.lookup f18 = some ⟨oc18, od18, .func (PySem.W.fnOf "_law_tree" "_law_tree" (defArgs s_l_tree) (defBody s_l_tree) (defScope s_l_tree) .none kV18 dc18 pm18 an18 cd18 ct18), sl18⟩) (c18 : PySem.W.codeIn K cd18 "_law_tree" = true) (k18 : PySem.W.keepIn K (.ref f18) = true)
    (a19 : PySem.W.nsIn K mainGlobals "_law_row" = some (some (.ref f19))) (l19 : K.lookup f19 = some ⟨oc19, od19, .func (PySem.W.fnOf "_law_row" "_law_row" (defArgs s_l_row) (defBody s_l_row) (defScope s_l_row) .none kV19 dc19 pm19 an19 cd19 ct19), sl19⟩) (c19 : PySem.W.codeIn K cd19 "_law_row" = true) (k19 : PySem.W.keepIn K (.ref f19) = true)
    (a20 : PySem.W.nsIn K mainGlobals "_law_rows" = some (some (.ref f20))) (l20 : K.lookup f20 = some ⟨oc20, od20, .func (PySem.W.fnOf "_law_rows" "_law_rows" (defArgs s_l_rows) (defBody s_l_rows) (defScope s_l_rows) .none kV20 dc20 pm20 an20 cd20 ct20), sl20⟩) (c20 : PySem.W.codeIn K cd20 "_law_rows" = true) (k20 : PySem.W.keepIn K (.ref f20) = true)
    (a21 : PySem.W.nsIn K mainGlobals "_law_stand" = some (some (.ref f21))) (l21 : K.lookup f21 = some ⟨oc21, od21, .func (PySem.W.fnOf "_law_stand" "_law_stand" (defArgs s_l_stand) (defBody s_l_stand) (defScope s_l_stand) .none kV21 dc21 pm21 an21 cd21 ct21), sl21⟩) (c21 : PySem.W.codeIn K cd21 "_law_stand" = true) (k21 : PySem.W.keepIn K (.ref f21) = true)
    (a22 : PySem.W.nsIn K mainGlobals "_law_line" = some (some (.ref f22))) (l22 : K.lookup f22 = some ⟨oc22, od22, .func (PySem.W.fnOf "_law_line" "_law_line" (defArgs s_l_line) (defBody s_l_line) (defScope s_l_line) .none kV22 dc22 pm22 an22 cd22 ct22), sl22⟩) (c22 : PySem.W.codeIn K cd22 "_law_line" = true) (k22 : PySem.W.keepIn K (.ref f22) = true)
    (a23 : PySem.W.nsIn K mainGlobals "_law_changed" = some (some (.ref f23))) (l23 : K.lookup f23 = some ⟨oc23, od23, .func (PySem.W.fnOf "_law_changed" "_law_changed" (defArgs s_l_changed) (defBody s_l_changed) (defScope s_l_changed) .none kV23 dc23 pm23 an23 cd23 ct23), sl23⟩) (c23 : PySem.W.codeIn K cd23 "_law_changed" = true) (k23 : PySem.W.keepIn K (.ref f23) = true)
    (a24 : PySem.W.nsIn K mainGlobals "_law_right" = some (some (.ref f24))) (l24 : K.lookup f24 = some ⟨oc24, od24, .func (PySem.W.fnOf "_law_right" "_law_right" (defArgs s_l_right) (defBody s_l_right) (defScope s_l_right) .none kV24 dc24 pm24 an24 cd24 ct24), sl24⟩) (c24 : PySem.W.codeIn K cd24 "_law_right" = true) (k24 : PySem.W.keepIn K (.ref f24) = true)
    (a25 : PySem.W.nsIn K mainGlobals "law" = some (some (.ref f25))) (l25 : K.lookup f25 = some ⟨oc25, od25, .func (PySem.W.fnOf "law" "law" (defArgs s_law) (defBody s_law) (defScope s_law) .none kV25 dc25 pm25 an25 cd25 ct25), sl25⟩) (c25 : PySem.W.codeIn K cd25 "law" = true) (k25 : PySem.W.keepIn K (.ref f25) = true)
    (z_abs : PySem.W.nsIn K mainGlobals "abs" = some none)
    (z_all : PySem.W.nsIn K mainGlobals "all" = some none)
    (z_bool : PySem.W.nsIn K mainGlobals "bool" = some none)
    (z_enumerate : PySem.W.nsIn K mainGlobals "enumerate" = some none)
    (z_int : PySem.W.nsIn K mainGlobals "int" = some none)
    (z_isinstance : PySem.W.nsIn K mainGlobals "isinstance" = some none)
    (z_len : PySem.W.nsIn K mainGlobals "len" = some none)
    (z_list : PySem.W.nsIn K mainGlobals "list" = some none)
    (z_max : PySem.W.nsIn K mainGlobals "max" = some none)
    (z_range : PySem.W.nsIn K mainGlobals "range" = some none)
    (z_set : PySem.W.nsIn K mainGlobals "set" = some none)
    (z_sorted : PySem.W.nsIn K mainGlobals "sorted" = some none)
    (z_str : PySem.W.nsIn K mainGlobals "str" = some none)
    (z_sum : PySem.W.nsIn K mainGlobals "sum" = some none)
    (z_tuple : PySem.W.nsIn K mainGlobals "tuple" = some none)
    (z_zip : PySem.W.nsIn K mainGlobals "zip" = some none)
    (y_MOST_KNOTS : PySem.W.nsIn K mainGlobals "MOST_KNOTS" = some (some (.int 40 t_MOST_KNOTS)))
    (y_MOST_KEYS : PySem.W.nsIn K mainGlobals "MOST_KEYS" = some (some (.int 300 t_MOST_KEYS))) :
    ∃ fd : FuncData, (∀ (s : Shared) (v : Value), BindsTo s fd ⟨[v], []⟩ [("_law_script", v)]) ∧ ∀ base : Heap, K.In base → base.Ns mainGlobals mg →  FnOk l.prog w K mg base CX0 lawRoom fa fd ["_law_script"] (spLaw K) := by
  have e := hfa.symm.trans (PySem.W.mg_of X G a25)
  cases e
  have D_is_whole : DF K mg "is_whole" s_is_whole ps_is_whole := ⟨_, _, fun_mk (st := s_is_whole) l1 c1 k1, (fun_mk (st := s_is_whole) l1 c1 k1).binds (ps := ps_is_whole) (fun _ _ _ _ _ _ us hl => match us, hl with | [_], _ => rfl), PySem.W.mg_of X G a1⟩
  have D_is_key : DF K mg "is_key" s_is_key ps_is_key := ⟨_, _, fun_mk (st := s_is_key) l2 c2 k2, (fun_mk (st := s_is_key) l2 c2 k2).binds (ps := ps_is_key) (fun _ _ _ _ _ _ us hl => match us, hl with | [_], _ => rfl), PySem.W.mg_of X G a2⟩
  have D_is_one_of_first : DF K mg "is_one_of_first" s_is_one_of_first ps_is_one_of_first := ⟨_, _, fun_mk (st := s_is_one_of_first) l3 c3 k3, (fun_mk (st := s_is_one_of_first) l3 c3 k3).binds (ps := ps_is_one_of_first) (fun _ _ _ _ _ _ us hl => match us, hl with | [_, _], _ => rfl), PySem.W.mg_of X G a3⟩
  have D_tree_of : DF K mg "tree_of" s_tree_of ps_tree_of := ⟨_, _, fun_mk (st := s_tree_of) l4 c4 k4, (fun_mk (st := s_tree_of) l4 c4 k4).binds (ps := ps_tree_of) (fun _ _ _ _ _ _ us hl => match us, hl with | [_], _ => rfl), PySem.W.mg_of X G a4⟩
  have D_row_of : DF K mg "row_of" s_row_of ps_row_of := ⟨_, _, fun_mk (st := s_row_of) l5 c5 k5, (fun_mk (st := s_row_of) l5 c5 k5).binds (ps := ps_row_of) (fun _ _ _ _ _ _ us hl => match us, hl with | [_], _ => rfl), PySem.W.mg_of X G a5⟩
  have D_long_together : DF K mg "long_together" s_long_together ps_long_together := ⟨_, _, fun_mk (st := s_long_together) l6 c6 k6, (fun_mk (st := s_long_together) l6 c6 k6).binds (ps := ps_long_together) (fun _ _ _ _ _ _ us hl => match us, hl with | [_], _ => rfl), PySem.W.mg_of X G a6⟩
  have D_stand_of : DF K mg "stand_of" s_stand_of ps_stand_of := ⟨_, _, fun_mk (st := s_stand_of) l7 c7 k7, (fun_mk (st := s_stand_of) l7 c7 k7).binds (ps := ps_stand_of) (fun _ _ _ _ _ _ us hl => match us, hl with | [_, _], _ => rfl), PySem.W.mg_of X G a7⟩
  have D_line_of : DF K mg "line_of" s_line_of ps_line_of := ⟨_, _, fun_mk (st := s_line_of) l8 c8 k8, (fun_mk (st := s_line_of) l8 c8 k8).binds (ps := ps_line_of) (fun _ _ _ _ _ _ us hl => match us, hl with | [_, _], _ => rfl), PySem.W.mg_of X G a8⟩
  have D_show_stand : DF K mg "show_stand" s_show_stand ps_show_stand := ⟨_, _, fun_mk (st := s_show_stand) l9 c9 k9, (fun_mk (st := s_show_stand) l9 c9 k9).binds (ps := ps_show_stand) (fun _ _ _ _ _ _ us hl => match us, hl with | [_], _ => rfl), PySem.W.mg_of X G a9⟩
  have D_number_in : DF K mg "number_in" s_number_in ps_number_in := ⟨_, _, fun_mk (st := s_number_in) l10 c10 k10, (fun_mk (st := s_number_in) l10 c10 k10).binds (ps := ps_number_in) (fun _ _ _ _ _ _ us hl => match us, hl with | [_], _ => rfl), PySem.W.mg_of X G a10⟩
  have D_is_head : DF K mg "is_head" s_is_head ps_is_head := ⟨_, _, fun_mk (st := s_is_head) l11 c11 k11, (fun_mk (st := s_is_head) l11 c11 k11).binds (ps := ps_is_head) (fun _ _ _ _ _ _ us hl => match us, hl with | [_, _], _ => rfl), PySem.W.mg_of X G a11⟩
  have D_rises : DF K mg "rises" s_rises ps_rises := ⟨_, _, fun_mk (st := s_rises) l12 c12 k12, (fun_mk (st := s_rises) l12 c12 k12).binds (ps := ps_rises) (fun _ _ _ _ _ _ us hl => match us, hl with | [_], _ => rfl), PySem.W.mg_of X G a12⟩
  have D_read_stand : DF K mg "read_stand" s_read_stand ps_read_stand := ⟨_, _, fun_mk (st := s_read_stand) l13 c13 k13, (fun_mk (st := s_read_stand) l13 c13 k13).binds (ps := ps_read_stand) (fun _ _ _ _ _ _ us hl => match us, hl with | [_], _ => rfl), PySem.W.mg_of X G a13⟩
  have D_l_begin : DF K mg "_law_begin" s_l_begin ps_l_begin := ⟨_, _, fun_mk (st := s_l_begin) l14 c14 k14, (fun_mk (st := s_l_begin) l14 c14 k14).binds (ps := ps_l_begin) (fun _ _ _ _ _ _ us hl => match us, hl with | [_], _ => rfl), PySem.W.mg_of X G a14⟩
  have D_l_mixed : DF K mg "_law_mixed" s_l_mixed ps_l_mixed := ⟨_, _, fun_mk (st := s_l_mixed) l15 c15 k15, (fun_mk (st := s_l_mixed) l15 c15 k15).binds (ps := ps_l_mixed) (fun _ _ _ _ _ _ us hl => match us, hl with | [_, _], _ => rfl), PySem.W.mg_of X G a15⟩
  have D_l_take : DF K mg "_law_take" s_l_take ps_l_take := ⟨_, _, fun_mk (st := s_l_take) l16 c16 k16, (fun_mk (st := s_l_take) l16 c16 k16).binds (ps := ps_l_take) (fun _ _ _ _ _ _ us hl => match us, hl with | [_, _], _ => rfl), PySem.W.mg_of X G a16⟩
  have D_l_key : DF K mg "_law_key" s_l_key ps_l_key := ⟨_, _, fun_mk (st := s_l_key) l17 c17 k17, (fun_mk (st := s_l_key) l17 c17 k17).binds (ps := ps_l_key) (fun _ _ _ _ _ _ us hl => match us, hl with | [_], _ => rfl), PySem.W.mg_of X G a17⟩
  have D_l_tree : DF K mg "_law_tree" s_l_tree ps_l_tree := ⟨_, _, fun_mk (st := s_l_tree) l18 c18 k18, (fun_mk (st := s_l_tree) l18 c18 k18).binds (ps := ps_l_tree) (fun _ _ _ _ _ _ us hl => match us, hl with | [_, _], _ => rfl), PySem.W.mg_of X G a18⟩
  have D_l_row : DF K mg "_law_row" s_l_row ps_l_row := ⟨_, _, fun_mk (st := s_l_row) l19 c19 k19, (fun_mk (st := s_l_row) l19 c19 k19).binds (ps := ps_l_row) (fun _ _ _ _ _ _ us hl => match us, hl with | [_, _], _ => rfl), PySem.W.mg_of X G a19⟩
  have D_l_rows : DF K mg "_law_rows" s_l_rows ps_l_rows := ⟨_, _, fun_mk (st := s_l_rows) l20 c20 k20, (fun_mk (st := s_l_rows) l20 c20 k20).binds (ps := ps_l_rows) (fun _ _ _ _ _ _ us hl => match us, hl with | [_, _, _], _ => rfl), PySem.W.mg_of X G a20⟩
  have D_l_stand : DF K mg "_law_stand" s_l_stand ps_l_stand := ⟨_, _, fun_mk (st := s_l_stand) l21 c21 k21, (fun_mk (st := s_l_stand) l21 c21 k21).binds (ps := ps_l_stand) (fun _ _ _ _ _ _ us hl => match us, hl with | [_, _, _], _ => rfl), PySem.W.mg_of X G a21⟩
  have D_l_line : DF K mg "_law_line" s_l_line ps_l_line := ⟨_, _, fun_mk (st := s_l_line) l22 c22 k22, (fun_mk (st := s_l_line) l22 c22 k22).binds (ps := ps_l_line) (fun _ _ _ _ _ _ us hl => match us, hl with | [_, _], _ => rfl), PySem.W.mg_of X G a22⟩
  have D_l_changed : DF K mg "_law_changed" s_l_changed ps_l_changed := ⟨_, _, fun_mk (st := s_l_changed) l23 c23 k23, (fun_mk (st := s_l_changed) l23 c23 k23).binds (ps := ps_l_changed) (fun _ _ _ _ _ _ us hl => match us, hl with | [_, _, _], _ => rfl), PySem.W.mg_of X G a23⟩
  have D_l_right : DF K mg "_law_right" s_l_right ps_l_right := ⟨_, _, fun_mk (st := s_l_right) l24 c24 k24, (fun_mk (st := s_l_right) l24 c24 k24).binds (ps := ps_l_right) (fun _ _ _ _ _ _ us hl => match us, hl with | [_, _], _ => rfl), PySem.W.mg_of X G a24⟩
  have D_law : DF K mg "law" s_law ps_law := ⟨_, _, fun_mk (st := s_law) l25 c25 k25, (fun_mk (st := s_law) l25 c25 k25).binds (ps := ps_law) (fun _ _ _ _ _ _ us hl => match us, hl with | [_], _ => rfl), PySem.W.mg_of X G a25⟩
  have T : Txt K mg := ⟨PySem.W.mg_none_of X G z_abs, PySem.W.mg_none_of X G z_all, PySem.W.mg_none_of X G z_bool, PySem.W.mg_none_of X G z_enumerate, PySem.W.mg_none_of X G z_int, PySem.W.mg_none_of X G z_isinstance, PySem.W.mg_none_of X G z_len, PySem.W.mg_none_of X G z_list, PySem.W.mg_none_of X G z_max, PySem.W.mg_none_of X G z_range, PySem.W.mg_none_of X G z_set, PySem.W.mg_none_of X G z_sorted, PySem.W.mg_none_of X G z_str, PySem.W.mg_none_of X G z_sum, PySem.W.mg_none_of X G z_tuple, PySem.W.mg_none_of X G z_zip, ⟨_, PySem.W.mg_of X G y_MOST_KNOTS⟩, ⟨_, PySem.W.mg_of X G y_MOST_KEYS⟩⟩
  refine ⟨PySem.W.fnOf "law" "law" (defArgs s_law) (defBody s_law) (defScope s_law) .none kV25 dc25 pm25 an25 cd25 ct25, fun s v => .of_eq rfl, fun base _ _ => ?_⟩
  exact (all_ok (P := l.prog) (w := w) (base := base) T D_is_whole D_is_key D_is_one_of_first D_tree_of D_row_of D_long_together D_stand_of D_line_of D_show_stand D_number_in D_is_head D_rises D_read_stand D_l_begin D_l_mixed D_l_take D_l_key D_l_tree D_l_row D_l_rows D_l_stand D_l_line D_l_changed D_l_right D_law).at (PySem.W.mg_of X G a25) l25
theorem walk {l : PySem.W.OpenLaw} {q : Program} {loose : List Str} {XP : (Str → Option Value) → Heap → Prop} {YP : World → Heap → Prop} {d : DefRec} {K : Params → PySem.W.Frag} (hn : l.most = some 63) (hdf : d.params.defaults = [])
    (hY : ∀ (w : World) (h : Heap), YP w h → (K w.params).In h)
    (F : ∀ (w : World) (mg : Str → Option Value) (fa : Addr) (h : Heap), (K w.params).In h → h.Ns mainGlobals mg → mg d.name = some (.ref fa) →
      ∃ fd : FuncData, (∀ (s : Shared) (u : Value), BindsTo s fd ⟨[u], []⟩ [("_law_script", u)]) ∧ ∀ base : Heap, (K w.params).In base → base.Ns mainGlobals mg → FnOk l.prog w (K w.params) mg base CX0 lawRoom fa fd ["_law_script"] (spLaw (K w.params))) :
    PySem.W.WalkO q loose XP YP l.row.toRowW d [] (fun f vs => PySem.call f vs) :=
  L2.walk_of (n := 63) (k := lawRoom) (x := "_law_script") (CX := fun _ => CX0) (sp := fun w => spLaw (K w.params)) hn (by decide) hdf ⟨rfl, by decide, by decide, rfl⟩ hY F (fun _ _ a ns hl _ hS => ⟨a, ns, rfl, hS, hl, fun _ => rfl⟩) fun _ _ _ _ _ z => z
end My
open PySem PySem.W PyProof.Rows
def PySem.W.Fast.tw14771595551346198760 : Nat := 0
def PySem.W.Fast.tw4175168277576976458 : Nat := 0
def PySem.W.Fast.tw9143468491836224006 : Nat := 0
def PySem.W.Fast.tw3936286962715472749 : Nat := 0
def PySem.W.Fast.tw17050712017525507747 : Nat := 0
def PySem.W.Fast.tw17317188917289185698 : Nat := 0
def PySem.W.Fast.tw14031303025014810083 : Nat := 0
def PySem.W.Fast.tw7814421460905288789 : Nat := 0
set_option maxRecDepth 100000 in
set_option maxHeartbeats 0 in
theorem PySem.Challenge.cw_bridgefind_k57_stands_read_holds : PySem.Challenge.rw_bridgefind_k57_stands_read.Holds := by
  w_on; o_law; k_head; (case hw => w_witness2)
  k_fill
  refine My.walk (l := PySem.Challenge.rw_bridgefind_k57_stands_read) rfl rfl (fun w h Y => PySem.W.kIn_of Y) ?F
  case F =>
    intro w mg fa h KX G hmg
    refine' My.all_mk KX G hmg ?a1 ?l1 ?c1 ?k1 ?a2 ?l2 ?c2 ?k2 ?a3 ?l3 ?c3 ?k3 ?a4 ?l4 ?c4 ?k4 ?a5 ?l5 ?c5 ?k5 ?a6 ?l6 ?c6 ?k6 ?a7 ?l7 ?c7 ?k7 ?a8 ?l8 ?c8 ?k8 ?a9 ?l9 ?c9 ?k9 ?a10 ?l10 ?c10 ?k10 ?a11 ?l11 ?c11 ?k11 ?a12 ?l12 ?c12 ?k12 ?a13 ?l13 ?c13 ?k13 ?a14 ?l14 ?c14 ?k14 ?a15 ?l15 ?c15 ?k15 ?a16 ?l16 ?c16 ?k16 ?a17 ?l17 ?c17 ?k17 ?a18 ?l18 ?c18 ?k18 ?a19 ?l19 ?c19 ?k19 ?a20 ?l20 ?c20 ?k20 ?a21 ?l21 ?c21 ?k21 ?a22 ?l22 ?c22 ?k22 ?a23 ?l23 ?c23 ?k23 ?a24 ?l24 ?c24 ?k24 ?a25 ?l25 ?c25 ?k25 ?z_abs ?z_all ?z_bool ?z_enumerate ?z_int ?z_isinstance ?z_len ?z_list ?z_max ?z_range ?z_set ?z_sorted ?z_str ?z_sum ?z_tuple ?z_zip ?y_MOST_KNOTS ?y_MOST_KEYS
    (case a1 => k_is)
    (case l1 => k_is)
    (case c1 => k_is)
    (case k1 => k_is)
    (case a2 => k_is)
    (case l2 => k_is)
    (case c2 => k_is)
    (case k2 => k_is)
    (case a3 => k_is)
    (case l3 => k_is)
    (case c3 => k_is)
    (case k3 => k_is)
    (case a4 => k_is)
    (case l4 => k_is)
    (case c4 => k_is)
    (case k4 => k_is)
    (case a5 => k_is)
    (case l5 => k_is)
    (case c5 => k_is)
    (case k5 => k_is)
    (case a6 => k_is)
    (case l6 => k_is)
    (case c6 => k_is)
    (case k6 => k_is)
    (case a7 => k_is)
    (case l7 => k_is)
    (case c7 => k_is)
    (case k7 => k_is)
    (case a8 => k_is)
    (case l8 => k_is)
    (case c8 => k_is)
    (case k8 => k_is)
    (case a9 => k_is)
    (case l9 => k_is)
    (case c9 => k_is)
    (case k9 => k_is)
    (case a10 => k_is)
    (case l10 => k_is)
    (case c10 => k_is)
    (case k10 => k_is)
    (case a11 => k_is)
    (case l11 => k_is)
    (case c11 => k_is)
    (case k11 => k_is)
    (case a12 => k_is)
    (case l12 => k_is)
    (case c12 => k_is)
    (case k12 => k_is)
    (case a13 => k_is)
    (case l13 => k_is)
    (case c13 => k_is)
    (case k13 => k_is)
    (case a14 => k_is)
    (case l14 => k_is)
    (case c14 => k_is)
    (case k14 => k_is)
    (case a15 => k_is)
    (case l15 => k_is)
    (case c15 => k_is)
    (case k15 => k_is)
    (case a16 => k_is)
    (case l16 => k_is)
    (case c16 => k_is)
    (case k16 => k_is)
    (case a17 => k_is)
    (case l17 => k_is)
    (case c17 => k_is)
    (case k17 => k_is)
    (case a18 => k_is)
    (case l18 => k_is)
    (case c18 => k_is)
    (case k18 => k_is)
    (case a19 => k_is)
    (case l19 => k_is)
    (case c19 => k_is)
    (case k19 => k_is)
    (case a20 => k_is)
    (case l20 => k_is)
    (case c20 => k_is)
    (case k20 => k_is)
    (case a21 => k_is)
    (case l21 => k_is)
    (case c21 => k_is)
    (case k21 => k_is)
    (case a22 => k_is)
    (case l22 => k_is)
    (case c22 => k_is)
    (case k22 => k_is)
    (case a23 => k_is)
    (case l23 => k_is)
    (case c23 => k_is)
    (case k23 => k_is)
    (case a24 => k_is)
    (case l24 => k_is)
    (case c24 => k_is)
    (case k24 => k_is)
    (case a25 => k_is)
    (case l25 => k_is)
    (case c25 => k_is)
    (case k25 => k_is)
    (case z_abs => k_is)
    (case z_all => k_is)
    (case z_bool => k_is)
    (case z_enumerate => k_is)
    (case z_int => k_is)
    (case z_isinstance => k_is)
    (case z_len => k_is)
    (case z_list => k_is)
    (case z_max => k_is)
    (case z_range => k_is)
    (case z_set => k_is)
    (case z_sorted => k_is)
    (case z_str => k_is)
    (case z_sum => k_is)
    (case z_tuple => k_is)
    (case z_zip => k_is)
    (case y_MOST_KNOTS => k_is)
    (case y_MOST_KEYS => k_is)

