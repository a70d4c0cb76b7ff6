import PyProof.Rows.All
import Wide.All
import OpenK.AllK
import Wide.FinOn
import PyProof.EqAt
import PyProof.EqKinds
import PyProof.TupleCall
import PyProof.NeKinds
import Lean
import PySem.Challenge.RW_bridgefind_k27_bridges_told
set_option Elab.async false
set_option linter.all false
set_option maxRecDepth 100000
local macro_rules | `(tactic| omega) => `(tactic| lia)
namespace L2
open PySem PySem.Spec PyProof.Rows
abbrev Key := Sum Int Str
def zhI : Key → Value → Bool
  | .inl k, v => Value.isInt k v
  | .inr x, v => Value.isStrOf x v
def keyH (w : World) : Key → Int
  | .inl k => hashInt k
  | .inr x => hashStr w x
theorem za5 : ∀ {k : Key} {v : Value}, zhI k v = true → (∃ i t, k = Sum.inl i ∧ v = Value.int i t) ∨ (∃ x t, k = Sum.inr x ∧ v = Value.str x t)
  | .inl i, v, h => by
    obtain ⟨t, e⟩ := Value.isInt_shape (k := i) (v := v) h
    exact .inl ⟨i, t, rfl, e⟩
  | .inr x, v, h => by
    obtain ⟨t, e⟩ := Value.isStrOf_shape (x := x) (v := v) h
    exact .inr ⟨x, t, rfl, e⟩
theorem keyIs_int (i : Int) (t : Tok) : zhI (.inl i) (.int i t) = true := by simp [zhI, Value.isInt]
theorem keyIs_str (x : Str) (t : Tok) : zhI (.inr x) (.str x t) = true := by simp [zhI, Value.isStrOf]
theorem key_ll (a b : Int) : decide ((Sum.inl a : Key) = Sum.inl b) = (a == b) := by
  by_cases e : a = b
  · subst e; simp
  · have h : ¬ (Sum.inl a : Key) = Sum.inl b := fun q => e (Sum.inl.inj q)
    rw [decide_eq_false h]
    exact (beq_eq_false_iff_ne.mpr e).symm
theorem key_rr (a b : Str) : decide ((Sum.inr a : Key) = Sum.inr b) = decide (a = b) := by
  by_cases e : a = b
  · subst e; simp
  · have h : ¬ (Sum.inr a : Key) = Sum.inr b := fun q => e (Sum.inr.inj q)
    rw [decide_eq_false h, decide_eq_false e]
theorem key_lr (a : Int) (b : Str) : decide ((Sum.inl a : Key) = Sum.inr b) = false := decide_eq_false (fun q => nomatch q)
theorem key_rl (a : Str) (b : Int) : decide ((Sum.inr a : Key) = Sum.inl b) = false := decide_eq_false (fun q => nomatch q)
def za4 (prog : Program) (w : World) : PySem.KeyKind prog w Key where
  is := zhI
  hash := keyH w
  inj := fun v a b ha hb => by
    rcases za5 ha with ⟨i, t, rfl, rfl⟩ | ⟨x, t, rfl, rfl⟩
    · rcases za5 hb with ⟨j, u, rfl, e⟩ | ⟨y, u, rfl, e⟩
      · injection e with e1 _; rw [e1]
      · exact nomatch e
    · rcases za5 hb with ⟨j, u, rfl, e⟩ | ⟨y, u, rfl, e⟩
      · exact nomatch e
      · injection e with e1 _; rw [e1]
  byValue := fun k v h => by
    rcases za5 h with ⟨i, t, rfl, rfl⟩ | ⟨x, t, rfl, rfl⟩ <;> rfl
  pyHash := fun hv h => by
    rcases za5 hv with ⟨i, t, rfl, rfl⟩ | ⟨x, t, rfl, rfl⟩
    · exact wpAny_pyHash_int h
    · exact wpAny_pyHash_str h
  eqBool := fun hu hv h => by
    rcases za5 hu with ⟨i, t, rfl, rfl⟩ | ⟨x, t, rfl, rfl⟩
    · rcases za5 hv with ⟨j, u, rfl, rfl⟩ | ⟨y, u, rfl, rfl⟩
      · rw [key_ll] at h; exact wpAny_eqBool_int h
      · rw [key_lr] at h; exact SeqAt.EqAt.int_str i t y u _ _ _ _ h
    · rcases za5 hv with ⟨j, u, rfl, rfl⟩ | ⟨y, u, rfl, rfl⟩
      · rw [key_rl] at h; exact SeqAt.EqAt.str_int x t j u _ _ _ _ h
      · rw [key_rr] at h; exact wpAny_eqBool_str h
  «strs» := fun k x t v h => by
    rcases za5 h with ⟨i, u, rfl, e⟩ | ⟨y, u, rfl, e⟩
    · exact nomatch e
    · injection e with e1 _
      subst e1
      cases v <;> rfl
theorem zjd (prog : Program) (w : World) (k : Key) (v : Value) : (za4 prog w).is k v = zhI k v := rfl
theorem zhB (prog : Program) (w : World) (i : Int) (t : Tok) : (za4 prog w).is (.inl i) (.int i t) = true := keyIs_int i t
theorem zhA (prog : Program) (w : World) (x : Str) (t : Tok) : (za4 prog w).is (.inr x) (.str x t) = true := keyIs_str x t
end L2
namespace L2
open PySem PySem.Spec PyProof.Rows
inductive V where
  | non | bl (b : Bool) | int (i : Int) | str (x : Str) | byt (b : Array UInt8) | flt (b : UInt64) | ref (a : Addr) | ty (n : String)
  deriving DecidableEq
def RelV : V → Value → Prop
  | .non, u => u = Value.none
  | .bl b, u => u = Value.bool b
  | .int i, u => ∃ t, u = Value.int i t
  | .str x, u => ∃ t, u = Value.str x t
  | .byt b, u => ∃ t, u = Value.bytes b t
  | .flt b, u => ∃ t, u = Value.float b t
  | .ref a, u => u = Value.ref a
  | .ty n, u => u = Value.type n
abbrev Vals : List V → List Value → Prop := Paired RelV
theorem Vals.length {xs : List V} {us : List Value} (r : Vals xs us) : xs.length = us.length := Paired.length r
theorem Vals.get : ∀ {xs : List V} {us : List Value} {i : Nat} {x : V}, Vals xs us → xs[i]? = some x → ∃ u, us[i]? = some u ∧ RelV x u
  | _, _, _, _, .nil, e => by simp at e
  | _, _, 0, _, .cons r _, e => by simp at e; subst e; exact ⟨_, rfl, r⟩
  | _, _, i + 1, x, .cons _ t, e => by
    obtain ⟨u, h1, h2⟩ := Vals.get (i := i) (x := x) t (by simpa using e)
    exact ⟨u, by simpa using h1, h2⟩
theorem Vals.set {x : V} {u : Value} (r : RelV x u) : ∀ {xs : List V} {us : List Value} (i : Nat), Vals xs us → Vals (xs.set i x) (us.set i u)
  | _, _, _, .nil => .nil
  | _, _, 0, .cons _ t => .cons r t
  | _, _, i + 1, .cons q t => .cons q (Vals.set r i t)
theorem Vals.append : ∀ {xs ys : List V} {us ws : List Value}, Vals xs us → Vals ys ws → Vals (xs ++ ys) (us ++ ws)
  | _, _, _, _, .nil, s => s
  | _, _, _, _, .cons r t, s => .cons r (Vals.append t s)
theorem Vals.take : ∀ {xs : List V} {us : List Value} (n : Nat), Vals xs us → Vals (xs.take n) (us.take n)
  | _, _, 0, _ => .nil
  | _, _, _ + 1, .nil => .nil
  | _, _, n + 1, .cons r t => .cons r (Vals.take n t)
theorem Vals.drop : ∀ {xs : List V} {us : List Value} (n : Nat), Vals xs us → Vals (xs.drop n) (us.drop n)
  | _, _, 0, r => r
  | _, _, _ + 1, .nil => .nil
  | _, _, n + 1, .cons _ t => Vals.drop n t
def RelO : Option V → Option Value → Prop
  | some v, some u => RelV v u
  | none, none => True
  | _, _ => False
def KV {κ : Type} : List (κ × V) → List (κ × Value) → Prop := Paired fun (p : κ × V) (q : κ × Value) => p.1 = q.1 ∧ RelV p.2 q.2
def kV : Key → V
  | .inl i => .int i
  | .inr x => .str x
inductive HO where
  | lst (xs : List V)
  | tup (xs : List V)
  | dK (kvs : List (Key × V)) | dT (kvs : List (List Key × V))
  | set (S : Int → Bool) (n : Nat)
  | ins (C dx : Addr) (fs : List (Str × V))
  | own (x : Addr)
  | xd (fs : List (Str × V))
  | met (f x : Addr)
  | rng (lo hi : Int)
  | frz (o : Obj) (u : HO)
  | tbl (ps : Array Value)
  | ext (φ : Heap → Prop)
abbrev Hp := Addr → Option HO
def upd (H : Hp) (a : Addr) (o : HO) : Hp := fun b => if b = a then some o else H b
theorem zac {H : Hp} {a : Addr} {o : HO} : upd H a o a = some o := by unfold upd; rw [if_pos rfl]
theorem zag {H : Hp} {a b : Addr} {o : HO} (h : b ≠ a) : upd H a o b = H b := by unfold upd; rw [if_neg h]
theorem upd_upd {H : Hp} {a : Addr} {o u : HO} : upd (upd H a o) a u = upd H a u := by
  funext b; unfold upd; split <;> rfl
theorem ne_of {H : Hp} {a b : Addr} {o u : HO} (h : H a = some o) (h' : H b = some u) (d : o ≠ u) : a ≠ b := by
  intro e; subst e; rw [h] at h'; exact d (Option.some.inj h')
theorem zab {H : Hp} {a b : Addr} {o : HO} (h : H a = some o) (h' : H b = none) : a ≠ b := by
  intro e; subst e; rw [h] at h'; cases h'
section
variable (P : Program) (w : World)
def zbA (H : Hp) (h : Heap) (a : Addr) : HO → Prop
  | .lst xs => xs.length ≤ sizeLine ∧ ∃ (its : List Value) (n : Nat), Vals xs its ∧ h.get? a = some { cls := .type "list", data := .seq its.toArray n }
  | .tup xs => xs.length ≤ sizeLine ∧ ∃ its : List Value, Vals xs its ∧ IsTup h a its.toArray
  | .dK kvs => kvs.length ≤ sizeLine ∧ (a == sysModules) = false ∧ ∃ vs, KV kvs vs ∧ h.DictOf (za4 P w) a vs
  | .dT kvs => kvs.length ≤ sizeLine ∧ (a == sysModules) = false ∧ ∃ xs : List (List Key × Addr × Value),
      Paired (fun (p : List Key × V) (q : List Key × Addr × Value) => p.1 = q.1 ∧ H q.2.1 = some (.tup (p.1.map kV)) ∧ RelV p.2 q.2.2) kvs xs ∧
      ∃ o es ep, h.get? a = some o ∧ o.ExactDict ∧ o.data = .dict es ep ∧ es.toList = xs.map (entryOfKey (tupleKind (za4 P w))) ∧ (xs.map (·.1)).Nodup
  | .set S n => h.SetOf (intKind P w) a S n
  | .ins C dx fs => H dx = some (.own a) ∧ fs.length ≤ 1000 ∧ dx ≠ a ∧ h.get? a = some (PySem.W.instObj C dx) ∧
      ∃ mA, h.Ns1 dx mA ∧ (∀ f, RelO (fs.lookup f) (mA f)) ∧ PySem.Within mA (fs.map (·.1))
  | .own _ => ∃ o, h.get? a = some o
  | .xd fs => ∃ mA, h.Ns1 a mA ∧ ∀ f, RelO (fs.lookup f) (mA f)
  | .rng lo hi => ∃ t u v, h.get? a = some { cls := .type "range", data := .fields #[.int lo t, .int hi u, .int 1 v] }
  | .frz o u => h.get? a = some o ∧ zbA H h a u
  | .tbl ps => h.get? a = some { cls := .none, data := .fields ps }
  | .met f x => h.get? a = some (PySem.W.methodObj (.ref f) (.ref x))
  | .ext φ => φ h ∧ (∃ o, h.get? a = some o) ∧ ∀ h1 h2 : Heap, φ h1 → (∀ o, h1.get? a = some o → h2.get? a = some o) → φ h2
def HOk (H : Hp) (h : Heap) : Prop := ∀ a o, H a = some o → zbA P w H h a o
end
section
variable {P : Program} {w : World} {H H' : Hp} {h h' : Heap} {a : Addr} {o : HO}
theorem zbA.lt (x : zbA P w H h a o) : a < h.objs.size := by
  cases o with
  | lst xs => obtain ⟨_, _, _, _, e⟩ := x; exact Heap.lt_size e
  | tup xs => obtain ⟨_, _, _, p⟩ := x; exact p.lt
  | dK kvs => obtain ⟨_, _, _, _, o, _, _, e, _⟩ := x; exact Heap.lt_size e
  | dT kvs => obtain ⟨_, _, _, _, o, _, _, e, _⟩ := x; exact Heap.lt_size e
  | set S n => obtain ⟨o, _, _, _, e, _⟩ := x; exact Heap.lt_size e
  | ins C dx fs => obtain ⟨_, _, _, e, _⟩ := x; exact Heap.lt_size e
  | own y => obtain ⟨_, e⟩ := x; exact Heap.lt_size e
  | xd fs => obtain ⟨_, ⟨_, _, _, e, _⟩, _⟩ := x; exact Heap.lt_size e
  | rng lo hi => obtain ⟨_, _, _, e⟩ := x; exact Heap.lt_size e
  | frz ob u => obtain ⟨e, _⟩ := x; exact Heap.lt_size e
  | tbl ps => exact Heap.lt_size (show h.get? a = some _ from x)
  | met f y => exact Heap.lt_size (show h.get? a = some _ from x)
  | ext φ => obtain ⟨_, ⟨_, e⟩, _⟩ := x; exact Heap.lt_size e
theorem Paired.mapP {α β : Type} {F G : α → β → Prop} : ∀ {l₁ : List α} {l₂ : List β}, Paired F l₁ l₂ → (∀ a b, F a b → G a b) → Paired G l₁ l₂
  | _, _, .nil, _ => .nil
  | _, _, .cons r t, f => .cons (f _ _ r) (Paired.mapP t f)
theorem zbA.stay (x : zbA P w H h a o) (k : ∀ b u, (b = a ∨ H b = some (.own a)) → h.get? b = some u → h'.get? b = some u)
    (ho : ∀ b, H b = some (.own a) → H' b = some (.own a)) (ht : ∀ b xs, H b = some (.tup xs) → H' b = some (.tup xs)) : zbA P w H' h' a o := by
  induction o with
  | lst xs => obtain ⟨z, its, n, r, e⟩ := x; exact ⟨z, its, n, r, k _ _ (.inl rfl) e⟩
  | tup xs => obtain ⟨z, its, r, ob, e, c⟩ := x; exact ⟨z, its, r, ob, k _ _ (.inl rfl) e, c⟩
  | dK kvs => obtain ⟨z, y, vs, r, ob, es, ep, e, c⟩ := x; exact ⟨z, y, vs, r, ob, es, ep, k _ _ (.inl rfl) e, c⟩
  | dT kvs =>
    obtain ⟨z, y, xs, r, ob, es, ep, e, c⟩ := x
    exact ⟨z, y, xs, Paired.mapP r fun p q z => ⟨z.1, ht _ _ z.2.1, z.2.2⟩, ob, es, ep, k _ _ (.inl rfl) e, c⟩
  | set S n => obtain ⟨ob, es, ep, t, e, c⟩ := x; exact ⟨ob, es, ep, t, k _ _ (.inl rfl) e, c⟩
  | ins C dx fs =>
    obtain ⟨d, z, ne, e, mA, ⟨od, es, ep, e2, c⟩, r⟩ := x
    exact ⟨ho _ d, z, ne, k _ _ (.inl rfl) e, mA, ⟨od, es, ep, k _ _ (.inr d) e2, c⟩, r⟩
  | own y => obtain ⟨ob, e⟩ := x; exact ⟨ob, k _ _ (.inl rfl) e⟩
  | xd fs => obtain ⟨mA, ⟨od, es, ep, e, c⟩, r⟩ := x; exact ⟨mA, ⟨od, es, ep, k _ _ (.inl rfl) e, c⟩, r⟩
  | rng lo hi => obtain ⟨t, u, v, e⟩ := x; exact ⟨t, u, v, k _ _ (.inl rfl) e⟩
  | frz ob u ih => obtain ⟨e, q⟩ := x; exact ⟨k _ _ (.inl rfl) e, ih q⟩
  | tbl ps =>
    have e : h.get? a = some { cls := .none, data := .fields ps } := x
    show h'.get? a = some { cls := .none, data := .fields ps }
    exact k a _ (.inl rfl) e
  | met f y =>
    have e : h.get? a = some (PySem.W.methodObj (.ref f) (.ref y)) := x
    show h'.get? a = some (PySem.W.methodObj (.ref f) (.ref y))
    exact k a _ (.inl rfl) e
  | ext φ => obtain ⟨p, ⟨o, e⟩, st⟩ := x; exact ⟨st _ _ p fun o q => k _ _ (.inl rfl) q, ⟨o, k _ _ (.inl rfl) e⟩, st⟩
theorem HOk.lt (x : HOk P w H h) (e : H a = some o) : a < h.objs.size := (x a o e).lt
theorem HOk.fresh (x : HOk P w H h) (e : h.objs.size ≤ a) : H a = none := by
  cases q : H a with
  | none => rfl
  | some u => exact absurd (Nat.lt_of_lt_of_le (x.lt q) e) (Nat.lt_irrefl _)
theorem HOk.kept (x : HOk P w H h) (k : ∀ b u, h.get? b = some u → h'.get? b = some u) : HOk P w H h' := fun a o e =>
  (x a o e).stay (fun b u _ q => k b u q) (fun _ q => q) fun _ _ q => q
theorem HOk.laid (x : HOk P w H h) (k : ∀ b u, h.get? b = some u → h'.get? b = some u) (hp : h.objs.size ≤ a) (new : zbA P w (upd H a o) h' a o) : HOk P w (upd H a o) h' := fun b u e => by
  have hn := x.fresh hp
  by_cases hb : b = a
  · subst hb; rw [zac] at e; cases e; exact new
  · rw [zag hb] at e
    exact (x b u e).stay (fun c v _ q => k c v q) (fun c q => by rw [zag (zab q hn)]; exact q) fun c xs q => by rw [zag (zab q hn)]; exact q
end
def Rd (H : Hp) (a : Addr) (u : HO) : Prop := H a = some u ∨ ∃ o, H a = some (.frz o u)
theorem Rd.of {H : Hp} {a : Addr} {u : HO} (h : H a = some u) : Rd H a u := .inl h
theorem Rd.ok {P : Program} {w : World} {H : Hp} {h : Heap} {a : Addr} {u : HO} (r : Rd H a u) (x : HOk P w H h) : zbA P w H h a u := by
  rcases r with r | ⟨o, r⟩
  · exact x a u r
  · obtain ⟨_, q⟩ := x a _ r
    exact q
def Mut : Option HO → Prop
  | some (.lst _) => True
  | some (.dK _) => True
  | some (.dT _) => True
  | some (.set _ _) => True
  | some (.ins _ _ _) => True
  | some (.ext _) => True
  | _ => False
section
variable {P : Program} {w : World} {H : Hp} {h h' : Heap} {x e : Addr} {o' : HO}
theorem HOk.write (ok : HOk P w H h) (mu : Mut (H x)) (he : e = x ∨ H e = some (.own x)) (k : ∀ b u, b ≠ e → h.get? b = some u → h'.get? b = some u) (heo : ∃ u, h'.get? e = some u)
    (new : zbA P w (upd H x o') h' x o') : HOk P w (upd H x o') h' := fun b u q => by
  have nown : ∀ c y, H c = some (.own y) → c ≠ x := fun c y r z => by subst z; rw [r] at mu; exact mu
  have ntup : ∀ c xs, H c = some (.tup xs) → c ≠ x := fun c xs r z => by subst z; rw [r] at mu; exact mu
  by_cases hb : b = x
  · subst hb; rw [zac] at q; cases q; exact new
  · rw [zag hb] at q
    by_cases hbe : b = e
    · have q' : H b = some (.own x) := by
        rcases he with z | z
        · exact absurd (hbe.trans z) hb
        · rw [hbe]; exact z
      rw [q] at q'; cases q'
      obtain ⟨v, hv⟩ := heo
      exact ⟨v, by rw [hbe]; exact hv⟩
    · refine (ok b u q).stay (fun c v hc r => k c v ?_ r) (fun c r => by rw [zag (nown c b r)]; exact r) fun c xs r => by rw [zag (ntup c xs r)]; exact r
      rcases hc with rfl | hc
      · exact hbe
      · rintro rfl
        rcases he with z | z
        · exact nown c b hc z
        · rw [hc] at z; cases z; exact hb rfl
end
structure Un (fs ex : List Addr) (H H' : Hp) (h h' : Heap) : Prop where
  keep : ∀ b o, h.get? b = some o → H b = none → b ∉ fs → b ∉ ex → h'.get? b = some o
  slot : ∀ b o, h.get? b = some o → H b = none → b ∈ fs → b ∉ ex → ∃ sl, h'.get? b = some { o with slots := sl }
  free : ∀ b o, h.get? b = some o → H b = none → b ∉ ex → H' b = none
  there : ∀ b o, h.get? b = some o → b ∉ ex → ∃ o', h'.get? b = some o'
  tups : ∀ b xs, H b = some (.tup xs) → H' b = some (.tup xs)
  frzs : ∀ b o u, H b = some (.frz o u) → H' b = some (.frz o u)
  tbls : ∀ b ps, H b = some (.tbl ps) → ∃ more, H' b = some (.tbl (ps ++ more))
section
variable {fs fs' ex ex' : List Addr} {H H1 H2 : Hp} {h h1 h2 h' : Heap} {a x e : Addr} {o : HO}
theorem Un.any (u : Un fs ex H H1 h h1) {b : Addr} {ob : Obj} (q : h.get? b = some ob) (n : H b = none) (hx : b ∉ ex) : ∃ sl, h1.get? b = some { ob with slots := sl } := by
  by_cases hb : b ∈ fs
  · exact u.slot b ob q n hb hx
  · exact ⟨ob.slots, u.keep b ob q n hb hx⟩
theorem Un.trans (a : Un fs ex H H1 h h1) (b : Un fs ex H1 H2 h1 h2) : Un fs ex H H2 h h2 where
  keep := fun c ob q n hc hx => b.keep c ob (a.keep c ob q n hc hx) (a.free c ob q n hx) hc hx
  slot := fun c ob q n hc hx => by
    obtain ⟨sl, e1⟩ := a.slot c ob q n hc hx
    obtain ⟨sl', e2⟩ := b.slot c _ e1 (a.free c ob q n hx) hc hx
    exact ⟨sl', e2⟩
  free := fun c ob q n hx => by
    obtain ⟨o', e1⟩ := a.there c ob q hx
    exact b.free c o' e1 (a.free c ob q n hx) hx
  there := fun c ob q hx => by
    obtain ⟨o', e1⟩ := a.there c ob q hx
    exact b.there c o' e1 hx
  tups := fun c xs q => b.tups c xs (a.tups c xs q)
  frzs := fun c ob xs q => b.frzs c ob xs (a.frzs c ob xs q)
  tbls := fun c ps q => by
    obtain ⟨m1, e1⟩ := a.tbls c ps q
    obtain ⟨m2, e2⟩ := b.tbls c _ e1
    exact ⟨m1 ++ m2, by rw [e2, Array.append_assoc]⟩
theorem Un.kept (k : ∀ b u, h.get? b = some u → h'.get? b = some u) : Un fs ex H H h h' :=
  ⟨fun b ob q _ _ _ => k b ob q, fun b ob q _ _ _ => ⟨ob.slots, k b ob q⟩, fun _ _ _ n _ => n, fun b ob q _ => ⟨ob, k b ob q⟩, fun _ _ q => q, fun _ _ _ q => q, fun _ ps q => ⟨#[], by rw [q]; simp⟩⟩
theorem Un.refl : Un fs ex H H h h := Un.kept fun _ _ q => q
theorem Un.laid (k : ∀ b u, h.get? b = some u → h'.get? b = some u) (hp : h.objs.size ≤ a) (hn : H a = none) : Un fs ex H (upd H a o) h h' where
  keep := fun b u q _ _ _ => k b u q
  slot := fun b u q _ _ _ => ⟨u.slots, k b u q⟩
  free := fun b u q n _ => by rw [zag (Nat.ne_of_lt (Nat.lt_of_lt_of_le (Heap.lt_size q) hp))]; exact n
  there := fun b u q _ => ⟨u, k b u q⟩
  tups := fun b xs q => by rw [zag (zab q hn)]; exact q
  frzs := fun b u xs q => by rw [zag (zab q hn)]; exact q
  tbls := fun b ps q => ⟨#[], by rw [zag (zab q hn), q]; simp⟩
theorem Un.write (mu : Mut (H x)) (he : e = x ∨ H e = some (.own x)) (k : ∀ b u, b ≠ e → h.get? b = some u → h'.get? b = some u) (heo : ∃ u, h'.get? e = some u) : Un fs ex H (upd H x o) h h' := by
  have hx : ∀ b, H b = none → b ≠ x := fun b n z => by subst z; rw [n] at mu; exact mu
  have hb : ∀ b, H b = none → b ≠ e := fun b n z => by
    subst z
    rcases he with r | r
    · exact hx b n r
    · rw [n] at r; cases r
  have hm : ∀ b u, H b = some u → ¬ Mut (some u) → b ≠ x := fun b u q nm z => by subst z; rw [q] at mu; exact nm mu
  refine ⟨fun b u q n _ _ => k b u (hb b n) q, fun b u q n _ _ => ⟨u.slots, k b u (hb b n) q⟩, fun b u q n _ => by rw [zag (hx b n)]; exact n, fun b u q _ => ?_,
    fun b xs q => by rw [zag (hm b _ q fun z => z)]; exact q, fun b u xs q => by rw [zag (hm b _ q fun z => z)]; exact q, fun b ps q => ⟨#[], by rw [zag (hm b _ q fun z => z), q]; simp⟩⟩
  by_cases hbe : b = e
  · subst hbe; exact heo
  · exact ⟨u, k b u hbe q⟩
theorem Un.mono (u : Un fs ex H H1 h h1) (hs : ∀ b ∈ fs, b ∈ fs') (hx : ∀ b ∈ ex, b ∈ ex') : Un fs' ex' H H1 h h1 :=
  ⟨fun b ob q n hb he => u.keep b ob q n (fun z => hb (hs b z)) fun z => he (hx b z), fun _ _ q n _ he => u.any q n fun z => he (hx _ z), fun b ob q n he => u.free b ob q n fun z => he (hx b z), fun b ob q he => u.there b ob q fun z => he (hx b z), u.tups, u.frzs, u.tbls⟩
end
def trk (h : Heap) (H : Hp) : List Addr := (List.range h.objs.size).filter fun a => (H a).isSome
def hidT (h : Heap) (H : Hp) : Heap := PySem.W.hideAll h (trk h H)
theorem hidT_size (h : Heap) (H : Hp) : (hidT h H).objs.size = h.objs.size := PySem.W.hideAll_size _ _
theorem hidT_get {h : Heap} {H : Hp} {b : Addr} {o : Obj} (e : h.get? b = some o) (n : H b = none) : (hidT h H).get? b = some o :=
  PySem.W.hideAll_get _ e fun hm => by
    have q : (H b).isSome = true := (List.mem_filter.mp hm).2
    rw [n] at q; simp at q
theorem of_hidT {h : Heap} {H : Hp} {b : Addr} {o : Obj} (e : (hidT h H).get? b = some o) : h.get? b = some o ∧ H b = none := by
  have e' : h.get? b = some o := PySem.W.of_hideAll (trk h H) e
  refine ⟨e', ?_⟩
  cases q : H b with
  | none => rfl
  | some x =>
    have hm : b ∈ trk h H := List.mem_filter.mpr ⟨List.mem_range.mpr (Heap.lt_size e'), by simp [q]⟩
    have z : (hidT h H).get? b = none := PySem.W.hideAll_none (trk h H) hm
    rw [z] at e; cases e
def allNews (g h : Heap) (L : Addr) : List (Addr × Obj) := (List.range h.objs.size).filterMap fun a => if a = L ∨ (g.get? a).isSome = true then none else (h.get? a).map fun o => (a, o)
def rest (g h : Heap) (L d : Addr) : List (Addr × Obj) := (allNews g h L).filter fun p => decide (p.1 ≠ d)
end L2
namespace L2
open PySem PySem.Spec PyProof.Rows
structure Mod (K : PySem.W.Frag) (mg : Str → Option Value) (base : Heap) : Prop where
  kin : K.In base
  glob : base.Ns mainGlobals mg
  blt : ∃ mb, base.Ns builtinsNs mb ∧ ∀ x : Str, x ≠ "__name__" → mb x = bootBuiltins x
  nolimit : base.NoLimit
structure Cx where
  prog : Program
  w : World
  K : PySem.W.Frag
  mg : Str → Option Value
  base : Heap
  A : Around
  N : List Str
  s₀ : Shared
  H₀ : Hp
  env : Env
  outer : List Env
  stack : List Env
  ex : List Addr
  fn : Str → Bool
  calm : Bool
  pn : List (Addr × Obj)
  xe : Value → Shared → Prop
def frs (l : List Env) : List Addr := l.filterMap (·.frame)
abbrev Cx.fs (X : Cx) : List Addr := frs X.outer
def Vis (sc : Scope) (x : Str) : Prop := sc.names.lookup x = some .local ∨ sc.names.lookup x = some .cell ∨ sc.names.lookup x = some .free
def Loc (sc : Scope) (x : Str) : Prop := sc.names.lookup x = some .local ∨ sc.names.lookup x = some .cell
def Look (env : Env) (h : Heap) (m : Str → Option Value) (x : Str) (u : Value) : Prop :=
  (env.kindOf x = some .local ∧ m x = some u) ∨ ((env.kindOf x = some .cell ∨ env.kindOf x = some .free) ∧ ∃ c, env.cells.lookup x = some c ∧ h.IsCell c (some u))
structure Cx.Ok (X : Cx) : Prop where
  mod : Mod X.K X.mg X.base
  kind : X.env.scope.kind = .function
  glob : X.env.globals = mainGlobals
  blt : X.env.builtins = builtinsNs
  above : X.s₀.heap.objs.size ≤ X.env.locals
  inj : ∀ x y c, X.env.cells.lookup x = some c → X.env.cells.lookup y = some c → x = y
  has : ∀ x, (X.env.kindOf x = some .cell ∨ X.env.kindOf x = some .free) → ∃ c, X.env.cells.lookup x = some c
  cab : ∀ x c, X.fn x = true → X.env.cells.lookup x = some c → X.s₀.heap.objs.size ≤ c
  hd : X.calm = true → X.A.handled = none
  frames : X.A.frames = some X.stack
  stk : X.stack = X.outer ∨ (X.stack = X.env :: X.outer ∧ X.env.frame = some X.env.locals)
  exf : ∀ b ∈ X.ex, b ≠ X.env.locals ∧ ∀ x c, X.env.cells.lookup x = some c → c ≠ b
  bs : ∀ b o, X.base.get? b = some o → X.s₀.heap.get? b = some o ∧ X.H₀ b = none
  bsz : X.base.objs.size ≤ X.s₀.heap.objs.size
  noex : ∀ b o, X.base.get? b = some o → b ∉ X.ex
  exfs : ∀ b ∈ X.ex, b ∉ X.fs
  funs : X.s₀.heap.FunFrames X.base X.outer
  frf : ∀ b ∈ X.fs, X.H₀ b = none
structure Inv (X : Cx) (pins : List (Addr × Obj)) (σ : List (Option V)) (H : Hp) (s : Shared) : Prop where
  ok : X.Ok
  os : s.os = X.s₀.os
  bare : AllBare s.gens
  base : Un X.fs X.ex X.H₀ H X.s₀.heap s.heap
  loc : ∃ m, s.heap.Ns X.env.locals m ∧ ∀ (i : Nat) (x : Str) (v : V), X.N[i]? = some x → σ[i]? = some (some v) → Vis X.env.scope x → ∃ u, RelV v u ∧ Look X.env s.heap m x u
  cell : ∀ x c, X.env.cells.lookup x = some c → ∃ v, s.heap.IsCell c v
  free : H X.env.locals = none
  freeC : ∀ x c, X.env.cells.lookup x = some c → H c = none
  pin : ∀ p ∈ X.pn ++ pins, s.heap.get? p.1 = some p.2 ∧ H p.1 = none ∧ p.1 ≠ X.env.locals ∧ p.1 ∉ X.fs ∧ ∀ v, p.2.data ≠ .cell v
  hok : HOk X.prog X.w H s.heap
  len : σ.length = X.N.length
section
variable {X : Cx} {pins : List (Addr × Obj)} {σ : List (Option V)} {H H' : Hp} {s : Shared} {h' : Heap}
theorem Cx.Ok.nofr (ok : X.Ok) {b : Addr} {o : Obj} (e : X.base.get? b = some o) : b ∉ X.fs := fun hb => by
  have := (ok.funs.mem hb).1
  rw [e] at this; cases this
theorem Inv.bs (I : Inv X pins σ H s) : ∀ b o, X.base.get? b = some o → s.heap.get? b = some o ∧ H b = none := fun b o e =>
  ⟨I.base.keep b o (I.ok.bs b o e).1 (I.ok.bs b o e).2 (I.ok.nofr e) (I.ok.noex b o e), I.base.free b o (I.ok.bs b o e).1 (I.ok.bs b o e).2 (I.ok.noex b o e)⟩
theorem Inv.bk (I : Inv X pins σ H s) : ∀ b o, X.base.get? b = some o → s.heap.get? b = some o := fun b o e => (I.bs b o e).1
theorem Inv.mod (I : Inv X pins σ H s) : Mod X.K X.mg X.base := I.ok.mod
theorem Inv.kIn (I : Inv X pins σ H s) : X.K.In s.heap := I.ok.mod.kin.keeps I.bk
theorem Inv.nolimit (I : Inv X pins σ H s) : s.heap.NoLimit := I.ok.mod.nolimit.keeps I.bk
theorem Inv.fr (I : Inv X pins σ H s) : ∃ m, Fr X.base X.env.locals s.heap m :=
  let ⟨m, hn, _⟩ := I.loc
  ⟨m, hn, I.bk, Nat.le_trans I.ok.bsz I.ok.above⟩
theorem Inv.lt (I : Inv X pins σ H s) : X.env.locals < s.heap.objs.size := let ⟨_, hn, _⟩ := I.loc; hn.lt
theorem Inv.sz (I : Inv X pins σ H s) : X.s₀.heap.objs.size ≤ s.heap.objs.size := Nat.le_trans I.ok.above (Nat.le_of_lt I.lt)
theorem Inv.nofs (I : Inv X pins σ H s) {a : Addr} (h : s.heap.objs.size ≤ a) : a ∉ X.fs := fun hb => by
  obtain ⟨_, o, ho, _⟩ := I.ok.funs.mem hb
  exact absurd (Nat.lt_of_lt_of_le (Heap.lt_size ho) (Nat.le_trans I.sz h)) (Nat.lt_irrefl _)
theorem Inv.cne (I : Inv X pins σ H s) : ∀ x c, X.env.cells.lookup x = some c → c ≠ X.env.locals := fun x c e z => by
  obtain ⟨v, o, ho, hd⟩ := I.cell x c e
  obtain ⟨m, ⟨o', es, ep, ho', hd', _⟩, _⟩ := I.loc
  rw [z, ho'] at ho; cases ho; rw [hd'] at hd; cases hd
theorem Inv.funs (I : Inv X pins σ H s) : s.heap.FunFrames X.base X.outer := by
  have all : ∀ (l : List Env), (∀ b ∈ frs l, b ∈ X.fs) → X.s₀.heap.FunFrames X.base l → s.heap.FunFrames X.base l := by
    intro l
    induction l with
    | nil => intro _ _; trivial
    | cons env r ih =>
      intro hs hl
      obtain ⟨hk, ⟨L, o, hf, hn, ho, hd⟩, hr⟩ := hl
      have hL : L ∈ X.fs := hs L (by unfold frs; rw [List.filterMap_cons, hf]; exact List.mem_cons_self)
      obtain ⟨sl, e⟩ := I.base.slot L o ho (I.ok.frf L hL) hL fun z => I.ok.exfs L z hL
      exact ⟨hk, ⟨L, _, hf, hn, e, hd⟩, ih (fun b hb => hs b (by unfold frs; rw [List.filterMap_cons, hf]; exact List.mem_cons_of_mem _ hb)) hr⟩
  exact all X.outer (fun _ hb => hb) I.ok.funs
theorem Inv.stack (I : Inv X pins σ H s) : s.heap.FunFrames X.base X.stack := by
  rcases I.ok.stk with e | ⟨e, hf⟩
  · rw [e]; exact I.funs
  · rw [e]
    obtain ⟨m, hn, _⟩ := I.loc
    refine .cons (by rw [I.ok.kind]; decide) hf hn ?_ I.funs
    exact Heap.get?_none_of_le (Nat.le_trans I.ok.bsz I.ok.above)
theorem Inv.stkSub (I : Inv X pins σ H s) : ∀ b ∈ frs X.stack, b ∈ X.env.locals :: X.fs := fun b hb => by
  rcases I.ok.stk with e | ⟨e, hf⟩
  · rw [e] at hb; exact List.mem_cons_of_mem _ hb
  · rw [e] at hb
    unfold frs at hb
    rw [List.filterMap_cons, hf] at hb
    exact hb
theorem Inv.stkFree (I : Inv X pins σ H s) : ∀ b ∈ frs X.stack, H b = none := fun b hb => by
  rcases List.mem_cons.mp (I.stkSub b hb) with e | hb
  · rw [e]; exact I.free
  · obtain ⟨_, o, ho, _⟩ := I.ok.funs.mem hb
    exact I.base.free b o ho (I.ok.frf b hb) fun z => I.ok.exfs b z hb
theorem Inv.step {g' : Array GenState} {t' : Nat} {d' : Drawn} {ch : List Addr} (I : Inv X pins σ H s)
    (hch : ∀ b ∈ ch, (b ∈ X.ex ∨ X.s₀.heap.objs.size ≤ b) ∧ b ≠ X.env.locals ∧ (∀ x c, X.env.cells.lookup x = some c → c ≠ b) ∧ ∀ p ∈ X.pn ++ pins, p.1 ≠ b)
    (keep : ∀ b o, b ≠ X.env.locals → b ∉ X.fs → b ∉ ch → s.heap.get? b = some o → H b = none → h'.get? b = some o)
    (slot : ∀ b o, b ≠ X.env.locals → b ∈ X.fs → b ∉ ch → s.heap.get? b = some o → H b = none → ∃ sl, h'.get? b = some { o with slots := sl }) (free : ∀ b o, b ∉ ch → s.heap.get? b = some o → H b = none → H' b = none)
    (there : ∀ b o, b ∉ ch → s.heap.get? b = some o → ∃ o', h'.get? b = some o')
    (tups : ∀ b xs, H b = some (.tup xs) → H' b = some (.tup xs)) (frzs : ∀ b o u, H b = some (.frz o u) → H' b = some (.frz o u)) (tbls : ∀ b ps, H b = some (.tbl ps) → ∃ more, H' b = some (.tbl (ps ++ more)))
    (ns : ∀ m, s.heap.Ns X.env.locals m → h'.Ns X.env.locals m) (hok : HOk X.prog X.w H' h') (hg : AllBare g') :
    Inv X pins σ H' { s with heap := h', gens := g', drawn := d', toks := t' } := by
  have neL : ∀ b o, X.s₀.heap.get? b = some o → b ≠ X.env.locals := fun b o e => Nat.ne_of_lt (Nat.lt_of_lt_of_le (Heap.lt_size e) I.ok.above)
  have neC : ∀ b o, X.s₀.heap.get? b = some o → b ∉ X.ex → b ∉ ch := fun b o e hx hb => by
    rcases (hch b hb).1 with z | z
    · exact hx z
    · exact absurd (Nat.lt_of_lt_of_le (Heap.lt_size e) z) (Nat.lt_irrefl _)
  have cellK : ∀ x c, X.env.cells.lookup x = some c → ∀ v, s.heap.IsCell c v → h'.IsCell c v := fun x c e v ⟨o, ho, hd⟩ => by
    have nch : c ∉ ch := fun z => (hch c z).2.2.1 x c e rfl
    by_cases hc : c ∈ X.fs
    · obtain ⟨sl, q⟩ := slot c o (I.cne x c e) hc nch ho (I.freeC x c e)
      exact ⟨_, q, hd⟩
    · exact ⟨o, keep c o (I.cne x c e) hc nch ho (I.freeC x c e), hd⟩
  refine ⟨I.ok, I.os, hg, ⟨fun b o e n hb hx => ?_, fun b o e n hb hx => ?_, fun b o e n hx => ?_, fun b o e hx => ?_, fun b xs e => tups b xs (I.base.tups b xs e), fun b o xs e => frzs b o xs (I.base.frzs b o xs e), fun b ps e => ?_⟩, ?_, fun x c e => ?_, ?_, fun x c e => ?_, fun p hp => ?_, hok, I.len⟩
  · exact keep b o (neL b o e) hb (neC b o e hx) (I.base.keep b o e n hb hx) (I.base.free b o e n hx)
  · obtain ⟨sl, e1⟩ := I.base.slot b o e n hb hx
    obtain ⟨sl', e2⟩ := slot b _ (neL b o e) hb (neC b o e hx) e1 (I.base.free b o e n hx)
    exact ⟨sl', e2⟩
  · obtain ⟨o', e1⟩ := I.base.there b o e hx
    exact free b o' (neC b o e hx) e1 (I.base.free b o e n hx)
  · obtain ⟨o', e1⟩ := I.base.there b o e hx
    exact there b o' (neC b o e hx) e1
  · obtain ⟨m1, e1⟩ := I.base.tbls b ps e
    obtain ⟨m2, e2⟩ := tbls b _ e1
    exact ⟨m1 ++ m2, by rw [e2, Array.append_assoc]⟩
  · obtain ⟨m, hn, hl⟩ := I.loc
    refine ⟨m, ns m hn, fun i x v e1 e2 e3 => ?_⟩
    obtain ⟨u, r, l⟩ := hl i x v e1 e2 e3
    refine ⟨u, r, ?_⟩
    rcases l with l | ⟨k, c, e, z⟩
    · exact .inl l
    · exact .inr ⟨k, c, e, cellK x c e _ z⟩
  · obtain ⟨v, z⟩ := I.cell x c e
    exact ⟨v, cellK x c e v z⟩
  · obtain ⟨m, ⟨o, _, _, ho, _⟩, _⟩ := I.loc
    exact free _ o (fun z => (hch _ z).2.1 rfl) ho I.free
  · obtain ⟨v, o, ho, hd⟩ := I.cell x c e
    exact free c o (fun z => (hch c z).2.2.1 x c e rfl) ho (I.freeC x c e)
  · obtain ⟨e, n, ne, nf, d⟩ := I.pin p hp
    have nch : p.1 ∉ ch := fun z => (hch p.1 z).2.2.2 p hp rfl
    exact ⟨keep p.1 p.2 ne nf nch e n, free p.1 p.2 nch e n, ne, nf, d⟩
theorem Inv.un {t' : Nat} (I : Inv X pins σ H s) (u : Un X.fs [] H H' s.heap h') (hok : HOk X.prog X.w H' h') : Inv X pins σ H' { s with heap := h', toks := t' } := by
  obtain ⟨m, ⟨o, es, ep, ho, r⟩, _⟩ := id I.loc
  obtain ⟨sl, hL⟩ := u.any ho I.free (by simp)
  exact I.step (g' := s.gens) (d' := s.drawn) (ch := []) (fun _ z => nomatch z) (fun b o _ hb _ e n => u.keep b o e n hb (by simp)) (fun b o _ hb _ e n => u.slot b o e n hb (by simp)) (fun b o _ e n => u.free b o e n (by simp)) (fun b o _ e => u.there b o e (by simp)) u.tups u.frzs u.tbls (fun m' hm => by
    obtain ⟨o', es', ep', ho', r'⟩ := hm
    rw [ho] at ho'; cases ho'
    exact ⟨_, es', ep', hL, r'⟩) hok I.bare
theorem Inv.call {g' : Array GenState} {t' : Nat} {d' : Drawn} {ch : List Addr} (I : Inv X pins σ H s) (u : Un (frs X.stack) ch H H' s.heap h') (hok : HOk X.prog X.w H' h') (hg : AllBare g')
    (hch : ∀ b ∈ ch, (b ∈ X.ex ∨ X.s₀.heap.objs.size ≤ b) ∧ b ≠ X.env.locals ∧ (∀ x c, X.env.cells.lookup x = some c → c ≠ b) ∧ ∀ p ∈ X.pn ++ pins, p.1 ≠ b) :
    Inv X pins σ H' { s with heap := h', gens := g', drawn := d', toks := t' } := by
  obtain ⟨m, ⟨o, es, ep, ho, r⟩, _⟩ := id I.loc
  obtain ⟨sl, hL⟩ := u.any ho I.free fun z => (hch _ z).2.1 rfl
  exact I.step (ch := ch) hch (fun b o hL hb hc e n => u.keep b o e n (fun z => (List.mem_cons.mp (I.stkSub b z)).elim hL hb) hc) (fun b o _ _ hc e n => u.any e n hc) (fun b o hc e n => u.free b o e n hc) (fun b o hc e => u.there b o e hc) u.tups u.frzs u.tbls (fun m' hm => by
    obtain ⟨o', es', ep', ho', r'⟩ := hm
    rw [ho] at ho'; cases ho'
    exact ⟨_, es', ep', hL, r'⟩) hok hg
theorem Inv.turned {t' : Nat} {it : Addr} (I : Inv X pins σ H s) (k : ∀ b o, b ≠ it → s.heap.get? b = some o → h'.get? b = some o) (hn : H it = none) (hL : it ≠ X.env.locals)
    (h1 : it ∈ X.ex ∨ X.s₀.heap.objs.size ≤ it) (h2 : ∀ x c, X.env.cells.lookup x = some c → c ≠ it) (h3 : ∀ p ∈ X.pn ++ pins, p.1 ≠ it) : Inv X pins σ H { s with heap := h', toks := t' } := by
  have nit : ∀ b u, H b = some u → b ≠ it := fun b u e z => by rw [z, hn] at e; cases e
  refine I.step (g' := s.gens) (d' := s.drawn) (ch := [it]) (fun b hb => ?_) (fun b o _ _ hc e _ => k b o (fun z => hc (by simp [z])) e) (fun b o _ _ hc e _ => ⟨o.slots, k b o (fun z => hc (by simp [z])) e⟩) (fun _ _ _ _ n => n)
    (fun b o hc e => ⟨o, k b o (fun z => hc (by simp [z])) e⟩) (fun _ _ e => e) (fun _ _ _ e => e) (fun b ps e => ⟨#[], by rw [e]; simp⟩) (fun m hm => ?_) (fun b u e => ?_) I.bare
  · have e : b = it := by simpa using hb
    subst e
    exact ⟨h1, hL, h2, h3⟩
  · obtain ⟨o, es, ep, ho, r⟩ := hm
    exact ⟨o, es, ep, k _ o (Ne.symm hL) ho, r⟩
  · refine (I.hok b u e).stay (fun c v hc q => k c v ?_ q) (fun _ q => q) fun _ _ q => q
    rcases hc with z | z
    · rw [z]; exact nit b u e
    · exact nit c _ z
theorem Inv.tok (I : Inv X pins σ H s) (t : Nat) : Inv X pins σ H { s with toks := t } := I.un (h' := s.heap) (t' := t) Un.refl I.hok
theorem Inv.kept {t' : Nat} (I : Inv X pins σ H s) (k : ∀ b u, s.heap.get? b = some u → h'.get? b = some u) : Inv X pins σ H { s with heap := h', toks := t' } := I.un (Un.kept k) (I.hok.kept k)
theorem Inv.laid {a : Addr} {o : HO} {t' : Nat} (I : Inv X pins σ H s) (k : ∀ b u, s.heap.get? b = some u → h'.get? b = some u) (hp : s.heap.objs.size ≤ a) (new : zbA X.prog X.w (upd H a o) h' a o) :
    Inv X pins σ (upd H a o) { s with heap := h', toks := t' } := I.un (Un.laid k hp (I.hok.fresh hp)) (I.hok.laid k hp new)
theorem Inv.write {x e : Addr} {o : HO} {t' : Nat} (I : Inv X pins σ H s) (mu : Mut (H x)) (he : e = x ∨ H e = some (.own x)) (k : ∀ b u, b ≠ e → s.heap.get? b = some u → h'.get? b = some u) (heo : ∃ u, h'.get? e = some u)
    (new : zbA X.prog X.w (upd H x o) h' x o) : Inv X pins σ (upd H x o) { s with heap := h', toks := t' } := I.un (Un.write mu he k heo) (I.hok.write mu he k heo new)
theorem Inv.pins_of {pins' : List (Addr × Obj)} (I : Inv X pins σ H s) (h : ∀ p ∈ pins', s.heap.get? p.1 = some p.2 ∧ H p.1 = none ∧ p.1 ≠ X.env.locals ∧ p.1 ∉ X.fs ∧ ∀ v, p.2.data ≠ .cell v) : Inv X pins' σ H s :=
  ⟨I.ok, I.os, I.bare, I.base, I.loc, I.cell, I.free, I.freeC, fun p hp => (List.mem_append.mp hp).elim (fun z => I.pin p (List.mem_append_left _ z)) (h p), I.hok, I.len⟩
theorem zis {N : List Str} (hN : N.Nodup) {i j : Nat} {x : Str} (a : N[i]? = some x) (b : N[j]? = some x) : i = j := by
  obtain ⟨h1, e1⟩ := List.getElem?_eq_some_iff.mp a
  obtain ⟨h2, e2⟩ := List.getElem?_eq_some_iff.mp b
  exact (List.getElem_inj hN).mp (e1.trans e2.symm)
theorem ze9 {M : Model} {A : Around} {E : Value → Shared → Prop} {i : Nat} {x : Str} {v : V} {u : Value} {Q : Unit → Shared → Prop} (I : Inv X pins σ H s) (hN : X.N.Nodup) (hi : X.N[i]? = some x) (hx : Loc X.env.scope x) (r : RelV v u)
    (h : ∀ s', Inv X pins (σ.set i (some v)) H s' → (∃ a, Heap.SameBut a s.heap s'.heap ∧ (a = X.env.locals ∨ X.env.cells.lookup x = some a)) → Q () s') (hf : X.fn x = true ∨ X.env.scope.names.lookup x = some .local := by first | exact .inl rfl | exact .inr rfl | assumption) : wpAny M A (storeName X.env x u) Q E s := by
  obtain ⟨m, hn, hl⟩ := id I.loc
  have hcls : (X.env.scope.kind == .class || (X.env.scope.kind == .module && X.env.locals != X.env.globals)) = false := by rw [I.ok.kind]; rfl
  have hiσ : i < σ.length := by rw [I.len]; exact (List.getElem?_eq_some_iff.mp hi).1
  have cne := I.cne
  have tracked : ∀ {a : Addr} {h' : Heap}, (∃ o, s.heap.get? a = some o ∧ H a = none) → Heap.SameBut a s.heap h' → HOk X.prog X.w H h' := fun {a h'} ha hs b ob e => by
    obtain ⟨_, _, hfree⟩ := ha
    refine (I.hok b ob e).stay (fun c w' hc q => (hs.2 c ?_).trans q) (fun _ q => q) fun _ _ q => q
    rintro rfl
    rcases hc with rfl | hc
    · rw [hfree] at e; cases e
    · rw [hfree] at hc; cases hc
  rcases hx with hk | hk
  · refine wpAny_storeName_local hk hn (fun h' hn' hs => ?_) hcls
    obtain ⟨oL, _, _, hoL, _⟩ := id hn
    refine h _ ⟨I.ok, I.os, I.bare, ⟨fun b o e n hb hx => ?_, fun b o e n hb hx => ?_, I.base.free, fun b o e hx => ?_, I.base.tups, I.base.frzs, I.base.tbls⟩, ⟨_, hn', fun j y v' e1 e2 e3 => ?_⟩, fun y c e => ?_, I.free, I.freeC, fun p hp => ?_, tracked ⟨oL, hoL, I.free⟩ hs, by simpa using I.len⟩ ⟨_, hs, .inl rfl⟩
    · exact (hs.2 b (Nat.ne_of_lt (Nat.lt_of_lt_of_le (Heap.lt_size e) I.ok.above))).trans (I.base.keep b o e n hb hx)
    · obtain ⟨sl, e1⟩ := I.base.slot b o e n hb hx
      exact ⟨sl, (hs.2 b (Nat.ne_of_lt (Nat.lt_of_lt_of_le (Heap.lt_size e) I.ok.above))).trans e1⟩
    · obtain ⟨o', e1⟩ := I.base.there b o e hx
      exact ⟨o', (hs.2 b (Nat.ne_of_lt (Nat.lt_of_lt_of_le (Heap.lt_size e) I.ok.above))).trans e1⟩
    · by_cases hj : j = i
      · subst hj
        rw [hi] at e1; cases e1
        rw [List.getElem?_set_self hiσ] at e2
        cases e2
        exact ⟨u, r, .inl ⟨hk, by simp⟩⟩
      · rw [List.getElem?_set_ne (Ne.symm hj)] at e2
        obtain ⟨u', r', q⟩ := hl j y v' e1 e2 e3
        refine ⟨u', r', ?_⟩
        rcases q with ⟨k, e⟩ | ⟨k, c, e, z⟩
        · refine .inl ⟨k, ?_⟩
          have : y ≠ x := fun e => hj (zis hN e1 (e ▸ hi))
          simp [this, e]
        · exact .inr ⟨k, c, e, z.sameBut hs (cne y c e)⟩
    · obtain ⟨w', z⟩ := I.cell y c e
      exact ⟨w', z.sameBut hs (cne y c e)⟩
    · obtain ⟨e, n, ne, nf, d⟩ := I.pin p hp
      exact ⟨(hs.2 p.1 ne).trans e, n, ne, nf, d⟩
  · have hfn : X.fn x = true := by
      rcases hf with z | z
      · exact z
      · rw [z] at hk; cases hk
    obtain ⟨c, hc⟩ := I.ok.has x (.inl hk)
    obtain ⟨w', z⟩ := I.cell x c hc
    refine wpAny_storeName_cell I.ok.kind hk hc z (fun h' hc' hs => ?_)
    obtain ⟨oc, hoc, hocd⟩ := id z
    refine h { s with heap := h' } ⟨I.ok, I.os, I.bare, ⟨fun b o e n hb hx => ?_, fun b o e n hb hx => ?_, I.base.free, fun b o e hx => ?_, I.base.tups, I.base.frzs, I.base.tbls⟩, ⟨m, hn.sameBut hs (Ne.symm (cne x c hc)), fun j y v' e1 e2 e3 => ?_⟩, fun y c' e => ?_, I.free, I.freeC, fun p hp => ?_, tracked ⟨oc, hoc, I.freeC x c hc⟩ hs, by simpa using I.len⟩ ⟨c, hs, .inr hc⟩
    · exact (hs.2 b (Nat.ne_of_lt (Nat.lt_of_lt_of_le (Heap.lt_size e) (I.ok.cab x c hfn hc)))).trans (I.base.keep b o e n hb hx)
    · obtain ⟨sl, e1⟩ := I.base.slot b o e n hb hx
      exact ⟨sl, (hs.2 b (Nat.ne_of_lt (Nat.lt_of_lt_of_le (Heap.lt_size e) (I.ok.cab x c hfn hc)))).trans e1⟩
    · obtain ⟨o', e1⟩ := I.base.there b o e hx
      exact ⟨o', (hs.2 b (Nat.ne_of_lt (Nat.lt_of_lt_of_le (Heap.lt_size e) (I.ok.cab x c hfn hc)))).trans e1⟩
    · by_cases hj : j = i
      · subst hj
        rw [hi] at e1; cases e1
        rw [List.getElem?_set_self hiσ] at e2
        cases e2
        exact ⟨u, r, .inr ⟨.inl hk, c, hc, hc'⟩⟩
      · rw [List.getElem?_set_ne (Ne.symm hj)] at e2
        obtain ⟨u', r', q⟩ := hl j y v' e1 e2 e3
        refine ⟨u', r', ?_⟩
        rcases q with q | ⟨k, c', e, z'⟩
        · exact .inl q
        · refine .inr ⟨k, c', e, z'.sameBut hs ?_⟩
          rintro rfl
          exact hj (zis hN e1 (I.ok.inj _ _ _ e hc ▸ hi))
    · by_cases hcc : c' = c
      · subst hcc; exact ⟨_, hc'⟩
      · obtain ⟨w2, z2⟩ := I.cell y c' e
        exact ⟨w2, z2.sameBut hs hcc⟩
    · obtain ⟨e, n, ne, nf, d⟩ := I.pin p hp
      refine ⟨(hs.2 p.1 ?_).trans e, n, ne, nf, d⟩
      intro q
      rw [q, hoc] at e
      have q' : oc = p.2 := Option.some.inj e
      exact d w' (by rw [← q']; exact hocd)
theorem zia {M : Model} {A : Around} {E : Value → Shared → Prop} {i : Nat} {x : Str} {v : V} {u : Value} {Q : Unit → Shared → Prop} (I : Inv X pins σ H s) (hN : X.N.Nodup) (hi : X.N[i]? = some x) (hx : Loc X.env.scope x) (r : RelV v u)
    (h : ∀ s', Inv X pins (σ.set i (some v)) H s' → Q () s') (hf : X.fn x = true ∨ X.env.scope.names.lookup x = some .local := by first | exact .inl rfl | exact .inr rfl | assumption) : wpAny M A (storeName X.env x u) Q E s :=
  ze9 I hN hi hx r (fun s' I' _ => h s' I') hf
theorem Inv.call' {s' : Shared} {ch : List Addr} (I : Inv X pins σ H s) (ho : s'.os = s.os) (u : Un (frs X.stack) ch H H' s.heap s'.heap) (hok : HOk X.prog X.w H' s'.heap) (hg : AllBare s'.gens)
    (hch : ∀ b ∈ ch, (b ∈ X.ex ∨ X.s₀.heap.objs.size ≤ b) ∧ b ≠ X.env.locals ∧ (∀ x c, X.env.cells.lookup x = some c → c ≠ b) ∧ ∀ p ∈ X.pn ++ pins, p.1 ≠ b) : Inv X pins σ H' s' := by
  obtain ⟨h', g', d', t', o'⟩ := s'
  have e : o' = s.os := ho
  subst e
  exact I.call (g' := g') (t' := t') (d' := d') u hok hg hch
end
abbrev XK := Value → Option Addr → Hp → Prop
abbrev St := List (Option V)
abbrev VK := V → Hp → Prop
abbrev TE := St → Hp → VK → Prop
abbrev TT := St → Hp → (Bool → Hp → Prop) → Prop
abbrev TA := St → Hp → (List V → Hp → Prop) → Prop
structure Ends where
  nx : St → Hp → Prop
  rt : VK
  bk : St → Hp → Prop := fun _ _ => False
  ct : St → Hp → Prop := fun _ _ => False
abbrev TS := Ends → St → Hp → Prop
def EP (X : Cx) (pins : List (Addr × Obj)) (σ : St) (Q : VK) (u : Value) (s' : Shared) : Prop := ∃ v H', Inv X pins σ H' s' ∧ RelV v u ∧ Q v H'
def TP (X : Cx) (pins : List (Addr × Obj)) (σ : St) (Q : Bool → Hp → Prop) (b : Bool) (s' : Shared) : Prop := ∃ H', Inv X pins σ H' s' ∧ Q b H'
def AP (X : Cx) (pins : List (Addr × Obj)) (σ : St) (Q : List V → Hp → Prop) (us : List Value) (s' : Shared) : Prop := ∃ vs H', Inv X pins σ H' s' ∧ Vals vs us ∧ Q vs H'
def SP (X : Cx) (pins : List (Addr × Obj)) (D : Ends) (f : Flow) (s' : Shared) : Prop :=
  match f with
  | .next => ∃ σ' H', Inv X pins σ' H' s' ∧ D.nx σ' H'
  | .brk => ∃ σ' H', Inv X pins σ' H' s' ∧ D.bk σ' H'
  | .cont => ∃ σ' H', Inv X pins σ' H' s' ∧ D.ct σ' H'
  | .ret u => ∃ v σ' H', Inv X pins σ' H' s' ∧ RelV v u ∧ D.rt v H'
def PE (X : Cx) (e : Expr) (t : TE) : Prop :=
  ∀ (pins : List (Addr × Obj)) (s : Shared) (σ : St) (H : Hp) (Q : VK), Inv X pins σ H s → t σ H Q → wpAny (model X.prog X.w) X.A (eval e X.env) (EP X pins σ Q) X.xe s
def PT (X : Cx) (e : Expr) (t : TT) : Prop :=
  ∀ (pins : List (Addr × Obj)) (s : Shared) (σ : St) (H : Hp) (Q : Bool → Hp → Prop), Inv X pins σ H s → t σ H Q → wpAny (model X.prog X.w) X.A (isTrue e X.env (eval e X.env)) (TP X pins σ Q) X.xe s
def PW (X : Cx) (e : Expr) (t : TT) : Prop :=
  ∀ (whole : Sem Value) (pins : List (Addr × Obj)) (s : Shared) (σ : St) (H : Hp) (Q : Bool → Hp → Prop), Inv X pins σ H s → t σ H Q → wpAny (model X.prog X.w) X.A (isTrue e X.env whole) (TP X pins σ Q) X.xe s
theorem PW.pt {X : Cx} {e : Expr} {t : TT} (h : PW X e t) : PT X e t := h _
def PA (X : Cx) (es : List Expr) (t : TA) : Prop :=
  ∀ (pos : Pos) (pins : List (Addr × Obj)) (s : Shared) (σ : St) (H : Hp) (Q : List V → Hp → Prop), Inv X pins σ H s → t σ H Q → wpAny (model X.prog X.w) X.A (spliced (backTo pos (starEach es X.env))) (AP X pins σ Q) X.xe s
def PS (X : Cx) (st : Stmt) (t : TS) : Prop :=
  ∀ (pins : List (Addr × Obj)) (s : Shared) (σ : St) (H : Hp) (D : Ends), Inv X pins σ H s → t D σ H → wpAny (model X.prog X.w) X.A (exec st X.env) (SP X pins D) X.xe s
def PSs (X : Cx) (st : List Stmt) (t : TS) : Prop :=
  ∀ (pins : List (Addr × Obj)) (s : Shared) (σ : St) (H : Hp) (D : Ends), Inv X pins σ H s → t D σ H → wpAny (model X.prog X.w) X.A (execs st X.env) (SP X pins D) X.xe s
theorem thn {α : Type} {t : Sem α} {Q Q' : α → Shared → Prop} {M : Model} {A : Around} {E : Value → Shared → Prop} {s : Shared} (h : wpAny M A t Q E s) (hQ : ∀ a s, Q a s → Q' a s) : wpAny M A t Q' E s := wpAny_mono h hQ fun _ _ x => x
end L2
namespace L2
open PySem PySem.Spec PyProof.Rows
section
variable {X : Cx}
def tVar (i : Nat) : TE := fun σ H Q => ∃ v, σ[i]? = some (some v) ∧ Q v H
def tC (v : V) : TE := fun _ H Q => Q v H
theorem pe_var {i : Nat} {x : Str} {pos : Pos} (hN : X.N[i]? = some x) (hv : Vis X.env.scope x) (hd : (x == ("__debug__" : Str)) = false := by decide) (hcd : (x == ("__classdict__" : Str)) = false := by decide) : PE X (.Name x pos) (tVar i) := by
  intro pins s σ H Q I h
  obtain ⟨v, e, h⟩ := h
  obtain ⟨m, hn, hl⟩ := I.loc
  obtain ⟨u, r, l⟩ := hl i x v hN e hv
  have fin : EP X pins σ Q u s := ⟨v, H, I, r, h⟩
  rcases l with ⟨hk, hm⟩ | ⟨hk, c, hc, hcell⟩
  · exact wpAny_Name (wpAny_loadName_local I.ok.kind hk hn hm fin) hd
  · rcases hk with hk | hk
    · exact wpAny_Name (wpAny_loadName_cell I.ok.kind hk hc hcell fin) hd
    · exact wpAny_Name (wpAny_loadName_free I.ok.kind hk hc hcell fin hcd) hd
theorem zaf {i j pos} : PE X (.Constant (.int i) j pos) (tC (.int i)) := fun _ _ _ H _ I h => wpAny_Constant_int ⟨.int i, H, I.tok _, ⟨_, rfl⟩, h⟩
theorem zd6 {b j pos} : PE X (.Constant (.bool b) j pos) (tC (.bl b)) := fun _ _ _ H _ I h => Constant_bool ⟨.bl b, H, I, rfl, h⟩
theorem pe_non {j pos} : PE X (.Constant .none j pos) (tC .non) := fun _ _ _ H _ I h => Constant_none ⟨.non, H, I, rfl, h⟩
theorem zdy {x j pos} : PE X (.Constant (.str x) j pos) (tC (.str x)) := fun _ _ _ H _ I h => Calls.Constant_str ⟨.str x, H, I.tok _, ⟨_, rfl⟩, h⟩
def Gl (X : Cx) (x : Str) : Prop := X.env.kindOf x = some .globalImplicit
theorem ld_glob {E : Value → Shared → Prop} {pins : List (Addr × Obj)} {s : Shared} {σ : St} {H : Hp} {x : Str} {u : Value} {pos : Pos} {Q : Value → Shared → Prop} (I : Inv X pins σ H s) (hg : Gl X x) (hm : X.mg x = some u) (h : Q u s)
    (hd : (x == ("__debug__" : Str)) = false := by decide) : wpAny (model X.prog X.w) X.A (eval (.Name x pos) X.env) Q E s :=
  Calls.Name_function_global I.ok.kind hg (Calls.loadGlobal_global (by rw [I.ok.glob]; exact I.mod.glob.keeps I.bk) hm h) hd
theorem zeq {E : Value → Shared → Prop} {pins : List (Addr × Obj)} {s : Shared} {σ : St} {H : Hp} {x : Str} {u : Value} {pos : Pos} {Q : Value → Shared → Prop} (I : Inv X pins σ H s) (hg : Gl X x) (hm : X.mg x = none) (hv : bootBuiltins x = some u) (h : Q u s)
    (hn : x ≠ "__name__" := by decide) (hd : (x == ("__debug__" : Str)) = false := by decide) : wpAny (model X.prog X.w) X.A (eval (.Name x pos) X.env) Q E s := by
  obtain ⟨mb, h1, h2⟩ := I.mod.blt
  exact Calls.Name_function_global I.ok.kind hg (Calls.loadGlobal_builtin (by rw [I.ok.glob]; exact I.mod.glob.keeps I.bk) hm (by rw [I.ok.blt]; exact h1.keeps I.bk) ((h2 x hn).trans hv) h) hd
theorem pe_glob {x : Str} {v : V} {u : Value} {pos : Pos} (hg : Gl X x) (hm : X.mg x = some u) (r : RelV v u) (hd : (x == ("__debug__" : Str)) = false := by decide) : PE X (.Name x pos) (tC v) :=
  fun _ _ _ H _ I h => ld_glob I hg hm ⟨v, H, I, r, h⟩ hd
theorem zd5 {x : Str} {v : V} {u : Value} {pos : Pos} (hg : Gl X x) (hm : X.mg x = none) (hv : bootBuiltins x = some u) (r : RelV v u) (hn : x ≠ "__name__" := by decide) (hd : (x == ("__debug__" : Str)) = false := by decide) : PE X (.Name x pos) (tC v) :=
  fun _ _ _ H _ I h => zeq I hg hm hv ⟨v, H, I, r, h⟩ hn hd
def t2I (ta tb : TE) (k : Int → Int → Hp → Prop) : St → Hp → Prop := fun σ H => ta σ H fun x H1 => tb σ H1 fun y H2 => ∃ i j, x = .int i ∧ y = .int j ∧ k i j H2
def tAdd (ta tb : TE) : TE := fun σ H Q => t2I ta tb (fun i j H2 => Q (.int (i + j)) H2) σ H
def tSub (ta tb : TE) : TE := fun σ H Q => t2I ta tb (fun i j H2 => Q (.int (i - j)) H2) σ H
def tMul (ta tb : TE) : TE := fun σ H Q => t2I ta tb (fun i j H2 => (-(2 ^ 64) < i ∧ i < 2 ^ 64) ∧ Q (.int (i * j)) H2) σ H
variable {a b : Expr} {ta tb : TE} {pos : Pos}
def PC (X : Cx) (op : CmpOp) (a b : Expr) (t : TE) : Prop :=
  ∀ (pins : List (Addr × Obj)) (s : Shared) (σ : St) (H : Hp) (Q : VK), Inv X pins σ H s → t σ H Q →
    wpAny (model X.prog X.w) X.A (eval a X.env) (fun v s₁ => wpAny (model X.prog X.w) X.A (eval b X.env) (fun u s₂ => wpAny (model X.prog X.w) X.A (compareOp op v u) (EP X pins σ Q) X.xe s₂) X.xe s₁) X.xe s
def tCmp (p : Int → Int → Bool) (ta tb : TE) : TE := fun σ H Q => t2I ta tb (fun i j H2 => Q (.bl (p i j)) H2) σ H
abbrev tLt : TE → TE → TE := tCmp fun i j => decide (i < j)
abbrev tLe : TE → TE → TE := tCmp fun i j => decide (i ≤ j)
abbrev tGt : TE → TE → TE := tCmp fun i j => decide (j < i)
abbrev tGe : TE → TE → TE := tCmp fun i j => decide (j ≤ i)
abbrev tEqI : TE → TE → TE := tCmp fun i j => decide (i = j)
abbrev tNeI : TE → TE → TE := tCmp fun i j => !decide (i = j)
def tIsN (ta : TE) : TE := fun σ H Q => ta σ H fun x H1 => Q (.bl (decide (x = .non))) H1
def tNotN (ta : TE) : TE := fun σ H Q => ta σ H fun x H1 => Q (.bl (!decide (x = .non))) H1
def tB (t : TE) : TT := fun σ H Q => t σ H fun x H1 => ∃ c, x = .bl c ∧ Q c H1
theorem zcW {e : Expr} {t : TE} (h : PE X e t) (he : ∀ whole, isTrue e X.env whole = (do let v ← whole; standAt e.pos; holding [v] (truthy v)) := by intro _; rfl) : PT X e (tB t) := by
  intro pins s σ H Q I hw
  refine isTrue_plain (thn (h pins s σ H _ I hw) fun v s1 ⟨x, H1, I1, r1, q1⟩ => ?_) (he _)
  obtain ⟨d, rfl, q⟩ := q1
  cases r1
  exact wpAny_truthy_bool ⟨H1, I1, q⟩
variable {tA tB' : TT} {rest : List Expr}
def tAnd (t u : TT) : TT := fun σ H Q => t σ H fun c H1 => if c = true then u σ H1 Q else Q false H1
def tOr (t u : TT) : TT := fun σ H Q => t σ H fun c H1 => if c = true then Q true H1 else u σ H1 Q
def tNot (t : TT) : TT := fun σ H Q => t σ H fun c H1 => Q (!c) H1
theorem zht (ha : PT X a tA) : PW X (.BoolOp .And [a] pos) tA := by
  intro wh pins s σ H Q I h
  refine isTrue_and (thn (ha pins s σ H Q I h) fun c s1 e => ?_)
  cases c with
  | true => exact isTrue_and_nil e
  | false => exact e
theorem zij (ha : PT X a tA) : PW X (.BoolOp .Or [a] pos) tA := by
  intro wh pins s σ H Q I h
  refine isTrue_or (thn (ha pins s σ H Q I h) fun c s1 e => ?_)
  cases c with
  | false => exact isTrue_or_nil e
  | true => exact e
theorem pw_and (ha : PT X a tA) (hb : PW X (.BoolOp .And (b :: rest) pos) tB') : PW X (.BoolOp .And (a :: b :: rest) pos) (tAnd tA tB') := by
  intro wh pins s σ H Q I h
  refine isTrue_and (thn (ha pins s σ H _ I h) fun c s1 ⟨H1, I1, q1⟩ => ?_)
  cases c with
  | true => exact hb wh pins s1 σ H1 Q I1 q1
  | false => exact ⟨H1, I1, q1⟩
theorem zhs (ha : PT X a tA) (hb : PW X (.BoolOp .Or (b :: rest) pos) tB') : PW X (.BoolOp .Or (a :: b :: rest) pos) (tOr tA tB') := by
  intro wh pins s σ H Q I h
  refine isTrue_or (thn (ha pins s σ H _ I h) fun c s1 ⟨H1, I1, q1⟩ => ?_)
  cases c with
  | true => exact ⟨H1, I1, q1⟩
  | false => exact hb wh pins s1 σ H1 Q I1 q1
theorem zdw (ha : PT X a tA) : PT X (.UnaryOp .Not a pos) (tNot tA) := by
  intro pins s σ H Q I h
  exact isTrue_not (ha pins s σ H (fun c H1 => Q (!c) H1) I h)
def tAndV (ta tb : TE) : TE := fun σ H Q => ta σ H fun x H1 => ∃ c, x = .bl c ∧ if c = true then tb σ H1 Q else Q (.bl false) H1
def tOrV (ta tb : TE) : TE := fun σ H Q => ta σ H fun x H1 => ∃ c, x = .bl c ∧ if c = true then Q (.bl true) H1 else tb σ H1 Q
def tNotV (ta : TE) : TE := fun σ H Q => ta σ H fun x H1 => ∃ c, x = .bl c ∧ Q (.bl (!c)) H1
theorem pe_one {op} {t : TE} (h : PE X a t) : PE X (.BoolOp op [a] pos) t := fun pins s σ H Q I hw => BoolOp_one (h pins s σ H Q I hw)
theorem pe_and (ha : PE X a ta) (hb : PE X (.BoolOp .And (b :: rest) pos) tb) : PE X (.BoolOp .And (a :: b :: rest) pos) (tAndV ta tb) := by
  intro pins s σ H Q I h
  refine BoolOp_and (thn (ha pins s σ H _ I h) fun v s1 ⟨x, H1, I1, r1, q1⟩ => ?_)
  obtain ⟨c, rfl, q1⟩ := q1
  cases r1
  refine wpAny_truthy_bool ?_
  cases c with
  | true => exact hb pins s1 σ H1 Q I1 q1
  | false => exact ⟨.bl false, H1, I1, rfl, q1⟩
theorem pe_not (ha : PE X a ta) : PE X (.UnaryOp .Not a pos) (tNotV ta) := by
  intro pins s σ H Q I h
  refine UnaryOp_ (thn (ha pins s σ H _ I h) fun v s1 ⟨x, H1, I1, r1, q1⟩ => ?_)
  obtain ⟨c, rfl, q1⟩ := q1
  cases r1
  exact not_of (wpAny_truthy_bool ⟨.bl (!c), H1, I1, rfl, q1⟩)
def tIf (t : TT) (ta tb : TE) : TE := fun σ H Q => t σ H fun c H1 => if c = true then ta σ H1 Q else tb σ H1 Q
theorem zil {c : Expr} (hc : PT X c tA) (ha : PE X a ta) (hb : PE X b tb) : PE X (.IfExp c a b pos) (tIf tA ta tb) := by
  intro pins s σ H Q I h
  refine wpAny_IfExp (thn (hc pins s σ H _ I h) fun d s1 ⟨H1, I1, q1⟩ => ?_)
  cases d with
  | true => exact ha pins s1 σ H1 Q I1 q1
  | false => exact hb pins s1 σ H1 Q I1 q1
end
end L2
namespace L2
open PySem PySem.Spec PyProof.Rows
def SqL (K : PySem.W.Frag) (H : Hp) (a : Addr) (xs : List V) : Prop :=
  Rd H a (.lst xs) ∨
    ∃ (o : Obj) (its : Array Value) (n : Nat), K.lookup a = some o ∧ o.cls = .type "list" ∧ o.dict = none ∧ o.data = .seq its n ∧ its.size ≤ sizeLine ∧ Vals xs its.toList
def SqT (K : PySem.W.Frag) (H : Hp) (a : Addr) (xs : List V) : Prop :=
  Rd H a (.tup xs) ∨
    ∃ (o : Obj) (its : Array Value) (n : Nat), K.lookup a = some o ∧ o.cls = .type "tuple" ∧ o.data = .seq its n ∧ its.size ≤ sizeLine ∧ Vals xs its.toList
def absV : Value → Option V
  | .none => some .non
  | .bool b => some (.bl b)
  | .int i _ => some (.int i)
  | .str x _ => some (.str x)
  | .bytes b _ => some (.byt b)
  | .float b _ => some (.flt b)
  | .ref a => some (.ref a)
  | .type n => some (.ty n)
  | _ => none
theorem RelV.abs {x : V} {u : Value} (r : RelV x u) : absV u = some x := by
  cases x with
  | non => cases r; rfl
  | bl _ => cases r; rfl
  | int _ => obtain ⟨t, rfl⟩ := r; rfl
  | str _ => obtain ⟨t, rfl⟩ := r; rfl
  | byt _ => obtain ⟨t, rfl⟩ := r; rfl
  | flt _ => obtain ⟨t, rfl⟩ := r; rfl
  | ref _ => cases r; rfl
  | ty _ => cases r; rfl
theorem RelV.inj {x y : V} {u : Value} (r : RelV x u) (q : RelV y u) : x = y := Option.some.inj (r.abs.symm.trans q.abs)
theorem Vals.inj : ∀ {xs ys : List V} {us : List Value}, Vals xs us → Vals ys us → xs = ys
  | _, _, _, .nil, .nil => rfl
  | _, _, _, .cons r t, .cons r' t' => by rw [r.inj r', Vals.inj t t']
section
variable {X : Cx} {pins : List (Addr × Obj)} {σ : St} {H : Hp} {s : Shared} {a : Addr} {xs ys : List V}
theorem SqL.of {K : PySem.W.Frag} (h : H a = some (.lst xs)) : SqL K H a xs := .inl (.inl h)
theorem SqT.of {K : PySem.W.Frag} (h : H a = some (.tup xs)) : SqT K H a xs := .inl (.inl h)
theorem Inv.list (I : Inv X pins σ H s) (h : SqL X.K H a xs) : ∃ its : List Value, Vals xs its ∧ PlainL s.heap a its.toArray ∧ xs.length ≤ sizeLine := by
  rcases h with h | ⟨o, its, n, hk, hc, hd, hs, hz, r⟩
  · obtain ⟨z, its, n, r, e⟩ := h.ok I.hok
    exact ⟨its, r, ⟨_, n, e, rfl, rfl, rfl⟩, z⟩
  · refine ⟨its.toList, r, ⟨o, n, I.kIn a o hk, hc, hd, by simpa using hs⟩, ?_⟩
    have e := r.length
    simp only [Array.length_toList] at e
    omega
theorem Inv.tuple (I : Inv X pins σ H s) (h : SqT X.K H a xs) : ∃ its : List Value, Vals xs its ∧ IsTup s.heap a its.toArray ∧ xs.length ≤ sizeLine := by
  rcases h with h | ⟨o, its, n, hk, hc, hs, hz, r⟩
  · obtain ⟨z, its, r, p⟩ := h.ok I.hok
    exact ⟨its, r, p, z⟩
  · refine ⟨its.toList, r, ⟨o, I.kIn a o hk, hc, n, by simpa using hs⟩, ?_⟩
    have e := r.length
    simp only [Array.length_toList] at e
    omega
theorem Inv.list_inj (I : Inv X pins σ H s) (h : SqL X.K H a xs) (h' : SqL X.K H a ys) : xs = ys := by
  obtain ⟨its, r, ⟨o, n, e, _, _, d⟩, _⟩ := I.list h
  obtain ⟨its', r', ⟨o', n', e', _, _, d'⟩, _⟩ := I.list h'
  rw [e] at e'; cases e'
  rw [d] at d'
  injection d' with d1 _
  have : its = its' := by simpa using congrArg Array.toList d1
  subst this
  exact r.inj r'
theorem Inv.tuple_inj (I : Inv X pins σ H s) (h : SqT X.K H a xs) (h' : SqT X.K H a ys) : xs = ys := by
  obtain ⟨its, r, ⟨o, e, _, n, d⟩, _⟩ := I.tuple h
  obtain ⟨its', r', ⟨o', e', _, n', d'⟩, _⟩ := I.tuple h'
  rw [e] at e'; cases e'
  rw [d] at d'
  injection d' with d1 _
  have : its = its' := by simpa using congrArg Array.toList d1
  subst this
  exact r.inj r'
end
abbrev Cx.wish (X : Cx) (E : Value → Shared → Prop) : Cx := { X with xe := E }
abbrev Cx.nox (X : Cx) : Cx := X.wish fun _ _ => False
theorem Cx.Ok.wish {X : Cx} (ok : X.Ok) (E : Value → Shared → Prop) : (X.wish E).Ok :=
  ⟨ok.mod, ok.kind, ok.glob, ok.blt, ok.above, ok.inj, ok.has, ok.cab, ok.hd, ok.frames, ok.stk, ok.exf, ok.bs, ok.bsz, ok.noex, ok.exfs, ok.funs, ok.frf⟩
theorem Cx.Ok.unwish {X : Cx} {E : Value → Shared → Prop} (ok : (X.wish E).Ok) : X.Ok :=
  ⟨ok.mod, ok.kind, ok.glob, ok.blt, ok.above, ok.inj, ok.has, ok.cab, ok.hd, ok.frames, ok.stk, ok.exf, ok.bs, ok.bsz, ok.noex, ok.exfs, ok.funs, ok.frf⟩
section
variable {X : Cx} {pins : List (Addr × Obj)} {σ : St} {H : Hp} {s : Shared} {E : Value → Shared → Prop}
theorem Inv.wish (I : Inv X pins σ H s) (E : Value → Shared → Prop) : Inv (X.wish E) pins σ H s := ⟨I.ok.wish E, I.os, I.bare, I.base, I.loc, I.cell, I.free, I.freeC, I.pin, I.hok, I.len⟩
theorem Inv.unwish (I : Inv (X.wish E) pins σ H s) : Inv X pins σ H s := ⟨I.ok.unwish, I.os, I.bare, I.base, I.loc, I.cell, I.free, I.freeC, I.pin, I.hok, I.len⟩
theorem SP.unwish {D : Ends} {f : Flow} {s' : Shared} (h : SP (X.wish E) pins D f s') : SP X pins D f s' := by
  cases f with
  | next => obtain ⟨σ', H', I, q⟩ := h; exact ⟨σ', H', I.unwish, q⟩
  | brk => obtain ⟨σ', H', I, q⟩ := h; exact ⟨σ', H', I.unwish, q⟩
  | cont => obtain ⟨σ', H', I, q⟩ := h; exact ⟨σ', H', I.unwish, q⟩
  | ret u => obtain ⟨v, σ', H', I, r, q⟩ := h; exact ⟨v, σ', H', I.unwish, r, q⟩
theorem PE.nox {e : Expr} {t : TE} (h : PE X.nox e t) : PE X e t := fun pins s σ H Q I hw =>
  wpAny_mono (h pins s σ H Q (I.wish _) hw) (fun _ _ ⟨v, H', I', r, q⟩ => ⟨v, H', I'.unwish, r, q⟩) fun _ _ z => False.elim z
theorem PT.nox {e : Expr} {t : TT} (h : PT X.nox e t) : PT X e t := fun pins s σ H Q I hw =>
  wpAny_mono (h pins s σ H Q (I.wish _) hw) (fun _ _ ⟨H', I', q⟩ => ⟨H', I'.unwish, q⟩) fun _ _ z => False.elim z
theorem PSs.nox {st : List Stmt} {t : TS} (h : PSs X.nox st t) : PSs X st t := fun pins s σ H D I hw =>
  wpAny_mono (h pins s σ H D (I.wish _) hw) (fun _ _ q => q.unwish) fun _ _ z => False.elim z
end
section
variable {X : Cx} {st : Stmt} {rest : List Stmt} {t u : TS} {e : Expr} {te : TE} {pos : Pos}
def tNext : TS := fun D σ H => D.nx σ H
def tSeq (t u : TS) : TS := fun D σ H => t { D with nx := u D } σ H
theorem zaT : PSs X [] tNext := fun _ _ σ H _ I h => wpAny_execs_nil ⟨σ, H, I, h⟩
theorem zae (h1 : PS X st t) (h2 : PSs X rest u) : PSs X (st :: rest) (tSeq t u) := by
  intro pins s σ H D I h
  refine wpAny_execs_cons (thn (h1 pins s σ H { D with nx := u D } I h) fun f s1 q => ?_)
  cases f with
  | next =>
    obtain ⟨σ', H', I', q⟩ := q
    exact h2 pins s1 σ' H' D I' q
  | ret v => exact q
  | brk => exact q
  | cont => exact q
theorem zai (h1 : PS X st t) : PSs X [st] t := by
  intro pins s σ H D I h
  refine wpAny_execs_cons (thn (h1 pins s σ H D I h) fun f s1 q => ?_)
  cases f with
  | next => exact wpAny_execs_nil q
  | ret v => exact q
  | brk => exact q
  | cont => exact q
def tBreak : TS := fun D σ H => D.bk σ H
def tCont : TS := fun D σ H => D.ct σ H
theorem Inv.quiet {pins : List (Addr × Obj)} {σ : St} {H : Hp} {s : Shared} (I : Inv X pins σ H s) : interactive X.env = false := by simp [interactive, I.ok.kind]
def tDrop (te : TE) : TS := fun D σ H => te σ H fun _ H1 => D.nx σ H1
theorem za3 (he : PE X e te) (hs : swapsWith e none pos.line X.env = pure false := by rfl) : PS X (.Expr e pos) (tDrop te) := by
  intro pins s σ H D I h
  exact wpAny_Expr_any (thn (he pins s σ H _ I h) fun v s1 ⟨x, H1, I1, r1, q1⟩ => ⟨σ, H1, I1, q1⟩) I.quiet hs
def tRet (te : TE) : TS := fun D σ H => te σ H D.rt
theorem zaz (he : PE X e te) : PS X (.Return (some e) pos) (tRet te) := by
  intro pins s σ H D I h
  exact wpAny_Return_some (thn (he pins s σ H _ I h) fun v s1 ⟨x, H1, I1, r1, q1⟩ => ⟨x, σ, H1, I1, r1, q1⟩)
def tRetN : TS := fun D _ H => D.rt .non H
def tIfS (c : TT) (t u : TS) : TS := fun D σ H => c σ H fun b H1 => if b = true then t D σ H1 else u D σ H1
theorem zcq {c : Expr} {a b : List Stmt} {tc : TT} (hc : PT X c tc) (ha : PSs X a t) (hb : PSs X b u) : PS X (.If c a b pos) (tIfS tc t u) := by
  intro pins s σ H D I h
  refine wpAny_If (thn (hc pins s σ H _ I h) fun d s1 ⟨H1, I1, q1⟩ => ?_)
  cases d with
  | true => exact ha pins s1 σ H1 D I1 q1
  | false => exact hb pins s1 σ H1 D I1 q1
def tNever : TS := fun _ _ _ => False
end
abbrev TG := V → St → Hp → (St → Hp → Prop) → Prop
abbrev TGs := List V → St → Hp → (St → Hp → Prop) → Prop
def PG (X : Cx) (target : Expr) (t : TG) : Prop :=
  ∀ (pins : List (Addr × Obj)) (s : Shared) (σ : St) (H : Hp) (v : V) (u : Value) (Q : St → Hp → Prop), Inv X pins σ H s → RelV v u → t v σ H Q →
    wpAny (model X.prog X.w) X.A (assign target X.env u) (fun _ s' => ∃ σ' H', Inv X pins σ' H' s' ∧ Q σ' H') X.xe s
def PGs (X : Cx) (ts : List Expr) (t : TGs) : Prop :=
  ∀ (pins : List (Addr × Obj)) (s : Shared) (σ : St) (H : Hp) (vs : List V) (us : List Value) (Q : St → Hp → Prop), Inv X pins σ H s → Vals vs us → t vs σ H Q →
    wpAny (model X.prog X.w) X.A (assignInOrder ((assignEach ts X.env).map (·.2)) us) (fun _ s' => ∃ σ' H', Inv X pins σ' H' s' ∧ Q σ' H') X.xe s
abbrev TSet := V → V → V → Hp → (Hp → Prop) → Prop
def PSet (X : Cx) (t : TSet) : Prop :=
  ∀ (pins : List (Addr × Obj)) (s : Shared) (σ : St) (H : Hp) (o i v : V) (ov iv u : Value) (Q : Hp → Prop), Inv X pins σ H s → RelV o ov → RelV i iv → RelV v u → t o i v H Q →
    wpAny (model X.prog X.w) X.A (setItem ov iv u) (fun _ s' => ∃ H', Inv X pins σ H' s' ∧ Q H') X.xe s
abbrev TIp := V → V → Hp → VK → Prop
def PIp (X : Cx) (op : Operator) (t : TIp) : Prop :=
  ∀ (pins : List (Addr × Obj)) (s : Shared) (σ : St) (H : Hp) (x y : V) (v u : Value) (Q : VK), Inv X pins σ H s → RelV x v → RelV y u → t x y H Q →
    wpAny (model X.prog X.w) X.A (inplaceOp op v u) (EP X pins σ Q) X.xe s
section
variable {X : Cx} {pos : Pos}
def zhN (i : Nat) : TG := fun v σ H Q => Q (σ.set i (some v)) H
theorem zal {i : Nat} {x : Str} (hN : X.N.Nodup) (hi : X.N[i]? = some x) (hx : Loc X.env.scope x) (hf : X.fn x = true ∨ X.env.scope.names.lookup x = some .local := by first | exact .inl rfl | exact .inr rfl | assumption) : PG X (.Name x pos) (zhN i) := by
  intro pins s σ H v u Q I r h
  exact wpAny_assign_Name (zia I hN hi hx r (fun s' I' => ⟨_, H, I', h⟩) hf)
def gNil : TGs := fun vs σ H Q => vs = [] ∧ Q σ H
def gCons (t : TG) (u : TGs) : TGs := fun vs σ H Q => ∃ v r, vs = v :: r ∧ t v σ H fun σ' H' => u r σ' H' Q
theorem zd3 : PGs X [] gNil := by
  intro pins s σ H vs us Q I r h
  obtain ⟨e, h⟩ := h
  subst e
  cases r
  exact assignInOrder_nil ⟨σ, H, I, h⟩
theorem zbl {e : Expr} {es : List Expr} {t : TG} {u : TGs} (h1 : PG X e t) (h2 : PGs X es u)
    (hs : (assignEach (e :: es) X.env).map (·.2) = assign e X.env :: (assignEach es X.env).map (·.2) := by rfl) : PGs X (e :: es) (gCons t u) := by
  intro pins s σ H vs us Q I r h
  obtain ⟨v, vr, e1, h⟩ := h
  subst e1
  cases r with
  | cons r rr =>
    rw [hs]
    refine assignInOrder_cons (thn (h1 pins s σ H _ _ _ I r h) fun _ s1 ⟨σ1, H1, I1, q1⟩ => ?_)
    exact h2 pins s1 σ1 H1 _ _ Q I1 rr q1
def gTup (K : PySem.W.Frag) (n : Nat) (t : TGs) : TG := fun v σ H Q => ∃ a xs, v = .ref a ∧ SqT K H a xs ∧ xs.length = n ∧ t xs σ H Q
theorem zfe {es : List Expr} {k : Nat} {t : TGs} {n : Nat} (hc : X.calm = true) (h : PGs X es t)
    (hn : (assignEach es X.env).length = n := by rfl) (hst : (assignEach es X.env).findIdx? (·.1) = none := by rfl) : PG X (.Tuple es k pos) (gTup X.K n t) := by
  intro pins s σ H v u Q I r hw
  obtain ⟨a, xs, e1, hq, hl, hw⟩ := hw
  subst e1
  cases r
  obtain ⟨its, rv, ht, hz⟩ := I.tuple hq
  refine assign_Tuple_tuple (I.ok.hd hc) ht (by simp [hn, ← hl, rv.length]) hst fun h' hx => ?_
  have I1 : Inv X pins σ H { s with heap := h' } := I.kept (t' := s.toks) fun b o e => hx b o (Nat.ne_of_lt (Heap.lt_size e)) e
  exact h pins _ σ H xs _ Q I1 (by simpa using rv) hw
def gSub (to ti : TE) (t : TSet) : TG := fun v σ H Q => to σ H fun o H1 => ti σ H1 fun i H2 => t o i v H2 fun H3 => Q σ H3
theorem zfN {o i : Expr} {to ti : TE} {t : TSet} (ho : PE X o to) (hi : PE X i ti) (hs : PSet X t)
    (ha : ∀ v, assign (.Subscript o i pos) X.env v = (do
      let ov ← holding [v] (eval o X.env)
      let iv ← holding [v, ov] (eval i X.env)
      standAt pos
      holding [v, ov, iv] (setItem ov iv v)
      release [v, ov, iv] []) := by intro _; rfl) : PG X (.Subscript o i pos) (gSub to ti t) := by
  intro pins s σ H v u Q I r h
  rw [ha]
  refine wpAny_bind (wpAny_holding (thn (ho pins s σ H _ I h) fun ov s1 ⟨x, H1, I1, r1, q1⟩ => ?_))
  refine wpAny_bind (wpAny_holding (thn (hi pins s1 σ H1 _ I1 q1) fun iv s2 ⟨y, H2, I2, r2, q2⟩ => ?_))
  refine wpAny_bind (wpAny_standAt (wpAny_bind (wpAny_holding (thn (hs pins s2 σ H2 x y v ov iv u _ I2 r1 r2 r q2) fun _ s3 ⟨H3, I3, q3⟩ => ?_))))
  exact wpAny_release ⟨σ, H3, I3, q3⟩
def tAsg (te : TE) (g : TG) : TS := fun D σ H => te σ H fun x H1 => g x σ H1 D.nx
theorem zeS {tg e : Expr} {te : TE} {g : TG} (he : PE X e te) (hg : PG X tg g) (hs : swapsWithSole [tg] e pos.line X.env = pure false := by rfl) (hw : swappedStores [tg] e X.env = pure none := by rfl)
    (h1 : (assignEach [tg] X.env).map (·.2) = [assign tg X.env] := by rfl) : PS X (.Assign [tg] e pos) (tAsg te g) := by
  intro pins s σ H D I h
  refine wpAny_Assign_stores (thn (he pins s σ H _ I h) fun v s1 ⟨x, H1, I1, r1, q1⟩ => ?_) hs hw
  rw [h1]
  exact thn (hg pins s1 σ H1 x v _ I1 r1 q1) fun _ s2 q => q
theorem zaw {i : Nat} {x : Str} {e : Expr} {te : TE} {pos' : Pos} (hN : X.N.Nodup) (hi : X.N[i]? = some x) (hx : Loc X.env.scope x) (he : PE X e te) (hs : swapsWith e (some (.Name x pos')) pos.line X.env = pure false := by rfl) (hf : X.fn x = true ∨ X.env.scope.names.lookup x = some .local := by first | exact .inl rfl | exact .inr rfl | assumption) :
    PS X (.Assign [.Name x pos'] e pos) (tAsg te (zhN i)) := by
  intro pins s σ H D I h
  refine wpAny_Assign_Name (thn (he pins s σ H _ I h) fun v s1 ⟨y, H1, I1, r1, q1⟩ => ?_) hs
  exact zia I1 hN hi hx r1 (fun s2 I2 => ⟨_, H1, I2, q1⟩) hf
def tPar (i j : Nat) (ta : TA) : TS := fun D σ H => ta σ H fun vs H1 => ∃ v w, vs = [v, w] ∧ D.nx ((σ.set i (some v)).set j (some w)) H1
def tAug (i : Nat) (te : TE) (ti : TIp) : TS := fun D σ H => ∃ x, σ[i]? = some (some x) ∧ te σ H fun y H1 => ti x y H1 fun z H2 => D.nx (σ.set i (some z)) H2
def tAugS (to ti te : TE) (tget : V → V → Hp → VK → Prop) (tip : TIp) (tset : TSet) : TS := fun D σ H => to σ H fun o H1 => ti σ H1 fun i H2 => tget o i H2 fun x H3 => te σ H3 fun y H4 => tip x y H4 fun z H5 => tset o i z H5 fun H6 => D.nx σ H6
def PGet (X : Cx) (t : V → V → Hp → VK → Prop) : Prop :=
  ∀ (pins : List (Addr × Obj)) (s : Shared) (σ : St) (H : Hp) (o i : V) (ov iv : Value) (Q : VK), Inv X pins σ H s → RelV o ov → RelV i iv → t o i H Q →
    wpAny (model X.prog X.w) X.A (getItem ov iv) (EP X pins σ Q) X.xe s
def ipI (f : Int → Int → Int) : TIp := fun x y H Q => ∃ i j, x = .int i ∧ y = .int j ∧ Q (.int (f i j)) H
end
section
variable {X : Cx} {pos : Pos}
def tWhile (c : TT) (tb : TS) : TS := fun D σ H => ∃ W : Nat → St → Hp → Prop, (∃ m, W m σ H) ∧ ∀ m σ H, W m σ H →
  c σ H fun b H1 => if b = true then ∃ N : St → Hp → Prop, (∀ σ' H', N σ' H' → ∃ m', m' < m ∧ W m' σ' H') ∧ tb { D with nx := N, ct := N, bk := D.nx } σ H1 else D.nx σ H1
theorem ps_while {c : Expr} {body : List Stmt} {tc : TT} {tb : TS} (hp : PassesOwn (model X.prog X.w) X.A X.env X.xe) (hc : PT X c tc) (hb : PSs X body tb) : PS X (.While c body [] pos) (tWhile tc tb) := by
  intro pins s σ H D I h
  obtain ⟨W, ⟨m0, w0⟩, turn⟩ := h
  refine wpAny_While (codeAny_whileLoop (fun n s' => ∃ σ' H', Inv X pins σ' H' s' ∧ W n σ' H') ?_ m0 ⟨σ, H, I, w0⟩)
  rintro n s1 ⟨σ1, H1, I1, w1⟩
  refine wpAny_passesOwn hp (thn (hc pins s1 σ1 H1 _ I1 (turn n σ1 H1 w1)) fun b s2 ⟨H2, I2, q2⟩ => ?_)
  cases b with
  | true =>
    obtain ⟨N, hN, q2⟩ := q2
    rw [if_pos rfl]
    refine wpAny_passesOwn hp (thn (hb pins s2 σ1 H2 _ I2 q2) fun f s3 q3 => ?_)
    cases f with
    | next =>
      obtain ⟨σ3, H3, I3, n3⟩ := q3
      obtain ⟨m', hm, w3⟩ := hN σ3 H3 n3
      exact ⟨m', hm, σ3, H3, I3, w3⟩
    | cont =>
      obtain ⟨σ3, H3, I3, n3⟩ := q3
      obtain ⟨m', hm, w3⟩ := hN σ3 H3 n3
      exact ⟨m', hm, σ3, H3, I3, w3⟩
    | brk => exact q3
    | ret v => exact q3
  | false =>
    rw [if_neg Bool.false_ne_true]
    exact wpAny_execs_nil ⟨σ1, H2, I2, q2⟩
end
structure It where
  go : Nat → Hp → Prop
  yld : Nat → Hp → V → Hp → Prop
  stop : Nat → Hp → Prop
def FpOk (X : Cx) (pins : List (Addr × Obj)) (H : Hp) (b : Addr) : Prop :=
  H b = none ∧ b ≠ X.env.locals ∧ b ∉ X.fs ∧ (b ∈ X.ex ∨ X.s₀.heap.objs.size ≤ b) ∧ (∀ x c, X.env.cells.lookup x = some c → c ≠ b) ∧ ∀ p ∈ X.pn ++ pins, p.1 ≠ b
theorem Inv.fpOk {X : Cx} {pins : List (Addr × Obj)} {σ : St} {H H' : Hp} {s : Shared} {b : Addr} (I : Inv X pins σ H s) (hb : s.heap.objs.size ≤ b) (hn : H' b = none) : FpOk X pins H' b := by
  refine ⟨hn, Nat.ne_of_gt (Nat.lt_of_lt_of_le I.lt hb), I.nofs hb, .inr (Nat.le_trans I.sz hb), fun x c e z => ?_, fun p hp z => ?_⟩
  · obtain ⟨v, q⟩ := I.cell x c e
    exact absurd (Nat.lt_of_lt_of_le q.lt (by rw [z]; exact hb)) (Nat.lt_irrefl _)
  · exact absurd (Nat.lt_of_lt_of_le (Heap.lt_size (I.pin p hp).1) (by rw [z]; exact hb)) (Nat.lt_irrefl _)
structure Turn (P : Program) (w : World) (K : PySem.W.Frag) (tg : Expr) (J : It) (fp : List Addr) (it : Addr) (tn : Nat → Heap → Prop) : Prop where
  mem : it ∈ fp
  obj : ∀ i h, tn i h → ∀ b ∈ fp, ∃ o, h.get? b = some o ∧ ∀ v, o.data ≠ .cell v
  keep : ∀ i h h', tn i h → (∀ b ∈ fp, ∀ o, h.get? b = some o → h'.get? b = some o) → tn i h'
  item : ∀ (X : Cx), X.prog = P → X.w = w → X.K = K → X.calm = true → ∀ (i : Nat) (pins : List (Addr × Obj)) (s : Shared) (σ : St) (H : Hp) (E : Value → Shared → Prop), Inv X pins σ H s → (∀ b ∈ fp, FpOk X pins H b) → tn i s.heap → J.go i H →
    wpAny (model P w) X.A (pyNext (.ref it)) (fun r s1 => ∃ u, r = some u ∧
      wpAny (model P w) X.A (letOwnedTupleGo tg (.ref it) u) (fun _ s2 => ∃ x H', Inv X pins σ H' s2 ∧ RelV x u ∧ J.yld i H x H' ∧ tn (i + 1) s2.heap ∧ ∀ b ∈ fp, H' b = none) E s1) E s
  done : ∀ (X : Cx), X.prog = P → X.w = w → X.K = K → X.calm = true → ∀ (i : Nat) (pins : List (Addr × Obj)) (s : Shared) (σ : St) (H : Hp) (E : Value → Shared → Prop), Inv X pins σ H s → (∀ b ∈ fp, FpOk X pins H b) → tn i s.heap → J.stop i H →
    wpAny (model P w) X.A (pyNext (.ref it)) (fun r s1 => r = none ∧ Inv X pins σ H s1) E s
  self : ∀ (A : Around) (i : Nat) (s : Shared) (Q : Value → Shared → Prop) (E : Value → Shared → Prop), tn i s.heap → Q (.ref it) s → wpAny (model P w) A (pyIter (.ref it)) Q E s
abbrev TI := St → Hp → (It → Hp → Prop) → Prop
def PIE (X : Cx) (pins : List (Addr × Obj)) (σ : St) (tg : Expr) (R : It → Hp → Prop) (itv : Value) (s2 : Shared) : Prop :=
  ∃ (it : Addr) (fp : List Addr) (tn : Nat → Heap → Prop) (J : It) (H' : Hp), itv = .ref it ∧ Inv X pins σ H' s2 ∧ Turn X.prog X.w X.K tg J fp it tn ∧ tn 0 s2.heap ∧ (∀ b ∈ fp, FpOk X pins H' b) ∧ R J H'
def PI (X : Cx) (tg iter : Expr) (wi : TI) : Prop :=
  ∀ (pins : List (Addr × Obj)) (s : Shared) (σ : St) (H : Hp) (R : It → Hp → Prop), Inv X pins σ H s → wi σ H R →
    wpAny (model X.prog X.w) X.A (eval iter X.env) (fun v s1 => wpAny (model X.prog X.w) X.A (pyIter v) (PIE X pins σ tg R) X.xe s1) X.xe s
theorem go_of {M : Model} {A : Around} {E : Value → Shared → Prop} {s : Shared} {tg : Expr} {it : Addr} {u : Value} {o : Obj} {n : String} {vs : Array Value} {Q : Unit → Shared → Prop} (ho : s.heap.get? it = some o) (hc : o.cls = .type n) (hd : o.data = .fields vs)
    (hn : ["enumerate", "zip", "dict_itemiterator", "dict_reverseitemiterator", "odict_iterator", "itertools.zip_longest", "itertools.pairwise"].contains n = false) (hQ : Q () s) : wpAny M A (letOwnedTupleGo tg (.ref it) u) Q E s := by
  unfold letOwnedTupleGo
  cases tg <;> first
    | exact wpAny_pure hQ
    | (cases u <;> first
        | exact wpAny_pure hQ
        | (refine wpAny_bind (wpAny_load ho ?_)
           rw [hc, hd]
           show wpAny M A (if (["enumerate", "zip", "dict_itemiterator", "dict_reverseitemiterator", "odict_iterator", "itertools.zip_longest", "itertools.pairwise"].contains n && vs[0]? == some (rawInt _)) = true then _ else _) Q E s
           rw [if_neg (by intro h; rw [hn, Bool.false_and] at h; cases h)]
           exact wpAny_pure hQ))
def Itl (K : PySem.W.Frag) (a : Addr) : It :=
  ⟨fun i H => ∃ xs x, SqL K H a xs ∧ xs[i]? = some x, fun i H x H' => H' = H ∧ ∀ xs, SqL K H a xs → xs[i]? = some x, fun i H => ∃ xs, SqL K H a xs ∧ xs.length ≤ i⟩
def Itt (K : PySem.W.Frag) (a : Addr) : It :=
  ⟨fun i H => ∃ xs x, SqT K H a xs ∧ xs[i]? = some x, fun i H x H' => H' = H ∧ ∀ xs, SqT K H a xs → xs[i]? = some x, fun i H => ∃ xs, SqT K H a xs ∧ xs.length ≤ i⟩
def Itr (lo : Int) (n : Nat) : It := ⟨fun i _ => i < n, fun i H x H' => H' = H ∧ x = .int (lo + i), fun i _ => n ≤ i⟩
theorem zjv {P : Program} {w : World} {K : PySem.W.Frag} {tg : Expr} (a it : Addr) : Turn P w K tg (Itl K a) [it] it (fun i h => h.IsListIter it a i) where
  mem := by simp
  obj := fun i h st b hb => by
    have e : b = it := by simpa using hb
    subst e
    obtain ⟨o, e, c, d⟩ := st
    exact ⟨o, e, fun v z => by rw [d] at z; cases z⟩
  keep := fun i h h' st k => st.at fun o e => k it (by simp) o e
  item := by
    intro X hP hw hK hc i pins s σ H E I hf st hg
    subst hP hw hK
    obtain ⟨xs, x, hq, hx⟩ := hg
    obtain ⟨its, rv, p, hz⟩ := I.list hq
    obtain ⟨u, hu, ru⟩ := rv.get hx
    obtain ⟨f0, f1, f2, f3, f4, f5⟩ := hf it (by simp)
    refine wpAny_pyNext_list_item st p.isList (x := u) (by simpa using hu) fun h' st' sb => ?_
    have I1 : Inv X pins σ H { s with heap := h' } := I.turned (t' := s.toks) (fun b o hb e => (sb.2 b hb).trans e) f0 f1 f3 f4 f5
    obtain ⟨o, e, c, d⟩ := id st'
    exact ⟨u, rfl, go_of (s := { s with heap := h' }) e c d (by decide) ⟨x, H, I1, ru, ⟨rfl, fun ys hy => by rw [I.list_inj hy hq]; exact hx⟩, st', fun b hb => (hf b hb).1⟩⟩
  done := by
    intro X hP hw hK hc i pins s σ H E I hf st hg
    subst hP hw hK
    obtain ⟨xs, hq, hx⟩ := hg
    obtain ⟨its, rv, p, hz⟩ := I.list hq
    obtain ⟨f0, f1, f2, f3, f4, f5⟩ := hf it (by simp)
    have hl := rv.length
    exact wpAny_pyNext_list_end (I.ok.hd hc) st p.isList (by simp; omega) fun h' eb => ⟨rfl, I.turned (t' := s.toks) (fun b o hb e => eb b o hb e) f0 f1 f3 f4 f5⟩
  self := fun _ _ _ _ _ st h => wpAny_pyIter_listiter st h
theorem zi0 {P : Program} {w : World} {K : PySem.W.Frag} {tg : Expr} (a it : Addr) : Turn P w K tg (Itt K a) [it] it (fun i h => h.IsTupleIter it a i) where
  mem := by simp
  obj := fun i h st b hb => by
    have e : b = it := by simpa using hb
    subst e
    obtain ⟨o, e, c, d⟩ := st
    exact ⟨o, e, fun v z => by rw [d] at z; cases z⟩
  keep := fun i h h' st k => st.at fun o e => k it (by simp) o e
  item := by
    intro X hP hw hK hc i pins s σ H E I hf st hg
    subst hP hw hK
    obtain ⟨xs, x, hq, hx⟩ := hg
    obtain ⟨its, rv, p, hz⟩ := I.tuple hq
    obtain ⟨u, hu, ru⟩ := rv.get hx
    obtain ⟨f0, f1, f2, f3, f4, f5⟩ := hf it (by simp)
    refine wpAny_pyNext_tuple_item st (show s.heap.IsTuple a its.toArray from p) (x := u) (by simpa using hu) fun h' st' sb => ?_
    have I1 : Inv X pins σ H { s with heap := h' } := I.turned (t' := s.toks) (fun b o hb e => (sb.2 b hb).trans e) f0 f1 f3 f4 f5
    obtain ⟨o, e, c, d⟩ := id st'
    exact ⟨u, rfl, go_of (s := { s with heap := h' }) e c d (by decide) ⟨x, H, I1, ru, ⟨rfl, fun ys hy => by rw [I.tuple_inj hy hq]; exact hx⟩, st', fun b hb => (hf b hb).1⟩⟩
  done := by
    intro X hP hw hK hc i pins s σ H E I hf st hg
    subst hP hw hK
    obtain ⟨xs, hq, hx⟩ := hg
    obtain ⟨its, rv, p, hz⟩ := I.tuple hq
    obtain ⟨f0, f1, f2, f3, f4, f5⟩ := hf it (by simp)
    have hl := rv.length
    exact wpAny_pyNext_tuple_end (I.ok.hd hc) st (show s.heap.IsTuple a its.toArray from p) (by simp; omega) fun h' eb => ⟨rfl, I.turned (t' := s.toks) (fun b o hb e => eb b o hb e) f0 f1 f3 f4 f5⟩
  self := fun _ _ _ _ _ st h => wpAny_pyIter_tupleiter st h
theorem zi1 {P : Program} {w : World} {K : PySem.W.Frag} {tg : Expr} (it : Addr) (lo : Int) (n : Nat) : Turn P w K tg (Itr lo n) [it] it (fun i h => IsRangeIter h it (lo + (i : Nat) * 1) ((n : Int) - (i : Nat)) 1) where
  mem := by simp
  obj := fun i h st b hb => by
    have e : b = it := by simpa using hb
    subst e
    exact ⟨_, st, fun v z => by
      have z' : Data.fields _ = Data.cell v := z
      cases z'⟩
  keep := fun i h h' st k => k it (by simp) _ st
  item := by
    intro X hP hw hK hc i pins s σ H E I hf st hg
    subst hP hw hK
    obtain ⟨f0, f1, f2, f3, f4, f5⟩ := hf it (by simp)
    have W := Walks.range (prog := X.prog) (w := X.w) (I.ok.hd hc) it lo 1 n
    refine W.item i s _ _ hg st fun v h' tk hv st' kk => ?_
    obtain ⟨t, rfl⟩ := hv
    have I1 : Inv X pins σ H { s with heap := h', toks := tk } := I.turned (fun b o hb e => kk b o (by simpa using hb) e) f0 f1 f3 f4 f5
    refine ⟨_, rfl, go_of (s := { s with heap := h', toks := tk }) (n := "range_iterator") st' rfl rfl (by decide) ⟨.int (lo + i), H, I1, ⟨t, ?_⟩, ⟨rfl, rfl⟩, st', fun b hb => (hf b hb).1⟩⟩
    rw [Int.mul_one]
  done := by
    intro X hP hw hK hc i pins s σ H E I hf st hg
    subst hP hw hK
    obtain ⟨f0, f1, f2, f3, f4, f5⟩ := hf it (by simp)
    exact wpAny_pyNext_range_end (I.ok.hd hc) st (by have : n ≤ i := hg; omega) fun h' eb => ⟨rfl, I.turned (t' := s.toks) (fun b o hb e => eb b o hb e) f0 f1 f3 f4 f5⟩
  self := fun _ _ _ _ _ st h => wpAny_pyIter_rangeiter st h
end L2
namespace L2
open PySem PySem.Spec PyProof.Rows
section
variable {X : Cx} {tg : Expr}
def iList (K : PySem.W.Frag) (tl : TE) : TI := fun σ H R => tl σ H fun x H1 => ∃ a, x = .ref a ∧ (∃ xs, SqL K H1 a xs) ∧ R (Itl K a) H1
def iTup (K : PySem.W.Frag) (tl : TE) : TI := fun σ H R => tl σ H fun x H1 => ∃ a, x = .ref a ∧ (∃ xs, SqT K H1 a xs) ∧ R (Itt K a) H1
theorem zbg {l : Expr} {tl : TE} (hl : PE X l tl) : PI X tg l (iList X.K tl) := by
  intro pins s σ H R I h
  refine thn (hl pins s σ H _ I h) fun v s1 ⟨x, H1, I1, r1, q1⟩ => ?_
  obtain ⟨a, e, ⟨xs, hq⟩, q⟩ := q1
  subst e
  cases r1
  obtain ⟨its, rv, p, hz⟩ := I1.list hq
  refine wpAny_pyIter_list p.isList ?_
  refine ⟨s1.heap.objs.size, [s1.heap.objs.size], _, _, H1, rfl, I1.kept (t' := s1.toks) fun b o e => Heap.get?_push_of_some _ e, zjv a _, ⟨_, Heap.get?_push_size _ rfl, rfl, rfl⟩, fun b hb => ?_, q⟩
  have e : b = s1.heap.objs.size := by simpa using hb
  subst e
  exact I1.fpOk (Nat.le_refl _) (I1.hok.fresh (Nat.le_refl _))
theorem zfd {l : Expr} {tl : TE} (hl : PE X l tl) : PI X tg l (iTup X.K tl) := by
  intro pins s σ H R I h
  refine thn (hl pins s σ H _ I h) fun v s1 ⟨x, H1, I1, r1, q1⟩ => ?_
  obtain ⟨a, e, ⟨xs, hq⟩, q⟩ := q1
  subst e
  cases r1
  obtain ⟨its, rv, p, hz⟩ := I1.tuple hq
  refine wpAny_pyIter_tuple (show s1.heap.IsTuple a its.toArray from p) ?_
  refine ⟨s1.heap.objs.size, [s1.heap.objs.size], _, _, H1, rfl, I1.kept (t' := s1.toks) fun b o e => Heap.get?_push_of_some _ e, zi0 a _, ⟨_, Heap.get?_push_size _ rfl, rfl, rfl⟩, fun b hb => ?_, q⟩
  have e : b = s1.heap.objs.size := by simpa using hb
  subst e
  exact I1.fpOk (Nat.le_refl _) (I1.hok.fresh (Nat.le_refl _))
theorem zii {pins : List (Addr × Obj)} {σ : St} {H : Hp} {s : Shared} {R : It → Hp → Prop} {E : Value → Shared → Prop} {lo hi : Int} {t u v : Tok} {tk : Nat} (I : Inv X pins σ H s) (h1 : -(2 ^ 62) ≤ lo) (h2 : lo < 2 ^ 62) (h3 : -(2 ^ 62) ≤ hi) (h4 : hi < 2 ^ 62)
    (q : R (Itr lo (hi - lo).toNat) H) : wpAny (model X.prog X.w) X.A (pyIter (.ref s.heap.objs.size)) (PIE X pins σ tg R) E { s with heap := s.heap.push { cls := .type "range", data := .fields #[.int lo t, .int hi u, .int 1 v] }, toks := tk } := by
  refine wpAny_pyIter_range (IsRange.new ..) (small_one h1 h2 h3 h4) ?_
  have I1 : Inv X pins σ H { s with heap := s.heap.push { cls := .type "range", data := .fields #[.int lo t, .int hi u, .int 1 v] }, toks := tk } := I.kept fun b o e => Heap.get?_push_of_some _ e
  refine ⟨(s.heap.push { cls := .type "range", data := .fields #[.int lo t, .int hi u, .int 1 v] }).objs.size, [(s.heap.push { cls := .type "range", data := .fields #[.int lo t, .int hi u, .int 1 v] }).objs.size], _, _, H, rfl,
    I1.kept (t' := tk) fun b o e => Heap.get?_push_of_some _ e, zi1 _ lo (hi - lo).toNat, ?_, fun b hb => ?_, q⟩
  · have e1 : lo + ((0 : Nat) : Int) * 1 = lo := by simp
    have e2 : (((hi - lo).toNat : Nat) : Int) - ((0 : Nat) : Int) = Builtin.Range.rangeSize lo hi 1 := by rw [rangeSize_one]; split <;> omega
    show IsRangeIter _ _ (lo + ((0 : Nat) : Int) * 1) ((((hi - lo).toNat : Nat) : Int) - ((0 : Nat) : Int)) 1
    rw [e1, e2]
    exact Heap.get?_push_size _ rfl
  · have e : b = (s.heap.push { cls := .type "range", data := .fields #[.int lo t, .int hi u, .int 1 v] }).objs.size := by simpa using hb
    subst e
    exact I1.fpOk (Nat.le_refl _) (I1.hok.fresh (Nat.le_refl _))
def iRng1 (ta : TA) : TI := fun σ H R => ta σ H fun vs H1 => ∃ j : Int, vs = [.int j] ∧ -(2 ^ 62) ≤ j ∧ j < 2 ^ 62 ∧ R (Itr 0 j.toNat) H1
def iRng2 (ta : TA) : TI := fun σ H R => ta σ H fun vs H1 => ∃ i j : Int, vs = [.int i, .int j] ∧ (-(2 ^ 62) ≤ i ∧ i < 2 ^ 62 ∧ -(2 ^ 62) ≤ j ∧ j < 2 ^ 62) ∧ R (Itr i (j - i).toNat) H1
theorem za0 {a : Expr} {ta : TA} {p pos : Pos} (hg : Gl X "range") (hm : X.mg "range" = none) (ha : PA X [a] ta) (hs : starEach [a] X.env = [(false, eval a X.env)] := by rfl) : PI X tg (.Call (.Name "range" p) [a] [] pos) (iRng1 ta) := by
  intro pins s σ H R I h
  refine Call_ (zeq I hg hm boot_range (PyProof.Rows.callWith_type1 (thn (ha pos pins s σ H _ I h) fun us s1 ⟨vs, H1, I1, r1, q1⟩ => ?_) hs rfl))
  obtain ⟨j, e, q1, q2, q⟩ := q1
  subst e
  cases r1 with
  | cons r rr =>
    cases rr
    obtain ⟨t, rfl⟩ := r
    exact call_range_1 (zii I1 (by omega) (by omega) q1 q2 (by simpa using q))
theorem zek {a b : Expr} {ta : TA} {p pos : Pos} (hg : Gl X "range") (hm : X.mg "range" = none) (ha : PA X [a, b] ta) (hs : starEach [a, b] X.env = [(false, eval a X.env), (false, eval b X.env)] := by rfl) (hs2 : starEach [b] X.env = [(false, eval b X.env)] := by rfl) :
    PI X tg (.Call (.Name "range" p) [a, b] [] pos) (iRng2 ta) := by
  intro pins s σ H R I h
  refine Call_ (zeq I hg hm boot_range (PyProof.Rows.callWith_type1 (thn (ha pos pins s σ H _ I h) fun us s1 ⟨vs, H1, I1, r1, q1⟩ => ?_) (by rw [hs, hs2]) (by rw [hs2]; rfl)))
  obtain ⟨i, j, e, ⟨q1, q2, q3, q4⟩, q⟩ := q1
  subst e
  cases r1 with
  | cons r rr =>
    cases rr with
    | cons r' rr =>
      cases rr
      obtain ⟨t, rfl⟩ := r
      obtain ⟨t', rfl⟩ := r'
      exact call_range_2 (zii I1 q1 q2 q3 q4 q)
def tFor (wi : TI) (g : TG) (tb : TS) : TS := fun D σ H => wi σ H fun J H1 => ∃ W : Nat → Nat → St → Hp → Prop, (∃ m, W 0 m σ H1) ∧ ∀ i m σ H, W i m σ H →
  (J.stop i H ∧ D.nx σ H) ∨ (J.go i H ∧ ∃ N : St → Hp → Prop, (∀ σ' H', N σ' H' → ∃ m', m' < m ∧ W (i + 1) m' σ' H') ∧ ∀ x H', J.yld i H x H' → g x σ H' fun σ2 H2 => tb { D with nx := N, ct := N, bk := D.nx } σ2 H2)
def zfM (fp : List Addr) (h : Heap) : List (Addr × Obj) := fp.filterMap fun b => (h.get? b).map fun o => (b, o)
theorem zcF {fp : List Addr} {h : Heap} {b : Addr} {o : Obj} (hb : b ∈ fp) (e : h.get? b = some o) : (b, o) ∈ zfM fp h := List.mem_filterMap.mpr ⟨b, hb, by rw [e]; rfl⟩
theorem of_pinsAt {fp : List Addr} {h : Heap} {p : Addr × Obj} (hp : p ∈ zfM fp h) : p.1 ∈ fp ∧ h.get? p.1 = some p.2 := by
  obtain ⟨b, hb, e⟩ := List.mem_filterMap.mp hp
  cases q : h.get? b with
  | none => rw [q] at e; cases e
  | some o =>
    rw [q] at e
    have e' : (b, o) = p := Option.some.inj e
    subst e'
    exact ⟨hb, q⟩
theorem Inv.pinned {pins : List (Addr × Obj)} {σ : St} {H : Hp} {s : Shared} {fp : List Addr} (I : Inv X pins σ H s) (hf : ∀ b ∈ fp, FpOk X pins H b) (ho : ∀ b ∈ fp, ∃ o, s.heap.get? b = some o ∧ ∀ v, o.data ≠ .cell v) : Inv X (pins ++ zfM fp s.heap) σ H s :=
  I.pins_of fun p hp => (List.mem_append.mp hp).elim (fun z => I.pin p (List.mem_append_right _ z)) fun z => by
    obtain ⟨hb, e⟩ := of_pinsAt z
    obtain ⟨f0, f1, f2, _⟩ := hf p.1 hb
    obtain ⟨o, e', d⟩ := ho p.1 hb
    rw [e] at e'; cases e'
    exact ⟨e, f0, f1, f2, d⟩
theorem Inv.unpinned {pins pl : List (Addr × Obj)} {σ : St} {H : Hp} {s : Shared} (I : Inv X (pins ++ pl) σ H s) : Inv X pins σ H s := I.pins_of fun p hp => I.pin p (List.mem_append_right _ (List.mem_append_left _ hp))
theorem zaN {iter : Expr} {body : List Stmt} {wi : TI} {g : TG} {tb : TS} {pos : Pos} (hp : PassesOwn (model X.prog X.w) X.A X.env X.xe) (hc : X.calm = true) (hi : PI X tg iter wi) (hg : PG X tg g) (hb : PSs X body tb)
    (hs : ∀ x, foldedSetIterable iter X.env x = pure x := by intro _; rfl) : PS X (.For tg iter body [] pos) (tFor wi g tb) := by
  intro pins s σ H D I h
  refine wpAny_For (thn (hi pins s σ H _ I h) fun v s1 h1 => thn h1 fun itv s2 h2 => ?_) hs
  obtain ⟨it, fp, tn, J, H2, e, I2, T, st2, f2, W, ⟨m0, w0⟩, turn⟩ := h2
  subst e
  have stat : ∀ {H' : Hp}, (∀ b ∈ fp, H' b = none) → ∀ b ∈ fp, FpOk X pins H' b := fun hn b hb => ⟨hn b hb, (f2 b hb).2⟩
  refine codeAny_forLoop_any (fun n s' => ∃ i σ' H', Inv X pins σ' H' s' ∧ tn i s'.heap ∧ (∀ b ∈ fp, H' b = none) ∧ W i n σ' H') ?_ m0 ⟨0, σ, H2, I2, st2, fun b hb => (f2 b hb).1, w0⟩
  rintro n s3 ⟨i, σ3, H3, I3, st3, fr3, w3⟩
  rcases turn i n σ3 H3 w3 with ⟨stop, qn⟩ | ⟨go, N, hN, step⟩
  · refine wpAny_passesOwn hp (thn (T.done X rfl rfl rfl hc i pins s3 σ3 H3 X.xe I3 (stat fr3) st3 stop) fun r s4 ⟨hr, I4⟩ => ?_)
    subst hr
    exact wpAny_execs_nil ⟨σ3, H3, I4, qn⟩
  · refine wpAny_passesOwn hp (thn (T.item X rfl rfl rfl hc i pins s3 σ3 H3 X.xe I3 (stat fr3) st3 go) fun r s4 ⟨u, hr, h4⟩ => ?_)
    subst hr
    refine wpAny_passesOwn hp (thn h4 fun _ s5 ⟨x, H5, I5, r5, y5, st5, fr5⟩ => ?_)
    have I5' := I5.pinned (stat fr5) (T.obj _ _ st5)
    refine wpAny_passesOwn hp (thn (hg _ s5 σ3 H5 x u _ I5' r5 (step x H5 y5)) fun _ s6 ⟨σ6, H6, I6, q6⟩ => ?_)
    refine wpAny_passesOwn hp (thn (hb _ s6 σ6 H6 _ I6 q6) fun f s7 q7 => ?_)
    have again : ∀ {σ7 : St} {H7 : Hp}, Inv X (pins ++ zfM fp s5.heap) σ7 H7 s7 → N σ7 H7 → ∃ m, m < n ∧ ∃ i σ' H', Inv X pins σ' H' s7 ∧ tn i s7.heap ∧ (∀ b ∈ fp, H' b = none) ∧ W i m σ' H' := fun {σ7 H7} I7 n7 => by
      obtain ⟨m', hm, w7⟩ := hN σ7 H7 n7
      refine ⟨m', hm, i + 1, σ7, H7, I7.unpinned, T.keep _ _ _ st5 fun b hb o e => (I7.pin (b, o) (List.mem_append_right _ (List.mem_append_right _ (zcF hb e)))).1, fun b hb => ?_, w7⟩
      obtain ⟨o, e, d⟩ := T.obj _ _ st5 b hb
      exact (I7.pin (b, o) (List.mem_append_right _ (List.mem_append_right _ (zcF hb e)))).2.1
    cases f with
    | next => obtain ⟨σ7, H7, I7, n7⟩ := q7; exact again I7 n7
    | cont => obtain ⟨σ7, H7, I7, n7⟩ := q7; exact again I7 n7
    | brk => obtain ⟨σ7, H7, I7, q7⟩ := q7; exact ⟨σ7, H7, I7.unpinned, q7⟩
    | ret v => obtain ⟨x7, σ7, H7, I7, r7, q7⟩ := q7; exact ⟨x7, σ7, H7, I7.unpinned, r7, q7⟩
end
theorem zbD {K : PySem.W.Frag} {a : Addr} {xs : List V} {g : TG} {tb : TS} {D : Ends} {σ : St} {H : Hp} (Pv : Nat → St → Hp → Prop) (h0 : Pv 0 σ H) (hl : ∀ i σ H, i ≤ xs.length → Pv i σ H → SqL K H a xs)
    (hs : ∀ i x σ H, xs[i]? = some x → Pv i σ H → g x σ H fun σ2 H2 => tb { D with nx := Pv (i + 1), ct := Pv (i + 1), bk := D.nx } σ2 H2) (hd : ∀ σ H, Pv xs.length σ H → D.nx σ H) :
    ∃ W : Nat → Nat → St → Hp → Prop, (∃ m, W 0 m σ H) ∧ ∀ i m σ H, W i m σ H →
      ((Itl K a).stop i H ∧ D.nx σ H) ∨ ((Itl K a).go i H ∧ ∃ N : St → Hp → Prop, (∀ σ' H', N σ' H' → ∃ m', m' < m ∧ W (i + 1) m' σ' H') ∧ ∀ x H', (Itl K a).yld i H x H' → g x σ H' fun σ2 H2 => tb { D with nx := N, ct := N, bk := D.nx } σ2 H2) := by
  refine ⟨fun i m σ H => m = xs.length - i ∧ i ≤ xs.length ∧ Pv i σ H, ⟨xs.length, by simp, Nat.zero_le _, h0⟩, ?_⟩
  rintro i m σ H ⟨rfl, hi, p⟩
  have q := hl i σ H hi p
  by_cases hlt : i < xs.length
  · refine .inr ⟨⟨xs, xs[i], q, by simp [hlt]⟩, Pv (i + 1), fun σ' H' p' => ⟨xs.length - (i + 1), by omega, rfl, hlt, p'⟩, fun x H' y => ?_⟩
    obtain ⟨e, y⟩ := y
    subst e
    exact hs i x σ _ (y xs q) p
  · have e : i = xs.length := by omega
    subst e
    exact .inl ⟨⟨xs, q, Nat.le_refl _⟩, hd σ H p⟩
theorem zgw {K : PySem.W.Frag} {a : Addr} {xs : List V} {g : TG} {tb : TS} {D : Ends} {σ : St} {H : Hp} (Pv : Nat → St → Hp → Prop) (h0 : Pv 0 σ H) (hl : ∀ i σ H, i ≤ xs.length → Pv i σ H → SqT K H a xs)
    (hs : ∀ i x σ H, xs[i]? = some x → Pv i σ H → g x σ H fun σ2 H2 => tb { D with nx := Pv (i + 1), ct := Pv (i + 1), bk := D.nx } σ2 H2) (hd : ∀ σ H, Pv xs.length σ H → D.nx σ H) :
    ∃ W : Nat → Nat → St → Hp → Prop, (∃ m, W 0 m σ H) ∧ ∀ i m σ H, W i m σ H →
      ((Itt K a).stop i H ∧ D.nx σ H) ∨ ((Itt K a).go i H ∧ ∃ N : St → Hp → Prop, (∀ σ' H', N σ' H' → ∃ m', m' < m ∧ W (i + 1) m' σ' H') ∧ ∀ x H', (Itt K a).yld i H x H' → g x σ H' fun σ2 H2 => tb { D with nx := N, ct := N, bk := D.nx } σ2 H2) := by
  refine ⟨fun i m σ H => m = xs.length - i ∧ i ≤ xs.length ∧ Pv i σ H, ⟨xs.length, by simp, Nat.zero_le _, h0⟩, ?_⟩
  rintro i m σ H ⟨rfl, hi, p⟩
  have q := hl i σ H hi p
  by_cases hlt : i < xs.length
  · refine .inr ⟨⟨xs, xs[i], q, by simp [hlt]⟩, Pv (i + 1), fun σ' H' p' => ⟨xs.length - (i + 1), by omega, rfl, hlt, p'⟩, fun x H' y => ?_⟩
    obtain ⟨e, y⟩ := y
    subst e
    exact hs i x σ _ (y xs q) p
  · have e : i = xs.length := by omega
    subst e
    exact .inl ⟨⟨xs, q, Nat.le_refl _⟩, hd σ H p⟩
theorem zbi {lo : Int} {n : Nat} {g : TG} {tb : TS} {D : Ends} {σ : St} {H : Hp} (Pv : Nat → St → Hp → Prop) (h0 : Pv 0 σ H)
    (hs : ∀ i σ H, i < n → Pv i σ H → g (.int (lo + i)) σ H fun σ2 H2 => tb { D with nx := Pv (i + 1), ct := Pv (i + 1), bk := D.nx } σ2 H2) (hd : ∀ σ H, Pv n σ H → D.nx σ H) :
    ∃ W : Nat → Nat → St → Hp → Prop, (∃ m, W 0 m σ H) ∧ ∀ i m σ H, W i m σ H →
      ((Itr lo n).stop i H ∧ D.nx σ H) ∨ ((Itr lo n).go i H ∧ ∃ N : St → Hp → Prop, (∀ σ' H', N σ' H' → ∃ m', m' < m ∧ W (i + 1) m' σ' H') ∧ ∀ x H', (Itr lo n).yld i H x H' → g x σ H' fun σ2 H2 => tb { D with nx := N, ct := N, bk := D.nx } σ2 H2) := by
  refine ⟨fun i m σ H => m = n - i ∧ i ≤ n ∧ Pv i σ H, ⟨n, by simp, Nat.zero_le _, h0⟩, ?_⟩
  rintro i m σ H ⟨rfl, hi, p⟩
  by_cases hlt : i < n
  · refine .inr ⟨hlt, Pv (i + 1), fun σ' H' p' => ⟨n - (i + 1), by omega, rfl, hlt, p'⟩, fun x H' y => ?_⟩
    obtain ⟨e, y⟩ := y
    subst e y
    exact hs i σ _ hlt p
  · have e : i = n := by omega
    subst e
    exact .inl ⟨Nat.le_refl _, hd σ H p⟩
theorem while_by {c : TT} {tb : TS} {D : Ends} {σ : St} {H : Hp} (Pv : St → Hp → Prop) (μ : St → Hp → Nat) (h0 : Pv σ H)
    (hs : ∀ σ H, Pv σ H → c σ H fun b H1 => if b = true then tb { D with nx := fun σ' H' => Pv σ' H' ∧ μ σ' H' < μ σ H, ct := fun σ' H' => Pv σ' H' ∧ μ σ' H' < μ σ H, bk := D.nx } σ H1 else D.nx σ H1)
    (mono : ∀ σ H Q Q', (∀ b H1, Q b H1 → Q' b H1) → c σ H Q → c σ H Q') : tWhile c tb D σ H := by
  refine ⟨fun m σ H => m = μ σ H ∧ Pv σ H, ⟨_, rfl, h0⟩, ?_⟩
  rintro m σ H ⟨rfl, p⟩
  refine mono σ H _ _ (fun b H1 q => ?_) (hs σ H p)
  cases b with
  | true => exact ⟨_, fun σ' H' ⟨p', l⟩ => ⟨_, l, rfl, p'⟩, q⟩
  | false => exact q
end L2
namespace L2
open PySem PySem.Spec PyProof.Rows
abbrev R2 := V → V → Hp → VK → Prop
def OpR (X : Cx) (f : Value → Value → Sem Value) (r : R2) : Prop :=
  ∀ (pins : List (Addr × Obj)) (s : Shared) (σ : St) (H : Hp) (x y : V) (v u : Value) (Q : VK), Inv X pins σ H s → RelV x v → RelV y u → r x y H Q →
    wpAny (model X.prog X.w) X.A (f v u) (EP X pins σ Q) X.xe s
def UnR (X : Cx) (f : Value → Sem Value) (r : V → Hp → VK → Prop) : Prop :=
  ∀ (pins : List (Addr × Obj)) (s : Shared) (σ : St) (H : Hp) (x : V) (v : Value) (Q : VK), Inv X pins σ H s → RelV x v → r x H Q →
    wpAny (model X.prog X.w) X.A (f v) (EP X pins σ Q) X.xe s
def zey (X : Cx) (f : Value) (r : List V → Hp → VK → Prop) : Prop :=
  ∀ (pins : List (Addr × Obj)) (s : Shared) (σ : St) (H : Hp) (xs : List V) (us : List Value) (Q : VK), Inv X pins σ H s → Vals xs us → r xs H Q →
    wpAny (model X.prog X.w) X.A (call f us) (EP X pins σ Q) X.xe s
def TruR (X : Cx) (r : V → Hp → (Bool → Hp → Prop) → Prop) : Prop :=
  ∀ (pins : List (Addr × Obj)) (s : Shared) (σ : St) (H : Hp) (x : V) (v : Value) (Q : Bool → Hp → Prop), Inv X pins σ H s → RelV x v → r x H Q →
    wpAny (model X.prog X.w) X.A (truthy v) (TP X pins σ Q) X.xe s
def tOp (r : R2) (ta tb : TE) : TE := fun σ H Q => ta σ H fun x H1 => tb σ H1 fun y H2 => r x y H2 Q
def tUn (r : V → Hp → VK → Prop) (ta : TE) : TE := fun σ H Q => ta σ H fun x H1 => r x H1 Q
def rI (C : Int → Int → Prop) (g : Int → Int → V) : R2 := fun x y H Q => ∃ i j, x = .int i ∧ y = .int j ∧ C i j ∧ Q (g i j) H
def rI0 (g : Int → Int → V) : R2 := fun x y H Q => ∃ i j, x = .int i ∧ y = .int j ∧ Q (g i j) H
def rU (g : Int → V) : V → Hp → VK → Prop := fun x H Q => ∃ i, x = .int i ∧ Q (g i) H
section
variable {X : Cx} {a b c : Expr} {ta tb tc : TE} {pos : Pos}
theorem binT (ha : PE X a ta) (hb : PE X b tb) {pins : List (Addr × Obj)} {s : Shared} {σ : St} {H : Hp} {R : V → V → Hp → Prop} (I : Inv X pins σ H s)
    (h : ta σ H fun x H1 => tb σ H1 fun y H2 => R x y H2) {Q : Value → Shared → Prop} {f : Value → Value → Sem Value}
    (hf : ∀ v u s2 x y H2, Inv X pins σ H2 s2 → RelV x v → RelV y u → R x y H2 → wpAny (model X.prog X.w) X.A (f v u) Q X.xe s2) :
    wpAny (model X.prog X.w) X.A (eval a X.env) (fun v s₁ => wpAny (model X.prog X.w) X.A (eval b X.env) (fun u s₂ => wpAny (model X.prog X.w) X.A (f v u) Q X.xe s₂) X.xe s₁) X.xe s := by
  refine thn (ha pins s σ H _ I h) fun v s1 ⟨x, H1, I1, r1, q1⟩ => ?_
  refine thn (hb pins s1 σ H1 _ I1 q1) fun u s2 ⟨y, H2, I2, r2, q2⟩ => ?_
  exact hf v u s2 x y H2 I2 r1 r2 q2
theorem zau {op : Operator} {r : R2} (ho : OpR X (binaryOp op) r) (ha : PE X a ta) (hb : PE X b tb) : PE X (.BinOp a op b pos) (tOp r ta tb) := by
  intro pins s σ H Q I h
  exact wpAny_BinOp (binT ha hb I h fun v u s2 x y H2 I2 rx ry q => ho pins s2 σ H2 x y v u Q I2 rx ry q)
theorem zfA {op : UnaryOp} {r : V → Hp → VK → Prop} (ho : UnR X (unaryOp op) r) (ha : PE X a ta) : PE X (.UnaryOp op a pos) (tUn r ta) := by
  intro pins s σ H Q I h
  exact UnaryOp_ (thn (ha pins s σ H _ I h) fun v s1 ⟨x, H1, I1, r1, q1⟩ => ho pins s1 σ H1 x v Q I1 r1 q1)
theorem opI {f : Value → Value → Sem Value} {C : Int → Int → Prop} {g : Int → Int → Int}
    (rule : ∀ (i j : Int) (t u : Tok) (s : Shared) (Q : Value → Shared → Prop) (E : Value → Shared → Prop), C i j → Q (.int (g i j) s.toks) { s with toks := s.toks + 1 } → wpAny (model X.prog X.w) X.A (f (.int i t) (.int j u)) Q E s) :
    OpR X f (rI C fun i j => .int (g i j)) := by
  intro pins s σ H x y v u Q I rx ry h
  obtain ⟨i, j, rfl, rfl, hc, q⟩ := h
  obtain ⟨t, rfl⟩ := rx
  obtain ⟨t', rfl⟩ := ry
  exact rule i j t t' s _ _ hc ⟨.int (g i j), H, I.tok _, ⟨_, rfl⟩, q⟩
theorem opI0 {f : Value → Value → Sem Value} {g : Int → Int → Int}
    (rule : ∀ (i j : Int) (t u : Tok) (s : Shared) (Q : Value → Shared → Prop) (E : Value → Shared → Prop), Q (.int (g i j) s.toks) { s with toks := s.toks + 1 } → wpAny (model X.prog X.w) X.A (f (.int i t) (.int j u)) Q E s) :
    OpR X f (rI0 fun i j => .int (g i j)) := by
  intro pins s σ H x y v u Q I rx ry h
  obtain ⟨i, j, rfl, rfl, q⟩ := h
  obtain ⟨t, rfl⟩ := rx
  obtain ⟨t', rfl⟩ := ry
  exact rule i j t t' s _ _ ⟨.int (g i j), H, I.tok _, ⟨_, rfl⟩, q⟩
theorem opB0 {f : Value → Value → Sem Value} {g : Int → Int → Bool}
    (rule : ∀ (i j : Int) (t u : Tok) (s : Shared) (Q : Value → Shared → Prop) (E : Value → Shared → Prop), Q (.bool (g i j)) s → wpAny (model X.prog X.w) X.A (f (.int i t) (.int j u)) Q E s) :
    OpR X f (rI0 fun i j => .bl (g i j)) := by
  intro pins s σ H x y v u Q I rx ry h
  obtain ⟨i, j, rfl, rfl, q⟩ := h
  obtain ⟨t, rfl⟩ := rx
  obtain ⟨t', rfl⟩ := ry
  exact rule i j t t' s _ _ ⟨.bl (g i j), H, I, rfl, q⟩
def CDiv (i j : Int) : Prop := 0 < j ∧ j < 1073741824
def CDivN (i j : Int) : Prop := j ≠ 0 ∧ j.natAbs < 1073741824
def CPow (i j : Int) : Prop := 0 ≤ j ∧ j ≤ 1000000 ∧ i.natAbs < 2 ^ 64
def CMul (i j : Int) : Prop := (-(2 ^ 64) < i ∧ i < 2 ^ 64) ∨ (-(2 ^ 64) < j ∧ j < 2 ^ 64)
theorem CMul.ok {i j : Int} (h : CMul i j) : IntMulOk i j := by
  rcases h with ⟨h1, h2⟩ | ⟨h1, h2⟩
  · exact .of_left (intBits_le_64 h1 h2)
  · exact .of_right (intBits_le_64 h1 h2)
theorem ziZ (k : Nat) : (0 : Int) ≤ 2 ^ k := by
  rw [two_pow_cast]
  exact Int.natCast_nonneg _
theorem zbh : OpR X (binaryOp .Add) (rI0 fun i j => .int (i + j)) := opI0 fun _ _ _ _ _ _ _ q => add_int q
theorem zcb : OpR X (binaryOp .Sub) (rI0 fun i j => .int (i - j)) := opI0 fun _ _ _ _ _ _ _ q => sub_int q
theorem zcc : OpR X (binaryOp .Mult) (rI CMul fun i j => .int (i * j)) := opI fun _ _ _ _ _ _ _ hc q => mul_int q hc.ok
theorem zgl : OpR X (binaryOp .FloorDiv) (rI CDiv fun i j => .int (i / j)) := opI fun i j _ _ _ _ _ hc q => by
  have h1 : (0 : Int) < j := hc.1
  have h2 : j < 1073741824 := hc.2
  exact floordiv_int (by omega) (by rw [Int.fdiv_eq_ediv_of_nonneg i (by omega)]; exact q) (.inl (PyProof.noPylong_small (by omega)))
theorem zds : OpR X (binaryOp .Mod) (rI (fun _ j => 0 < j) fun i j => .int (i % j)) := opI fun i j _ _ _ _ _ hc q => by
  have h1 : (0 : Int) < j := hc
  exact mod_int' (by omega) (by rw [Int.fmod_eq_emod_of_nonneg i (by omega)]; exact q)
theorem zgS : OpR X (binaryOp .Pow) (rI CPow fun i j => .int (i ^ j.toNat)) := opI fun _ _ _ _ _ _ _ hc q => pow_int_small hc.1 hc.2.1 hc.2.2 q
theorem op_shr : OpR X (binaryOp .RShift) (rI (fun _ j => 0 ≤ j) fun i j => .int (i / 2 ^ j.toNat)) := opI fun i j _ _ _ _ _ hc q =>
  rshift_int hc (by rw [Int.fdiv_eq_ediv_of_nonneg i (ziZ _)]; exact q)
theorem op_and : OpR X (binaryOp .BitAnd) (rI0 fun i j => .int (Builtin.bitAnd i j)) := opI0 fun _ _ _ _ _ _ _ q => and_int q
theorem op_xor : OpR X (binaryOp .BitXor) (rI0 fun i j => .int (Builtin.bitXor i j)) := opI0 fun _ _ _ _ _ _ _ q => xor_int q
theorem unI {f : Value → Sem Value} {g : Int → Int}
    (rule : ∀ (i : Int) (t : Tok) (s : Shared) (Q : Value → Shared → Prop) (E : Value → Shared → Prop), Q (.int (g i) s.toks) { s with toks := s.toks + 1 } → wpAny (model X.prog X.w) X.A (f (.int i t)) Q E s) :
    UnR X f (rU fun i => .int (g i)) := by
  intro pins s σ H x v Q I rx h
  obtain ⟨i, rfl, q⟩ := h
  obtain ⟨t, rfl⟩ := rx
  exact rule i t s _ _ ⟨.int (g i), H, I.tok _, ⟨_, rfl⟩, q⟩
theorem zdX : UnR X (unaryOp .USub) (rU fun i => .int (-i)) := unI fun _ _ _ _ _ q => neg_int q
end
def scal : V → V → Bool
  | .non, .non => true | .non, .int _ => true | .int _, .non => true | .non, .bl _ => true | .bl _, .non => true | .non, .str _ => true | .str _, .non => true
  | .int _, .int _ => true | .bl _, .bl _ => true | .str _, .str _ => true | .byt _, .byt _ => true
  | .int _, .str _ => true | .str _, .int _ => true | .bl _, .str _ => true | .str _, .bl _ => true
  | _, _ => false
def rEq : R2 := fun x y H Q => scal x y = true ∧ Q (.bl (decide (x = y))) H
def rNe : R2 := fun x y H Q => scal x y = true ∧ Q (.bl (!decide (x = y))) H
theorem dec_int {i j : Int} : decide (V.int i = V.int j) = (i == j) := by
  rw [Bool.eq_iff_iff]
  simp
theorem dec_bl {i j : Bool} : decide (V.bl i = V.bl j) = (i == j) := by
  rw [Bool.eq_iff_iff]
  simp
theorem dec_str {i j : Str} : decide (V.str i = V.str j) = (i == j) := by
  rw [Bool.eq_iff_iff]
  simp
theorem dec_byt {i j : Array UInt8} : decide (V.byt i = V.byt j) = (i.toList == j.toList) := by
  rw [Bool.eq_iff_iff]
  cases i
  cases j
  simp
section
variable {X : Cx} {a b c : Expr} {ta tb tc : TE} {pos : Pos}
theorem zaS {pins : List (Addr × Obj)} {σ : St} {H : Hp} {s : Shared} {Q : VK} {k k' : Bool} (I : Inv X pins σ H s) (q : Q (.bl k) H) (e : k = k') : EP X pins σ Q (.bool k') s := by
  subst e
  exact ⟨.bl k, H, I, rfl, q⟩
theorem zd7 : OpR X (compareOp .Eq) rEq := by
  intro pins s σ H x y v u Q I rx ry h
  obtain ⟨hs, q⟩ := h
  cases x with
  | non =>
    cases rx
    cases y with
    | non => cases ry; exact PySem.EqNone.eq_none_none (zaS I q (by simp))
    | bl j => cases ry; exact PySem.EqNone.eq_none_bool (zaS I q (by simp))
    | int j => obtain ⟨t', rfl⟩ := ry; exact PySem.EqNone.eq_none_int (zaS I q (by simp))
    | str j => obtain ⟨t', rfl⟩ := ry; exact PySem.EqNone.eq_none_str (zaS I q (by simp))
    | _ => exact absurd (show false = true from hs) Bool.false_ne_true
  | bl i =>
    cases rx
    cases y with
    | non => cases ry; exact PySem.EqNone.eq_bool_none (zaS I q (by simp))
    | bl j => cases ry; exact eq_bool (zaS I q dec_bl)
    | str j => obtain ⟨t', rfl⟩ := ry; exact PySem.EqMixed.eq_bool_str (zaS I q (by simp))
    | _ => exact absurd (show false = true from hs) Bool.false_ne_true
  | int i =>
    obtain ⟨t, rfl⟩ := rx
    cases y with
    | non => cases ry; exact PySem.EqNone.eq_int_none (zaS I q (by simp))
    | int j => obtain ⟨t', rfl⟩ := ry; exact eq_int (zaS I q dec_int)
    | str j => obtain ⟨t', rfl⟩ := ry; exact PySem.EqMixed.eq_int_str (zaS I q (by simp))
    | _ => exact absurd (show false = true from hs) Bool.false_ne_true
  | str i =>
    obtain ⟨t, rfl⟩ := rx
    cases y with
    | non => cases ry; exact PySem.EqNone.eq_str_none (zaS I q (by simp))
    | bl j => cases ry; exact PySem.EqMixed.eq_str_bool (zaS I q (by simp))
    | int j => obtain ⟨t', rfl⟩ := ry; exact PySem.EqMixed.eq_str_int (zaS I q (by simp))
    | str j => obtain ⟨t', rfl⟩ := ry; exact eq_str (zaS I q dec_str)
    | _ => exact absurd (show false = true from hs) Bool.false_ne_true
  | byt i =>
    obtain ⟨t, rfl⟩ := rx
    cases y with
    | byt j => obtain ⟨t', rfl⟩ := ry; exact PySem.W.eq_bytes (zaS I q dec_byt)
    | _ => exact absurd (show false = true from hs) Bool.false_ne_true
  | _ => cases y <;> exact absurd (show false = true from hs) Bool.false_ne_true
theorem op_ne : OpR X (compareOp .NotEq) rNe := by
  intro pins s σ H x y v u Q I rx ry h
  obtain ⟨hs, q⟩ := h
  cases x with
  | non =>
    cases rx
    cases y with
    | non => cases ry; exact PySem.EqNone.ne_none_none (zaS I q (by simp))
    | bl j => cases ry; exact PySem.EqNone.ne_none_bool (zaS I q (by simp))
    | int j => obtain ⟨t', rfl⟩ := ry; exact PySem.EqNone.ne_none_int (zaS I q (by simp))
    | str j => obtain ⟨t', rfl⟩ := ry; exact PySem.EqNone.ne_none_str (zaS I q (by simp))
    | _ => exact absurd (show false = true from hs) Bool.false_ne_true
  | bl i =>
    cases rx
    cases y with
    | non => cases ry; exact PySem.EqNone.ne_bool_none (zaS I q (by simp))
    | bl j => cases ry; exact ne_bool (zaS I q (congrArg not dec_bl))
    | str j => obtain ⟨t', rfl⟩ := ry; exact PySem.EqMixed.ne_bool_str (zaS I q (by simp))
    | _ => exact absurd (show false = true from hs) Bool.false_ne_true
  | int i =>
    obtain ⟨t, rfl⟩ := rx
    cases y with
    | non => cases ry; exact PySem.EqNone.ne_int_none (zaS I q (by simp))
    | int j => obtain ⟨t', rfl⟩ := ry; exact ne_int (zaS I q (congrArg not dec_int))
    | str j => obtain ⟨t', rfl⟩ := ry; exact PySem.EqMixed.ne_int_str (zaS I q (by simp))
    | _ => exact absurd (show false = true from hs) Bool.false_ne_true
  | str i =>
    obtain ⟨t, rfl⟩ := rx
    cases y with
    | non => cases ry; exact PySem.EqNone.ne_str_none (zaS I q (by simp))
    | bl j => cases ry; exact PySem.EqMixed.ne_str_bool (zaS I q (by simp))
    | int j => obtain ⟨t', rfl⟩ := ry; exact PySem.EqMixed.ne_str_int (zaS I q (by simp))
    | str j => obtain ⟨t', rfl⟩ := ry; exact ne_str (zaS I q (congrArg not dec_str))
    | _ => exact absurd (show false = true from hs) Bool.false_ne_true
  | byt i =>
    obtain ⟨t, rfl⟩ := rx
    cases y with
    | byt j => obtain ⟨t', rfl⟩ := ry; exact PySem.W.ne_bytes (zaS I q (congrArg not dec_byt))
    | _ => exact absurd (show false = true from hs) Bool.false_ne_true
  | _ => cases y <;> exact absurd (show false = true from hs) Bool.false_ne_true
theorem op_lt : OpR X (compareOp .Lt) (rI0 fun i j => .bl (decide (i < j))) := opB0 fun _ _ _ _ _ _ _ q => lt_int q
theorem op_gt : OpR X (compareOp .Gt) (rI0 fun i j => .bl (decide (j < i))) := opB0 fun _ _ _ _ _ _ _ q => gt_int q
theorem op_ge : OpR X (compareOp .GtE) (rI0 fun i j => .bl (decide (j ≤ i))) := opB0 fun _ _ _ _ _ _ _ q => ge_int q
def isObj : HO → Bool
  | .lst _ => true
  | .ins _ _ _ => true
  | _ => false
theorem za8 (b : Expr) {op : CmpOp} (h : op ≠ .In := by decide) (h2 : op ≠ .NotIn := by decide) : behindInMarks op b = false := by
  have e1 : (op == CmpOp.In) = false := by cases op <;> first | rfl | exact absurd rfl h
  have e2 : (op == CmpOp.NotIn) = false := by cases op <;> first | rfl | exact absurd rfl h2
  cases b <;> simp [behindInMarks, e1, e2]
theorem pe_cmpR {op : CmpOp} {r : R2} (ho : OpR X (compareOp op) r) (ha : PE X a ta) (hb : PE X b tb) (hm : behindInMarks op b = false) : PE X (.Compare a [op] [b] pos) (tOp r ta tb) := by
  intro pins s σ H Q I h
  exact wpAny_Compare1 (binT ha hb I h fun v u s2 x y H2 I2 rx ry q => ho pins s2 σ H2 x y v u Q I2 rx ry q) hm
def tTest (t : TE) : TT := fun σ H Q => t σ H fun x H' => ∃ k, x = .bl k ∧ Q k H'
theorem zaI {op : CmpOp} {r : R2} (ho : OpR X (compareOp op) r) (ha : PE X a ta) (hb : PE X b tb) (hm : behindInMarks op b = false) : PT X (.Compare a [op] [b] pos) (tTest (tOp r ta tb)) := by
  intro pins s σ H Q I h
  refine wpAny_isTrue_Compare1 (thn (ha pins s σ H _ I h) fun v s1 ⟨x, H1, I1, r1, q1⟩ => thn (hb pins s1 σ H1 _ I1 q1) fun u s2 ⟨y, H2, I2, r2, q2⟩ =>
    thn (ho pins s2 σ H2 x y v u _ I2 r1 r2 q2) fun c s3 ⟨z, H3, I3, r3, k, e, q3⟩ => ?_) hm
  subst e
  cases r3
  exact wpAny_truthy_bool ⟨H3, I3, q3⟩
def tChain (r r' : R2) (ta tb tc : TE) : TE := fun σ H Q => ta σ H fun x H1 => tb σ H1 fun y H2 => r x y H2 fun z H3 => ∃ k, z = .bl k ∧
  (if k = true then tc σ H3 fun w' H4 => r' y w' H4 Q else Q (.bl false) H3)
def TruV (K : PySem.W.Frag) (x : V) (H : Hp) (k : Bool) : Prop :=
  match x with
  | .non => k = false
  | .bl b => k = b
  | .int i => k = (i != 0)
  | .str y => y.length ≤ sizeLine ∧ k = ((y.length : Int) != 0)
  | .byt y => y.size ≤ sizeLine ∧ k = ((y.size : Int) != 0)
  | .ref p => (∃ xs, SqL K H p xs ∧ k = !xs.isEmpty) ∨ (∃ xs, SqT K H p xs ∧ k = !xs.isEmpty) ∨ ∃ kvs, H p = some (.dK kvs) ∧ k = !kvs.isEmpty
  | _ => False
theorem ziA : (sizeLine : Nat) < 2 ^ 63 := by rw [sizeLine_eq]; decide
def PlainIxT (b : Expr) : Prop := ∀ o i, subscripted b false o i = operate [o, i] (getItem o i)
theorem zfz {x : V} {us : List Value} (r : Vals [x] us) : ∃ u, us = [u] ∧ RelV x u := by
  cases r with
  | cons r1 r2 => cases r2; exact ⟨_, rfl, r1⟩
theorem zhq {x y : V} {us : List Value} (r : Vals [x, y] us) : ∃ u w', us = [u, w'] ∧ RelV x u ∧ RelV y w' := by
  cases r with
  | cons r1 r2 =>
    cases r2 with
    | cons r3 r4 => cases r4; exact ⟨_, _, rfl, r1, r3⟩
theorem ziS : zey X (.builtin "abs") (fun xs H Q => ∃ i, xs = [.int i] ∧ Q (.int (if i < 0 then -i else i)) H) := by
  intro pins s σ H xs us Q I r h
  obtain ⟨i, rfl, q⟩ := h
  obtain ⟨u, rfl, t, rfl⟩ := zfz r
  exact call_abs_int fun u tk => ⟨.int (if i < 0 then -i else i), H, I.tok _, ⟨_, rfl⟩, q⟩
theorem zfq (hc : X.calm = true) : zey X (.builtin "max") (fun xs H Q => ∃ i j, xs = [.int i, .int j] ∧ Q (.int (if j > i then j else i)) H) := by
  intro pins s σ H xs us Q I r h
  obtain ⟨i, j, rfl, q⟩ := h
  obtain ⟨u, w', rfl, ⟨t, rfl⟩, ⟨t', rfl⟩⟩ := zhq r
  refine max_two_ints (I.ok.hd hc) fun h' tk k => ⟨_, H, I.kept k, ?_, q⟩
  by_cases hj : j > i
  · rw [if_pos hj, if_pos hj]; exact ⟨_, rfl⟩
  · rw [if_neg hj, if_neg hj]; exact ⟨_, rfl⟩
theorem call_int1 : zey X (.type "int") (fun xs H Q => (∃ i, xs = [.int i] ∧ Q (.int i) H) ∨ ∃ k, xs = [.bl k] ∧ Q (.int (if k then 1 else 0)) H) := by
  intro pins s σ H xs us Q I r h
  rcases h with ⟨i, rfl, q⟩ | ⟨k, rfl, q⟩
  · obtain ⟨u, rfl, t, rfl⟩ := zfz r
    exact call_int_int ⟨.int i, H, I, ⟨_, rfl⟩, q⟩
  · obtain ⟨u, rfl, r1⟩ := zfz r
    cases r1
    exact call_int_bool ⟨.int (if k then 1 else 0), H, I.tok _, ⟨_, rfl⟩, q⟩
def LenV (K : PySem.W.Frag) (x : V) (H : Hp) (n : Nat) : Prop :=
  match x with
  | .str y => y.length ≤ sizeLine ∧ n = y.length
  | .byt y => y.size ≤ sizeLine ∧ n = y.size
  | .ref p => (∃ xs, SqL K H p xs ∧ n = xs.length) ∨ ∃ xs, SqT K H p xs ∧ n = xs.length
  | _ => False
end
end L2
namespace L2
open PySem PySem.Spec PyProof.Rows
structure ObjM (h : Heap) (x dx C : Addr) (mA : Str → Option Value) : Prop where
  obj : h.get? x = some (PySem.W.instObj C dx)
  ns : h.Ns1 dx mA
  ne : dx ≠ x
theorem lookIn_ns {h : Heap} {dx : Addr} {mA : Str → Option Value} (n : h.Ns1 dx mA) : ∃ od, h.get? dx = some od ∧ ∀ name, PySem.W.lookIn name od = some (mA name) := by
  obtain ⟨o, es, ep, ho, hd, hk, _, hm⟩ := n
  refine ⟨o, ho, fun name => ?_⟩
  have e := hm name
  unfold nsFind findBy at e
  rw [← Array.find?_toList] at e
  unfold PySem.W.lookIn
  rw [hd]
  dsimp only
  split
  · rename_i y q
    rw [q] at e
    exact congrArg some e
  · rename_i q
    rw [q] at e
    have a : es.toList.any (·.refKey) = false := by
      rw [List.any_eq_false]
      intro y hy
      obtain ⟨z, t, hkey⟩ := hk y (Array.mem_toList_iff.mp hy)
      simp [DictEntry.refKey, hkey]
    have a' : ¬ es.toList.any (·.refKey) = true := by rw [a]; exact Bool.false_ne_true
    rw [if_neg a']
    exact congrArg some e
theorem ObjM.look {h : Heap} {x dx C : Addr} {mA : Str → Option Value} (I : ObjM h x dx C mA) : ∃ od, PySem.W.InstAt h x (PySem.W.instObj C dx) C (some od) ∧ ∀ name, PySem.W.lookIn name od = some (mA name) :=
  let ⟨od, ho, hl⟩ := lookIn_ns I.ns
  ⟨od, ⟨I.obj, rfl, rfl, ho⟩, hl⟩
section
variable {prog : Program} {w : World} {A : Around} {E : Value → Shared → Prop} {s : Shared} {K : PySem.W.Frag} {x dx C f : Addr} {mA : Str → Option Value} {name : Str} {v : Value}
end
def putF (f : Str) (v : V) : List (Str × V) → List (Str × V)
  | [] => [(f, v)]
  | (g, x) :: r => if g = f then (g, v) :: r else (g, x) :: putF f v r
theorem RelO.some_of {v : V} {o : Option Value} (r : RelO (some v) o) : ∃ u, o = some u ∧ RelV v u := by
  cases o with
  | none => exact (show False from r).elim
  | some u => exact ⟨u, rfl, r⟩
section
variable {P : Program} {w : World} {H H' : Hp} {h h' : Heap} {a C dx : Addr} {fs fs' : List (Str × V)}
theorem ins_get (hok : HOk P w H h) (e : H a = some (.ins C dx fs)) : ∃ mA, ObjM h a dx C mA ∧ (∀ f, RelO (fs.lookup f) (mA f)) ∧ PySem.Within mA (fs.map (·.1)) ∧ fs.length ≤ 1000 ∧ H dx = some (.own a) := by
  obtain ⟨d, z, ne, ob, mA, n, r, q⟩ := (show zbA P w H h a (.ins C dx fs) from hok a _ e)
  exact ⟨mA, ⟨ob, n, ne⟩, r, q, z, d⟩
end
structure Cls (K : PySem.W.Frag) (C : Addr) : Prop where
  pg : PySem.W.plainGet K C Str.empty = true
  hd : PySem.W.hasDictIn K C = true
  po : PySem.W.plainOver K C = true
  sa : PySem.W.findIn K (.ref C) "__setattr__" = some (some (.builtin "object.__setattr__"))
theorem Cls.get {K : PySem.W.Frag} {C : Addr} (c : Cls K C) (f : Str) : PySem.W.plainGet K C f = true := c.pg
def NoAttr (K : PySem.W.Frag) (C : Addr) (f : Str) : Prop := PySem.W.findIn K (.ref C) f = some none
structure Con (K : PySem.W.Frag) (C : Addr) (f : Str) (v : V) (u : Value) : Prop where
  at_ : PySem.W.findIn K (.ref C) f = some (some u)
  rel : RelV v u
  get : PySem.W.specialIn K u "__get__" = some none
  cp : PySem.W.copiedNames.contains f = false
structure Meth (K : PySem.W.Frag) (C : Addr) (m : Str) (f : Addr) : Prop where
  at_ : PySem.W.findIn K (.ref C) m = some (some (.ref f))
  fn : PySem.W.isFn K (.ref f) = true
  kp : PySem.W.keepIn K (.ref f) = true
section
variable {X : Cx} {pins : List (Addr × Obj)} {σ : St} {H : Hp} {s : Shared} {a C dx : Addr} {fs : List (Str × V)} {f : Str} {v : V} {A : Around} {E : Value → Shared → Prop}
end
def tFld (K : PySem.W.Frag) (ta : TE) (f : Str) : TE := fun σ H Q => ta σ H fun x H1 => ∃ a C dx fs v, x = .ref a ∧ H1 a = some (.ins C dx fs) ∧ Cls K C ∧ NoAttr K C f ∧ fs.lookup f = some v ∧ Q v H1
def tCon (K : PySem.W.Frag) (ta : TE) (f : Str) : TE := fun σ H Q => ta σ H fun x H1 => ∃ a C dx fs v u, x = .ref a ∧ H1 a = some (.ins C dx fs) ∧ Cls K C ∧ Con K C f v u ∧ fs.lookup f = none ∧ Q v H1
def sFld (K : PySem.W.Frag) (ta tv : TE) (f : Str) : TS := fun D σ H => tv σ H fun y H1 => ta σ H1 fun x H2 => ∃ a C dx fs, x = .ref a ∧ H2 a = some (.ins C dx fs) ∧ Cls K C ∧ NoAttr K C f ∧ fs.length < 1000 ∧
  D.nx σ (upd H2 a (.ins C dx (putF f y fs)))
def InOp (X : Cx) (op : Operator) (rd : V → V → Hp → VK → Prop) : Prop :=
  ∀ (pins : List (Addr × Obj)) (s : Shared) (σ : St) (H : Hp) (x y : V) (u v : Value) (Q : VK), Inv X pins σ H s → RelV x u → RelV y v → rd x y H Q → wpAny (model X.prog X.w) X.A (inplaceOp op u v) (EP X pins σ Q) X.xe s
def sFldAug (K : PySem.W.Frag) (ta tv : TE) (rd : V → V → Hp → VK → Prop) (f : Str) : TS := fun D σ H => ta σ H fun x H1 => ∃ a C dx fs v, x = .ref a ∧ H1 a = some (.ins C dx fs) ∧ Cls K C ∧ NoAttr K C f ∧ fs.lookup f = some v ∧
  tv σ H1 fun y H2 => rd v y H2 fun z H3 => ∃ dx' fs', H3 a = some (.ins C dx' fs') ∧ fs'.length < 1000 ∧ D.nx σ (upd H3 a (.ins C dx' (putF f z fs')))
section
variable {X : Cx} {o e value : Expr} {f : Str} {pos pos' tpos : Pos} {ta tv : TE}
def rAdd : V → V → Hp → VK → Prop := fun x y H Q => ∃ i j, x = .int i ∧ y = .int j ∧ Q (.int (i + j)) H
def rSub : V → V → Hp → VK → Prop := fun x y H Q => ∃ i j, x = .int i ∧ y = .int j ∧ Q (.int (i - j)) H
end
section
variable {X : Cx} {pins : List (Addr × Obj)} {σ : St} {H : Hp} {s : Shared} {A : Around} {E : Value → Shared → Prop} {Q : Value → Shared → Prop} {c : Value} {b : Bool}
inductive TyOf (K : PySem.W.Frag) (H : Hp) : V → Value → Prop where
  | non : TyOf K H .non (.type "NoneType")
  | bl (x : Bool) : TyOf K H (.bl x) (.type "bool")
  | int (i : Int) : TyOf K H (.int i) (.type "int")
  | str (x : Str) : TyOf K H (.str x) (.type "str")
  | flt (x : UInt64) : TyOf K H (.flt x) (.type "float")
  | lst {a : Addr} {xs : List V} (e : H a = some (.lst xs)) : TyOf K H (.ref a) (.type "list")
  | frz {a : Addr} {o : Obj} {xs : List V} (e : H a = some (.frz o (.lst xs))) : TyOf K H (.ref a) (.type "list")
  | tup {a : Addr} {xs : List V} (e : H a = some (.tup xs)) : TyOf K H (.ref a) (.type "tuple")
  | dK {a : Addr} {kvs : List (Key × V)} (e : H a = some (.dK kvs)) : TyOf K H (.ref a) (.type "dict")
  | dT {a : Addr} {kvs : List (List Key × V)} (e : H a = some (.dT kvs)) : TyOf K H (.ref a) (.type "dict")
  | ins {a C dx : Addr} {fs : List (Str × V)} (e : H a = some (.ins C dx fs)) (cl : Cls K C) (ha : PySem.W.findIn K (.ref C) "__class__" = some (some (.builtin "object.__class__")))
      (hn : PySem.W.specialIn K (.builtin "object.__class__") "__get__" = some (some (.builtin "getset_descriptor.__get__"))) (htk : PySem.W.takesIn K (.builtin "object.__class__") = some true)
      (hm : PySem.W.mroIn K C (.type "object") = some true) : TyOf K H (.ref a) (.ref C)
theorem isinst_ok {x : V} {u t : Value} (I : Inv X pins σ H s) (rx : RelV x u) (ty : TyOf X.K H x t) (e : PySem.W.kitOne X.K t c = some b) (h : ∀ tk, Q (.bool b) { s with toks := tk }) :
    wpAny (model X.prog X.w) A (call (.builtin "isinstance") [u, c]) Q E s := by
  cases ty with
  | non => cases (show u = Value.none from rx); exact PySem.W.kia_one PySem.W.kitx_none I.kIn True.intro e (fun z => nomatch z) h
  | bl y => cases (show u = Value.bool y from rx); exact PySem.W.kia_one PySem.W.kitx_bool I.kIn True.intro e (fun z => nomatch z) h
  | int i => obtain ⟨t, q⟩ := (show ∃ t, u = Value.int i t from rx); cases q; exact PySem.W.kia_one PySem.W.kitx_int I.kIn True.intro e (fun z => nomatch z) h
  | str y => obtain ⟨t, q⟩ := (show ∃ t, u = Value.str y t from rx); cases q; exact PySem.W.kia_one PySem.W.kitx_str I.kIn True.intro e (fun z => nomatch z) h
  | flt y => obtain ⟨t, q⟩ := (show ∃ t, u = Value.float y t from rx); cases q; exact PySem.W.kia_one PySem.W.kitx_float I.kIn True.intro e (fun z => nomatch z) h
  | @lst a xs ea =>
    cases (show u = Value.ref a from rx)
    obtain ⟨_, _, n, _, h1⟩ := (show zbA X.prog X.w H s.heap a (.lst xs) from I.hok a _ ea)
    exact PySem.W.kia_one PySem.W.kitx_list I.kIn ⟨_, h1, rfl⟩ e (fun z => nomatch z) h
  | @frz a ob xs ea =>
    cases (show u = Value.ref a from rx)
    obtain ⟨_, _, _, n, _, h1⟩ := (show zbA X.prog X.w H s.heap a (.frz ob (.lst xs)) from I.hok a _ ea)
    exact PySem.W.kia_one PySem.W.kitx_list I.kIn ⟨_, h1, rfl⟩ e (fun z => nomatch z) h
  | @tup a xs ea =>
    cases (show u = Value.ref a from rx)
    obtain ⟨_, _, _, p⟩ := (show zbA X.prog X.w H s.heap a (.tup xs) from I.hok a _ ea)
    obtain ⟨o, h1, h2, _⟩ := p
    exact PySem.W.kia_one PySem.W.kitx_tuple I.kIn ⟨o, h1, h2⟩ e (fun z => nomatch z) h
  | @dK a kvs ea =>
    cases (show u = Value.ref a from rx)
    obtain ⟨_, _, vs, _, p⟩ := (show zbA X.prog X.w H s.heap a (.dK kvs) from I.hok a _ ea)
    obtain ⟨o, es, ep, h1, h2, _⟩ := p
    exact PySem.W.kia_one PySem.W.kitx_dict I.kIn ⟨o, h1, h2.1⟩ e (fun z => nomatch z) h
  | @dT a kvs ea =>
    cases (show u = Value.ref a from rx)
    obtain ⟨_, _, xs, _, o, es, ep, h1, h2, _⟩ := (show zbA X.prog X.w H s.heap a (.dT kvs) from I.hok a _ ea)
    exact PySem.W.kia_one PySem.W.kitx_dict I.kIn ⟨o, h1, h2.1⟩ e (fun z => nomatch z) h
  | @ins a C dx fs ea cl ha hn htk hm =>
    cases (show u = Value.ref a from rx)
    obtain ⟨mA, O, _⟩ := ins_get I.hok ea
    obtain ⟨od, J, _⟩ := O.look
    exact PySem.W.kia_one (PySem.W.kitx_own (cl.get _) cl.hd ha hn htk hm) I.kIn J e (fun z => nomatch z) h
end
end L2
namespace L2
open PySem PySem.Spec PyProof.Rows
structure Room (k : Nat) (A : Around) : Prop where
  hd : A.handled = none
  dp : A.depth + 3 * k + 5 < recursionLimit
  un : A.units + 16 * k + 200 < cLine
theorem Room.mono {j k : Nat} {A : Around} (r : Room k A) (h : j ≤ k) : Room j A := ⟨r.hd, by have := r.dp; omega, by have := r.un; omega⟩
theorem Room.deeper {k : Nat} {A : Around} (r : Room (k + 1) A) (env : Env) : Room k (A.deeper env) :=
  ⟨r.hd, by have := r.dp; show A.depth + 1 + 3 * k + 5 < _; omega, by have := r.un; show A.units + 3 + 16 * k + 200 < _; omega⟩
theorem Room.in1 {k : Nat} {A : Around} (r : Room (k + 1) A) : Room k A.in1 :=
  ⟨r.hd, by have := r.dp; show A.depth + 3 * k + 5 < _; omega, by have := r.un; show A.units + 1 + 16 * k + 200 < _; omega⟩
theorem Room.depth {k : Nat} {A : Around} (r : Room k A) : A.depth < recursionLimit := by have := r.dp; omega
theorem Room.units {k : Nat} {A : Around} (r : Room k A) : A.units + 64 < cLine := by have := r.un; omega
def tNil : TA := fun _ H Q => Q [] H
def tCons (ta : TE) (tr : TA) : TA := fun σ H Q => ta σ H fun x H1 => tr σ H1 fun xs H2 => Q (x :: xs) H2
section
variable {X : Cx} {e : Expr} {es : List Expr} {te : TE} {t : TA} {pos : Pos}
theorem zad : PA X [] tNil := fun _ _ _ _ H Q I h => Calls.spliced_nil ⟨[], H, I, .nil, h⟩
theorem zaa (ha : PE X e te) (hr : PA X es t) (hs : starEach (e :: es) X.env = (false, eval e X.env) :: starEach es X.env := by rfl) : PA X (e :: es) (tCons te t) := by
  intro pos pins s σ H Q I h
  rw [hs]
  show wpAny _ _ (spliced ((false, eval e X.env) :: backTo pos (starEach es X.env))) _ _ s
  refine Calls.spliced_cons (thn (ha pins s σ H _ I h) fun u s1 ⟨x, H1, I1, r1, q1⟩ => ?_)
  exact thn (hr pos pins s1 σ H1 _ I1 q1) fun us s2 ⟨xs, H2, I2, r2, q2⟩ => ⟨x :: xs, H2, I2, .cons r1 r2, q2⟩
def tTup (t : TA) : TE := fun σ H Q => t σ H fun xs H1 => xs.length ≤ sizeLine ∧ ∀ p, H1 p = none → Q (.ref p) (upd H1 p (.tup xs))
def tLst (t : TA) : TE := fun σ H Q => t σ H fun xs H1 => xs.length ≤ sizeLine ∧ ∀ p, H1 p = none → Q (.ref p) (upd H1 p (.lst xs))
theorem zca {x1} (h : PA X es t) : PE X (.Tuple es x1 pos) (tTup t) := by
  intro pins s σ H Q I hq
  refine wpAny_Tuple_spliced (thn (h pos pins s σ H _ I hq) fun us s1 ⟨xs, H1, I1, r, z, q⟩ => ⟨by rw [← r.length]; exact z, ?_⟩)
  have hf : H1 s1.heap.objs.size = none := I1.hok.fresh (Nat.le_refl _)
  refine ⟨.ref s1.heap.objs.size, upd H1 s1.heap.objs.size (.tup xs), I1.laid (t' := s1.toks) (fun b u e => Heap.get?_push_of_some _ e) (Nat.le_refl _) ?_, rfl, q _ hf⟩
  exact ⟨z, us, r, ⟨_, Heap.get?_push_size _ rfl, rfl, _, rfl⟩⟩
theorem zbL (h : PA X es t) : PE X (.List es pos) (tLst t) := by
  intro pins s σ H Q I hq
  refine wpAny_List_spliced (thn (h pos pins s σ H _ I hq) fun us s1 ⟨xs, H1, I1, r, z, q⟩ => ⟨by rw [← r.length]; exact z, ?_⟩)
  have hf : H1 s1.heap.objs.size = none := I1.hok.fresh (Nat.le_refl _)
  refine ⟨.ref s1.heap.objs.size, upd H1 s1.heap.objs.size (.lst xs), I1.laid (t' := s1.toks) (fun b u e => Heap.get?_push_of_some _ e) (Nat.le_refl _) ?_, rfl, q _ hf⟩
  exact ⟨z, us, 0, r, Heap.get?_push_size _ rfl⟩
end
abbrev Sp := List V → Hp → VK → XK → Prop
abbrev CXT := List Env → Hp → Shared → XK → Value → Shared → Prop
structure Env0 (P : Program) (w : World) (K : PySem.W.Frag) (mg : Str → Option Value) (base : Heap) (A : Around) (outer : List Env) (s : Shared) (H : Hp) : Prop where
  frames : A.frames = some outer
  mod : Mod K mg base
  bs : ∀ b o, base.get? b = some o → s.heap.get? b = some o ∧ H b = none
  bsz : base.objs.size ≤ s.heap.objs.size
  funs : s.heap.FunFrames base outer
  frf : ∀ b ∈ frs outer, H b = none
  hok : HOk P w H s.heap
  bare : AllBare s.gens
def CE (outer : List Env) (P : Program) (w : World) (H : Hp) (s : Shared) (Q : VK) (u : Value) (s' : Shared) : Prop :=
  ∃ v H', s'.os = s.os ∧ AllBare s'.gens ∧ Un (frs outer) [] H H' s.heap s'.heap ∧ HOk P w H' s'.heap ∧ RelV v u ∧ Q v H'
def CR (CX : CXT) (outer : List Env) (P : Program) (w : World) (H : Hp) (s : Shared) (Q : VK) (E : XK) (r : Result) (s' : Shared) : Prop :=
  match r with
  | .ok (.ret u) => CE outer P w H s Q u s'
  | .ok _ => False
  | .error e => CX outer H s E e s'
structure FnOk (P : Program) (w : World) (K : PySem.W.Frag) (mg : Str → Option Value) (base : Heap) (CX : CXT) (k : Nat) (f : Addr) (fd : FuncData) (ps : List Str) (sp : Sp) : Prop where
  len : ∀ vs H Q E, sp vs H Q E → vs.length = ps.length
  run : ∀ (A : Around) (outer : List Env) (s : Shared) (H : Hp) (args : Args) (us : List Value) (vs : List V) (Q : VK) (E : XK), Room k A → Env0 P w K mg base A outer s H → BindsTo s fd args (ps.zip us) → Vals vs us → sp vs H Q E →
    codeAny (model P w) A (.call (.ref f) args) (CR CX outer P w H s Q E) s
theorem FnOk.mono {P : Program} {w : World} {K : PySem.W.Frag} {mg : Str → Option Value} {base : Heap} {CX : CXT} {j k : Nat} {f : Addr} {fd : FuncData} {ps : List Str} {sp : Sp} (F : FnOk P w K mg base CX j f fd ps sp) (h : j ≤ k) :
    FnOk P w K mg base CX k f fd ps sp := ⟨F.len, fun A outer s H args us vs Q E hr => F.run A outer s H args us vs Q E (hr.mono h)⟩
theorem FnOk.imp {P : Program} {w : World} {K : PySem.W.Frag} {mg : Str → Option Value} {base : Heap} {CX : CXT} {k : Nat} {f : Addr} {fd : FuncData} {ps : List Str} {sp sp' : Sp} (F : FnOk P w K mg base CX k f fd ps sp)
    (h : ∀ vs H Q E, sp' vs H Q E → sp vs H Q E) : FnOk P w K mg base CX k f fd ps sp' :=
  ⟨fun vs H Q E q => F.len vs H Q E (h _ _ _ _ q), fun A outer s H args us vs Q E hr he hb hv hs => F.run A outer s H args us vs Q E hr he hb hv (h _ _ _ _ hs)⟩
theorem Env0.in1 {P : Program} {w : World} {K : PySem.W.Frag} {mg : Str → Option Value} {base : Heap} {A : Around} {outer : List Env} {s : Shared} {H : Hp} (e : Env0 P w K mg base A outer s H) :
    Env0 P w K mg base A.in1 outer s H := ⟨e.frames, e.mod, e.bs, e.bsz, e.funs, e.frf, e.hok, e.bare⟩
section
variable {X : Cx} {pins : List (Addr × Obj)} {σ : St} {H : Hp} {s s' : Shared}
theorem Inv.env0 (I : Inv X pins σ H s) : Env0 X.prog X.w X.K X.mg X.base X.A X.stack s H :=
  ⟨I.ok.frames, I.ok.mod, I.bs, Nat.le_trans I.ok.bsz I.sz, I.stack, I.stkFree, I.hok, I.bare⟩
theorem Inv.after {Q : VK} {u : Value} (I : Inv X pins σ H s) (h : CE X.stack X.prog X.w H s Q u s') : EP X pins σ Q u s' := by
  obtain ⟨v, H', os, bare, un, hok, r, q⟩ := h
  obtain ⟨hh, g, d, t, os'⟩ := s'
  obtain rfl : os' = s.os := os
  exact ⟨v, H', I.call (h' := hh) (g' := g) (d' := d) (t' := t) (ch := []) un hok bare (fun b z => absurd z (by simp)), r, q⟩
end
def tCall (sp : Sp) (dvs : List V) (E : XK) (t : TA) : TE := fun σ H Q => t σ H fun vs H1 => sp (vs ++ dvs) H1 Q E
def tMeth (C : Addr) (m : Str) (sp : Sp) (dvs : List V) (E : XK) (ta : TE) (t : TA) : TE := fun σ H Q => ta σ H fun x H1 => ∃ a dx fs, x = .ref a ∧ H1 a = some (.ins C dx fs) ∧ fs.lookup m = none ∧
  t σ H1 fun vs H2 => sp (x :: (vs ++ dvs)) H2 Q E
def tMake (C : Addr) (sp : Sp) (dvs : List V) (E : XK) (t : TA) : TE := fun σ H Q => t σ H fun vs H1 => ∀ x dx, H1 x = none → H1 dx = none → dx ≠ x →
  sp (.ref x :: (vs ++ dvs)) (upd (upd H1 dx (.own x)) x (.ins C dx [])) (fun v H2 => v = .non ∧ Q (.ref x) H2) E
def zh4 (K : PySem.W.Frag) (fd : FuncData) (ps : List Str) (ds : List Value) : Prop :=
  ∀ (s : Shared) (us : List Value), K.In s.heap → (us ++ ds).length = ps.length → BindsTo s fd ⟨us, []⟩ (ps.zip (us ++ ds))
theorem zh4.all {K : PySem.W.Frag} {fd : FuncData} {ps : List Str} (h : ∀ us : List Value, us.length = ps.length → bindArgs fd ⟨us, []⟩ = pure (ps.zip us)) : zh4 K fd ps [] := fun s us _ hl => by
  rw [List.append_nil] at hl ⊢
  exact .of_eq (h us hl)
def Passes (CX : CXT) (X : Cx) (E : XK) : Prop := ∀ (pins : List (Addr × Obj)) (σ : St) (H : Hp) (s : Shared) (e : Value) (s' : Shared), Inv X pins σ H s → CX X.stack H s E e s' → X.xe e s'
section
variable {X : Cx} {CX : CXT} {k : Nat} {f C : Addr} {fd : FuncData} {ps : List Str} {sp : Sp} {dvs : List V} {ds : List Value} {E : XK} {x m : Str} {p pos apos : Pos} {e o : Expr} {es : List Expr} {ta : TE} {t : TA}
theorem run_fn {pins : List (Addr × Obj)} {σ : St} {H : Hp} {s : Shared} {Q : VK} {us : List Value} {vs : List V} (F : FnOk X.prog X.w X.K X.mg X.base CX k f fd ps sp) (hr : Room k X.A) (hb : zh4 X.K fd ps ds) (hd : Vals dvs ds) (hx : Passes CX X E)
    (I : Inv X pins σ H s) (r : Vals vs us) (h : sp (vs ++ dvs) H Q E) : wpAny (model X.prog X.w) X.A (call (.ref f) us) (EP X pins σ Q) X.xe s := by
  have r2 : Vals (vs ++ dvs) (us ++ ds) := r.append hd
  have hl : (us ++ ds).length = ps.length := by rw [← r2.length]; exact F.len _ _ _ _ h
  refine wpAny_call (codeAny_mono (F.run X.A X.stack s H ⟨us, []⟩ (us ++ ds) (vs ++ dvs) Q E hr I.env0 (hb s us I.kIn hl) r2 h) fun r s' hq => ?_)
  cases r with
  | error e => exact hx pins σ H s e s' I hq
  | ok fl =>
    cases fl with
    | ret u => exact I.after hq
    | next => exact False.elim hq
    | brk => exact False.elim hq
    | cont => exact False.elim hq
theorem pe_call (F : FnOk X.prog X.w X.K X.mg X.base CX k f fd ps sp) (hr : Room k X.A) (hg : Gl X x) (hm : X.mg x = some (.ref f)) (hk : PySem.W.keepIn X.K (.ref f) = true) (hb : zh4 X.K fd ps ds) (hd : Vals dvs ds) (hx : Passes CX X E)
    (ha : PA X (e :: es) t) (hdb : (x == ("__debug__" : Str)) = false := by decide) (he : starEach (e :: es) X.env = (false, eval e X.env) :: starEach es X.env := by rfl) (hpl : (backTo pos (starEach es X.env)).any (·.1) = false := by rfl) :
    PE X (.Call (.Name x p) (e :: es) [] pos) (tCall sp dvs E t) := by
  intro pins s σ H Q I h
  refine wpAny_Call_Name_kw (ld_glob I hg hm ?_ hdb)
  refine PySem.W.callWith_K (h₀ := X.base) I.ok.mod.kin hk (thn (ha pos pins s σ H _ I h) fun us s1 ⟨vs, H1, I1, r, q⟩ => ⟨I1.kIn, ?_⟩) he hpl
  exact run_fn F hr hb hd hx I1 r q
structure Mk (K : PySem.W.Frag) (C f : Addr) : Prop where
  makes : PySem.W.makesIn K C = true
  init : PySem.W.findIn K (.ref C) "__init__" = some (some (.ref f))
  fn : PySem.W.isFn K (.ref f) = true
  kp : PySem.W.keepIn K (.ref C) = true
end
def PK (X : Cx) (kws : List Keyword) (t : TA) : Prop :=
  ∀ (pos : Pos) (pins : List (Addr × Obj)) (s : Shared) (σ : St) (H : Hp) (Q : List V → Hp → Prop), Inv X pins σ H s → t σ H Q → wpAny (model X.prog X.w) X.A (evalAll ((backToKw pos (keywordEach kws X.env)).map (·.2))) (AP X pins σ Q) X.xe s
section
variable {X : Cx} {CX : CXT} {k : Nat} {f C : Addr} {fd : FuncData} {ps ks : List Str} {sp : Sp} {E : XK} {x m : Str} {p pos apos kpos : Pos} {e o : Expr} {es : List Expr} {kws : List Keyword} {te ta : TE} {t tk : TA} {nm : Option Str}
structure KBinds (K : PySem.W.Frag) (fd : FuncData) (ps ks : List Str) (g : List Value → List Value → List Value) (gV : List V → List V → List V) : Prop where
  to : ∀ (s : Shared) (us ws : List Value), K.In s.heap → (g us ws).length = ps.length → BindsTo s fd ⟨us, ks.zip ws⟩ (ps.zip (g us ws))
  rel : ∀ {vs : List V} {us : List Value} {zs : List V} {ws : List Value}, Vals vs us → Vals zs ws → Vals (gV vs zs) (g us ws)
def tCallK (sp : Sp) (gV : List V → List V → List V) (E : XK) (t tk : TA) : TE := fun σ H Q => t σ H fun vs H1 => tk σ H1 fun zs H2 => sp (gV vs zs) H2 Q E
variable {g : List Value → List Value → List Value} {gV : List V → List V → List V}
end
structure zav (N P : List Str) (sc : Scope) : Prop where
  kind : sc.kind = .function
  co : sc.isCoroutine = false
  gen : sc.isGenerator = false
  nd : N.Nodup
  pre : N.take P.length = P
  par : ∀ x ∈ P, sc.names.lookup x = some .local ∨ sc.names.lookup x = some .cell
  nofree : ∀ y ∈ sc.names, y.2 ≠ .free
theorem zhd {kindOf : Str → Option NameKind} {x : Str} : ∀ {binds : List (Str × Value)} {m : Str → Option Value}, (∀ v, (x, v) ∉ binds) → bindL kindOf binds m x = m x
  | [], _, _ => rfl
  | (n, v) :: r, m, h => by
    unfold bindL
    rw [zhd fun w hw => h w (List.mem_cons_of_mem _ hw)]
    split
    · have : x ≠ n := by rintro rfl; exact h v List.mem_cons_self
      simp [this]
    · rfl
theorem zhf {kindOf : Str → Option NameKind} {x : Str} : ∀ {binds : List (Str × Value)} {m : Str → Option Value}, (∀ v, (x, v) ∉ binds) → bindC kindOf binds m x = m x
  | [], _, _ => rfl
  | (n, v) :: r, m, h => by
    unfold bindC
    rw [zhf fun w hw => h w (List.mem_cons_of_mem _ hw)]
    split
    · rfl
    · have : x ≠ n := by rintro rfl; exact h v List.mem_cons_self
      simp [this]
theorem zhe {kindOf : Str → Option NameKind} {x : Str} {v : Value} : ∀ {P : List Str} {vs : List Value} {i : Nat} {m : Str → Option Value}, P.Nodup → P[i]? = some x → vs[i]? = some v → kindOf x = some .local →
    bindL kindOf (P.zip vs) m x = some v
  | [], _, _, _, _, h, _, _ => by simp at h
  | _ :: _, [], _, _, _, _, h, _ => by simp at h
  | p :: P, w :: vs, 0, m, nd, h1, h2, hk => by
    simp at h1 h2; subst h1; subst h2
    show bindL kindOf ((p, w) :: P.zip vs) m p = _
    unfold bindL
    rw [zhd fun v hv => (List.nodup_cons.mp nd).1 (List.of_mem_zip hv).1, if_pos hk]
    simp
  | p :: P, w :: vs, i + 1, m, nd, h1, h2, hk => by
    show bindL kindOf ((p, w) :: P.zip vs) m x = _
    unfold bindL
    exact zhe (i := i) (List.nodup_cons.mp nd).2 (by simpa using h1) (by simpa using h2) hk
theorem zhg {kindOf : Str → Option NameKind} {x : Str} {v : Value} : ∀ {P : List Str} {vs : List Value} {i : Nat} {m : Str → Option Value}, P.Nodup → P[i]? = some x → vs[i]? = some v → kindOf x ≠ some .local →
    bindC kindOf (P.zip vs) m x = some v
  | [], _, _, _, _, h, _, _ => by simp at h
  | _ :: _, [], _, _, _, _, h, _ => by simp at h
  | p :: P, w :: vs, 0, m, nd, h1, h2, hk => by
    simp at h1 h2; subst h1; subst h2
    show bindC kindOf ((p, w) :: P.zip vs) m p = _
    unfold bindC
    rw [zhf fun v hv => (List.nodup_cons.mp nd).1 (List.of_mem_zip hv).1, if_neg hk]
    simp
  | p :: P, w :: vs, i + 1, m, nd, h1, h2, hk => by
    show bindC kindOf ((p, w) :: P.zip vs) m x = _
    unfold bindC
    exact zhg (i := i) (List.nodup_cons.mp nd).2 (by simpa using h1) (by simpa using h2) hk
def start (N : List Str) (vs : List V) : St := vs.map some ++ List.replicate (N.length - vs.length) none
def cxOf (CX : CXT) (P : Program) (w : World) (K : PySem.W.Frag) (mg : Str → Option Value) (base : Heap) (N : List Str) (qual : Str) (scope : Scope) (f : Addr) (cd : Value) (A : Around) (outer : List Env) (s : Shared) (H : Hp) (E : XK) : Cx where
  prog := P
  w := w
  K := K
  mg := mg
  base := base
  A := A.deeper (envOfC qual scope s.heap.objs.size f cd)
  N := N
  s₀ := s
  H₀ := H
  env := envOfC qual scope s.heap.objs.size f cd
  outer := outer
  stack := envOfC qual scope s.heap.objs.size f cd :: outer
  ex := []
  calm := true
  fn := fun _ => true
  pn := []
  xe := fun e s' => wpAny (model P w) (A.deeper (envOfC qual scope s.heap.objs.size f cd)) (leaving (envOfC qual scope s.heap.objs.size f cd) e) (fun _ s'' => CX outer H s E e s'') (fun e' s'' => CX outer H s E e' s'') s'
theorem ziR {sc : Scope} {n : Nat} {x : Str} (h : sc.names.lookup x = some .cell) : ∃ c, (cellsFrom n sc.names []).lookup x = some c := by
  have q := PySem.W.cellsFrom_some sc.names n [] (.inl h)
  exact Option.isSome_iff_exists.mp q
theorem inv_start {CX : CXT} {P : Program} {w : World} {K : PySem.W.Frag} {mg : Str → Option Value} {base : Heap} {N ps : List Str} {qual : Str} {scope : Scope} {f : Addr} {cd : Value} {A : Around} {outer : List Env} {s s1 : Shared} {H : Hp} {E : XK} {us : List Value} {vs : List V}
    (S : zav N ps scope) (hd : A.handled = none) (e0 : Env0 P w K mg base A outer s H) (hl : vs.length = ps.length) (r : Vals vs us)
    (x : InCallC s s.heap.objs.size (bindL (envOfC qual scope s.heap.objs.size f cd).kindOf (ps.zip us) fun _ => none) (cellsFrom (s.heap.objs.size + 1) scope.names []) (bindC (envOfC qual scope s.heap.objs.size f cd).kindOf (ps.zip us) fun _ => none) s1) :
    Inv (cxOf CX P w K mg base N qual scope f cd A outer s H E) [] (start N vs) H s1 := by
  have hpl : ps.length ≤ N.length := by have := congrArg List.length S.pre; rw [List.length_take] at this; omega
  obtain ⟨h1, tk, rfl, hk⟩ := x.done
  have noA : ∀ b : Addr, b ∉ (cxOf CX P w K mg base N qual scope f cd A outer s H E).ex := fun b z => absurd (show b ∈ ([] : List Addr) from z) (by simp)
  refine ⟨⟨e0.mod, S.kind, rfl, rfl, Nat.le_refl _, fun y z c h1 h2 => ?_, fun y hy => ?_, fun y c _ h => ?_, fun _ => hd, Around.frames_deeper e0.frames, .inr ⟨rfl, rfl⟩, fun b z => absurd z (noA b), e0.bs, e0.bsz, fun b _ _ => noA b, fun b z => absurd z (noA b), e0.funs, e0.frf⟩,
    rfl, e0.bare, Un.kept hk, ⟨_, x.toInCall.ns, fun i y v h1 h2 h3 => ?_⟩, fun y c h => ⟨_, x.cell y c h⟩, e0.hok.fresh (Nat.le_refl _), fun y c h => ?_, fun p hp => absurd (show p ∈ ([] : List (Addr × Obj)) from hp) (by simp), e0.hok.kept hk, ?_⟩
  · exact name_of_addr x.apart (PySem.mem_of_lookup h1) (PySem.mem_of_lookup h2)
  · have hy : scope.names.lookup y = some .cell ∨ scope.names.lookup y = some .free := hy
    rcases hy with hy | hy
    · exact ziR hy
    · exact absurd rfl (S.nofree _ (PySem.mem_of_lookup hy))
  · exact Nat.le_of_lt (x.above y c (PySem.mem_of_lookup h))
  · have hi : i < vs.length := by
      unfold start at h2
      by_cases hi : i < vs.length
      · exact hi
      · rw [List.getElem?_append_right (by simpa using hi)] at h2
        rw [List.getElem?_replicate] at h2
        split at h2 <;> cases h2
    have ha : vs[i]? = some v := by
      unfold start at h2
      rw [List.getElem?_append_left (by simpa using hi), List.getElem?_map] at h2
      cases e : vs[i]? with
      | none => rw [e] at h2; cases h2
      | some a => rw [e] at h2; cases h2; rfl
    obtain ⟨u, hu, rv⟩ := r.get ha
    have hp : ps[i]? = some y := by
      rw [← S.pre, List.getElem?_take_of_lt (by omega)]; exact h1
    have ndP : ps.Nodup := by rw [← S.pre]; exact S.nd.sublist (List.take_sublist _ _)
    refine ⟨u, rv, ?_⟩
    rcases S.par y (List.mem_of_getElem? hp) with k | k
    · exact .inl ⟨k, zhe ndP hp hu k⟩
    · obtain ⟨c, e⟩ := ziR (n := s.heap.objs.size + 1) k
      refine .inr ⟨.inl k, c, e, ?_⟩
      have q := x.cell y c e
      rw [zhg ndP hp hu (by show scope.names.lookup y ≠ _; rw [k]; decide)] at q
      exact q
  · exact e0.hok.fresh (Nat.le_of_lt (x.above y c (PySem.mem_of_lookup h)))
  · unfold start
    show _ = N.length
    rw [List.length_append, List.length_map, List.length_replicate]
    omega
theorem fn_of {CX : CXT} {P : Program} {w : World} {K : PySem.W.Frag} {mg : Str → Option Value} {base : Heap} {k : Nat} {f : Addr} {name qual : Str} {params : Arguments} {body : List Stmt} {scope : Scope} {dV kV doc pm cdv ct oc : Value} {an od : Option Addr}
    {osl : Array (Option Value)} {N ps : List Str} {sp : Sp} (lk : K.lookup f = some ⟨oc, od, .func (PySem.W.fnOf name qual params body scope dV kV doc pm an cdv ct), osl⟩) (hcd : PySem.W.codeIn K cdv qual = true) (S : zav N ps scope)
    (len : ∀ vs H Q E, sp vs H Q E → vs.length = ps.length)
    (hbody : ∀ (A : Around) (outer : List Env) (s : Shared) (H : Hp) (vs : List V) (Q : VK) (E : XK), Room k (A.deeper (envOfC qual scope s.heap.objs.size f cdv)) → sp vs H Q E →
      ∃ t, PSs (cxOf CX P w K mg base N qual scope f cdv A outer s H E) body t ∧ t { nx := fun _ H' => Q .non H', rt := Q } (start N vs) H) :
    FnOk P w K mg base CX (k + 1) f (PySem.W.fnOf name qual params body scope dV kV doc pm an cdv ct) ps sp := by
  refine ⟨len, fun A outer s H args us vs Q E hr e0 hb r hsp => ?_⟩
  have hl := len _ _ _ _ hsp
  have KX : K.In s.heap := e0.mod.kin.keeps fun b o e => (e0.bs b o e).1
  have lim : s.heap.NoLimit := e0.mod.nolimit.keeps fun b o e => (e0.bs b o e).1
  have hkind : ∀ y ∈ ps.zip us, scope.names.lookup y.1 = some .local ∨ (scope.names.lookup y.1 = some .cell ∧ ((cellsFrom (s.heap.objs.size + 1) scope.names []).lookup y.1).isSome = true) := fun ⟨n, v⟩ hy => by
    rcases S.par n (List.of_mem_zip hy).1 with q | q
    · exact .inl q
    · exact .inr ⟨q, PySem.W.cellsFrom_some _ _ _ (.inl q)⟩
  refine codeAny_call_function hr.depth (KX _ _ lk) rfl S.co S.gen rfl (PySem.W.codeRec_of KX hcd) (hb _ _ _ _ ?_)
  refine wpAny_newFunctionEnv_cells S.kind hkind fun env he s1 x => ?_
  subst he
  refine ⟨lim.keeps x.toInCall.keep, codeAny_func ?_⟩
  obtain ⟨t, ht, hq⟩ := hbody A outer s H vs Q E (hr.deeper _) hsp
  have I : Inv (cxOf CX P w K mg base N qual scope f cdv A outer s H E) [] (start N vs) H s1 := inv_start S hr.hd e0 hl r x
  refine wpAny_mono (ht [] s1 (start N vs) H _ I hq) (fun fl s' hs => ?_) fun e s' hs => hs
  have fin : ∀ {σ' : St} {H' : Hp} {v : V} {u : Value}, Inv (cxOf CX P w K mg base N qual scope f cdv A outer s H E) [] σ' H' s' → RelV v u → Q v H' → CE outer P w H s Q u s' :=
    fun {σ' H' v u} J rv q => ⟨v, H', J.os, J.bare, J.base, J.hok, rv, q⟩
  cases fl with
  | ret u =>
    obtain ⟨v, σ', H', J, rv, q⟩ := hs
    exact fin J rv q
  | next =>
    obtain ⟨σ', H', J, q⟩ := hs
    exact fin (v := V.non) (u := Value.none) J rfl q
  | brk =>
    obtain ⟨_, _, _, q⟩ := hs
    exact False.elim q
  | cont =>
    obtain ⟨_, _, _, q⟩ := hs
    exact False.elim q
end L2
namespace L2
open PySem PySem.Spec PyProof.Rows
section
variable {X : Cx} {x : Str} {p pos : Pos} {e : Expr} {es : List Expr} {t : TA} {id T : String} {r : List V → Hp → VK → Prop}
def tCB (r : List V → Hp → VK → Prop) (t : TA) : TE := fun σ H Q => t σ H fun vs H1 => r vs H1 Q
theorem zao (hc : zey X (.builtin id) r) (hg : Gl X x) (hm : X.mg x = none) (hv : bootBuiltins x = some (.builtin id)) (ha : PA X (e :: es) t) (hn : x ≠ "__name__" := by decide) (hdb : (x == ("__debug__" : Str)) = false := by decide)
    (he : starEach (e :: es) X.env = (false, eval e X.env) :: starEach es X.env := by rfl) (hpl : (backTo pos (starEach es X.env)).any (·.1) = false := by rfl) : PE X (.Call (.Name x p) (e :: es) [] pos) (tCB r t) := by
  intro pins s σ H Q I h
  refine wpAny_Call_Name_kw (zeq I hg hm hv ?_ hn hdb)
  exact PyProof.Rows.callWith_builtin1 (thn (ha pos pins s σ H _ I h) fun us s1 ⟨vs, H1, I1, r1, q1⟩ => hc pins s1 σ H1 vs us Q I1 r1 q1) he hpl
theorem zcO (hc : zey X (.type T) r) (hg : Gl X x) (hm : X.mg x = none) (hv : bootBuiltins x = some (.type T)) (ha : PA X (e :: es) t) (hn : x ≠ "__name__" := by decide) (hdb : (x == ("__debug__" : Str)) = false := by decide)
    (he : starEach (e :: es) X.env = (false, eval e X.env) :: starEach es X.env := by rfl) (hpl : (backTo pos (starEach es X.env)).any (·.1) = false := by rfl) : PE X (.Call (.Name x p) (e :: es) [] pos) (tCB r t) := by
  intro pins s σ H Q I h
  refine wpAny_Call_Name_kw (zeq I hg hm hv ?_ hn hdb)
  exact PyProof.Rows.callWith_type1 (thn (ha pos pins s σ H _ I h) fun us s1 ⟨vs, H1, I1, r1, q1⟩ => hc pins s1 σ H1 vs us Q I1 r1 q1) he hpl
end
end L2
namespace HT
open PySem PyProof.Rows
def lexLt : List Int → List Int → Bool
  | [], [] => false
  | [], _ :: _ => true
  | _ :: _, [] => false
  | x :: xs, y :: ys => if x = y then lexLt xs ys else decide (x < y)
section
open PySem.SeqAt
open PySem.AutoSeq1 (wpAny_loadPart')
open PySem.MeetsSeq PySem.MeetsSeq2 PySem.MeetsSeq3
end
section
variable {prog : Program} {w : World} {A : Around} {E : Value → Shared → Prop} {s : Shared}
def sIx (n d : Nat) : Option Int → Nat
  | none => d
  | some v => if v < 0 then (v + (n : Int)).toNat else min v.toNat n
theorem zhr (n d k : Nat) : sIx n d (some (k : Int)) = min k n := by
  show (if (k : Int) < 0 then ((k : Int) + (n : Int)).toNat else min (k : Int).toNat n) = min k n
  rw [if_neg (by omega), Int.toNat_natCast]
end
end HT
namespace L2
open PySem PySem.Spec PyProof.Rows
abbrev TO := St → Hp → (Option Int → Hp → Prop) → Prop
def PO (X : Cx) (e : Option Expr) (t : TO) : Prop :=
  ∀ (pins : List (Addr × Obj)) (s : Shared) (σ : St) (H : Hp) (Q : Option Int → Hp → Prop), Inv X pins σ H s → t σ H Q →
    wpAny (model X.prog X.w) X.A (evalPart e X.env) (fun u s' => ∃ o H', Inv X pins σ H' s' ∧ IsPart u o ∧ Q o H') X.xe s
def tNoPart : TO := fun _ H Q => Q none H
def zjD (t : TE) : TO := fun σ H Q => t σ H fun x H1 => ∃ i, x = .int i ∧ Q (some i) H1
section
variable {X : Cx} {e : Expr} {te : TE} {lo hi : Option Expr} {tl th : TO} {pos p2 : Pos}
theorem zcZ (h : PE X e te) : PO X (some e) (zjD te) := by
  intro pins s σ H Q I hw
  rw [evalPart_some]
  refine thn (h pins s σ H _ I hw) fun u s1 ⟨x, H1, I1, r1, q1⟩ => ?_
  obtain ⟨i, rfl, q⟩ := q1
  obtain ⟨t, rfl⟩ := r1
  exact ⟨some i, H1, I1, .int i t, q⟩
def SlR (X : Cx) (r : V → Option Int → Option Int → Hp → VK → Prop) : Prop :=
  ∀ (pins : List (Addr × Obj)) (s : Shared) (σ : St) (H : Hp) (x : V) (v vl vu : Value) (lo hi : Option Int) (sl : Addr) (Q : VK), Inv X pins σ H s → RelV x v → s.heap.IsSliceOf sl vl vu .none → IsPart vl lo → IsPart vu hi → r x lo hi H Q →
    ∃ T id, typeLookup (.type T) "__getitem__" = pure (some (.builtin id)) ∧ s.TypeIs v T ∧ wpAny (model X.prog X.w) X.A (getItem v (.ref sl)) (EP X pins σ Q) X.xe s
def tSl (r : V → Option Int → Option Int → Hp → VK → Prop) (te : TE) (tl th : TO) : TE := fun σ H Q => te σ H fun x H1 => tl σ H1 fun l H2 => th σ H2 fun u H3 => r x l u H3 Q
theorem zel {r : V → Option Int → Option Int → Hp → VK → Prop} (hr : SlR X r) (he : PE X e te) (hl : PO X lo tl) (hu : PO X hi th) : PE X (.Subscript e (.Slice lo hi none p2) pos) (tSl r te tl th) := by
  intro pins s σ H Q I h
  refine Subscript_ (thn (he pins s σ H _ I h) fun v s1 ⟨x, H1, I1, r1, q1⟩ => ?_)
  refine wpAny_Slice (thn (hl pins s1 σ H1 _ I1 q1) fun vl s2 ⟨l, H2, I2, pl, q2⟩ => thn (hu pins s2 σ H2 _ I2 q2) fun vu s3 ⟨u, H3, I3, pu, q3⟩ => ?_)
  rw [evalPart_none]
  refine wpAny_pure ?_
  have I4 : Inv X pins σ H3 { s3 with heap := s3.heap.push { cls := .type "slice", data := .fields #[vl, vu, .none] } } := I3.kept (t' := s3.toks) fun b ob q => Heap.get?_push_of_some _ q
  obtain ⟨T, id, hT, ht, hg⟩ := hr pins { s3 with heap := s3.heap.push { cls := .type "slice", data := .fields #[vl, vu, .none] } } σ H3 x v vl vu l u s3.heap.objs.size Q I4 r1 (Heap.IsSliceOf.new ..) pl pu q3
  show wpAny (model X.prog X.w) X.A (subscriptTail e (.Slice lo hi none p2) v (.ref s3.heap.objs.size)) (EP X pins σ Q) X.xe { s3 with heap := s3.heap.push { cls := .type "slice", data := .fields #[vl, vu, .none] } }
  exact tail_any (ops := [.ref s3.heap.objs.size, v]) ht hT hg (by with_unfolding_all rfl)
def cutV (xs : List V) (lo hi : Option Int) : List V := (xs.drop (HT.sIx xs.length 0 lo)).take (HT.sIx xs.length xs.length hi - HT.sIx xs.length 0 lo)
theorem zhU (xs : List V) (lo hi : Option Int) : (cutV xs lo hi).length ≤ xs.length := by
  unfold cutV
  rw [List.length_take, List.length_drop]
  omega
def rSlT (K : PySem.W.Frag) : V → Option Int → Option Int → Hp → VK → Prop := fun x lo hi H Q => ∃ a xs, x = .ref a ∧ SqT K H a xs ∧
  ¬ (HT.sIx xs.length 0 lo = 0 ∧ HT.sIx xs.length xs.length hi = xs.length) ∧ ∀ p, H p = none → Q (.ref p) (upd H p (.tup (cutV xs lo hi)))
def rLtT (K : PySem.W.Frag) : R2 := fun x y H Q => ∃ a b ns ms, x = .ref a ∧ y = .ref b ∧ SqT K H a (ns.map V.int) ∧ SqT K H b (ms.map V.int) ∧ Q (.bl (HT.lexLt ns ms)) H
def rCatT (K : PySem.W.Frag) : R2 := fun x y H Q => ∃ a b xs ys, x = .ref a ∧ y = .ref b ∧ SqT K H a xs ∧ SqT K H b ys ∧ xs ≠ [] ∧ xs.length + ys.length ≤ sizeLine ∧
  (ys = [] → Q (.ref a) H) ∧ (ys ≠ [] → ∀ p, H p = none → Q (.ref p) (upd H p (.tup (xs ++ ys))))
end
end L2
namespace L2
open PySem PySem.Spec PyProof.Rows
def ixN (n : Nat) (i : Int) : Option Nat := if 0 ≤ i then (if i < n then some i.toNat else none) else if -(n : Int) ≤ i then some (i + n).toNat else none
def atI {α : Type} (xs : List α) (i : Int) : Option α := (ixN xs.length i).bind fun j => xs[j]?
theorem ixN_seq {n : Nat} {i : Int} {j : Nat} (h : ixN n i = some j) : seqIndex? i n = some j ∧ j < n ∧ -(n : Int) ≤ i ∧ i < n := by
  unfold ixN at h
  by_cases h0 : 0 ≤ i
  · rw [if_pos h0] at h
    by_cases h1 : i < n
    · rw [if_pos h1] at h
      have e : i.toNat = j := Option.some.inj h
      exact ⟨by rw [seqIndex_of h0 h1, e], by omega, by omega, h1⟩
    · rw [if_neg h1] at h; cases h
  · rw [if_neg h0] at h
    by_cases h1 : -(n : Int) ≤ i
    · rw [if_pos h1] at h
      have e : (i + n).toNat = j := Option.some.inj h
      exact ⟨by rw [seqIndex_neg (by omega) h1, e], by omega, h1, by omega⟩
    · rw [if_neg h1] at h; cases h
theorem atI_get {α : Type} {xs : List α} {i : Int} {v : α} (h : atI xs i = some v) : ∃ j, seqIndex? i xs.length = some j ∧ xs[j]? = some v ∧ j < xs.length ∧ -(xs.length : Int) ≤ i ∧ i < xs.length := by
  unfold atI at h
  cases e : ixN xs.length i with
  | none => rw [e] at h; cases h
  | some j =>
    rw [e] at h
    obtain ⟨h1, h2, h3, h4⟩ := ixN_seq e
    exact ⟨j, h1, h, h2, h3, h4⟩
theorem zed {α : Type} {xs : List α} {j : Nat} {v : α} (h : xs[j]? = some v) : atI xs (j : Int) = some v := by
  have hj : j < xs.length := (List.getElem?_eq_some_iff.mp h).1
  have e : ixN xs.length (j : Int) = some j := by
    unfold ixN
    rw [if_pos (by omega), if_pos (by omega)]; simp
  unfold atI; rw [e]; exact h
def PlainIx (b : Expr) : Prop := ∀ o i, subscripted b false o i = operate [o, i] (getItem o i)
def IxR (X : Cx) (r : R2) : Prop :=
  ∀ (value slice : Expr) (pins : List (Addr × Obj)) (s : Shared) (σ : St) (H : Hp) (x y : V) (v u : Value) (Q : VK), Inv X pins σ H s → RelV x v → RelV y u → r x y H Q →
    subscripted slice false v u = operate [v, u] (getItem v u) → wpAny (model X.prog X.w) X.A (subscriptTail value slice v u) (EP X pins σ Q) X.xe s
def MtR (X : Cx) (id : String) (r : V → List V → Hp → VK → Prop) : Prop :=
  ∀ (pins : List (Addr × Obj)) (s : Shared) (σ : St) (H : Hp) (x : V) (xs : List V) (v : Value) (us : List Value) (Q : VK), Inv X pins σ H s → RelV x v → Vals xs us → r x xs H Q →
    wpAny (model X.prog X.w) X.A (call (.builtin id) (v :: us)) (EP X pins σ Q) X.xe s
section
variable {X : Cx} {a b : Expr} {ta tb : TE} {pos : Pos}
theorem zaK {r : R2} (hr : IxR X r) (ha : PE X a ta) (hb : PE X b tb) (hs : PlainIx b) : PE X (.Subscript a b pos) (tOp r ta tb) := by
  intro pins s σ H Q I h
  exact Subscript_ (binT ha hb I h fun v u s2 x y H2 I2 rx ry q => hr a b pins s2 σ H2 x y v u Q I2 rx ry q (hs _ _))
def rIxL (K : PySem.W.Frag) : R2 := fun x y H Q => ∃ p xs i v, x = .ref p ∧ y = .int i ∧ SqL K H p xs ∧ atI xs i = some v ∧ Q v H
def rIxT (K : PySem.W.Frag) : R2 := fun x y H Q => ∃ p xs i v, x = .ref p ∧ y = .int i ∧ SqT K H p xs ∧ atI xs i = some v ∧ Q v H
def rIxS : R2 := fun x y H Q => ∃ z i c, x = .str z ∧ y = .int i ∧ z.length ≤ sizeLine ∧ atI z.cps.toList i = some c ∧ Q (.str ⟨#[c]⟩) H
theorem zaE : IxR X (rIxL X.K) := by
  intro value slice pins s σ H x y v u Q I rx ry h hs
  obtain ⟨p, xs, i, z, rfl, rfl, hq, he, q⟩ := h
  cases rx
  obtain ⟨t, rfl⟩ := ry
  obtain ⟨its, r, pl, hz⟩ := I.list hq
  obtain ⟨j, h1, h2, h3, h4, h5⟩ := atI_get he
  obtain ⟨w, ew, rw'⟩ := r.get h2
  have hl := r.length
  have hn := ziA
  have fin : EP X pins σ Q w s := ⟨z, H, I, rw', q⟩
  by_cases h0 : 0 ≤ i
  · have hj : i.toNat = j := by
      rw [seqIndex_of h0 h5] at h1
      exact Option.some.inj h1
    exact item_listR pl.isList h0 (by omega) (by rw [hj]; simpa using ew) fin hs
  · have hj : (i + (its.toArray.size : Int)).toNat = j := by
      rw [seqIndex_neg (by omega) h4] at h1
      rw [List.size_toArray, ← hl]
      exact Option.some.inj h1
    exact subscriptTail_builtinR (x := w) pl.isList.typeIs slot_list_getitem.lookup
      (wpAny_getItem_list_neg (Q := fun r s' => r = w ∧ EP X pins σ Q r s') pl.isList (by omega) (by rw [List.size_toArray] <;> omega) (by omega) (by rw [hj]; simpa using ew) ⟨rfl, fin⟩) hs
theorem zbm : IxR X (rIxT X.K) := by
  intro value slice pins s σ H x y v u Q I rx ry h hs
  obtain ⟨p, xs, i, z, rfl, rfl, hq, he, q⟩ := h
  cases rx
  obtain ⟨t, rfl⟩ := ry
  obtain ⟨its, r, pl, hz⟩ := I.tuple hq
  obtain ⟨j, h1, h2, h3, h4, h5⟩ := atI_get he
  obtain ⟨w, ew, rw'⟩ := r.get h2
  have hl := r.length
  have hn := ziA
  have fin : EP X pins σ Q w s := ⟨z, H, I, rw', q⟩
  exact subscriptTail_builtinR (x := w) pl.typeIs slot_tuple_getitem.lookup
    (getItem_tuple (j := j) (Q := fun r s' => r = w ∧ EP X pins σ Q r s') pl (by omega) (by omega) (by rw [List.size_toArray, ← hl]; exact h1) (by simpa using ew) ⟨rfl, fin⟩) hs
def rIx (K : PySem.W.Frag) : R2 := fun x y H Q => rIxL K x y H Q ∨ rIxT K x y H Q ∨ rIxS x y H Q
theorem zjg (its : List Value) (n j : Nat) (u : Value) : Obj.mapSeq (·.setIfInBounds j u) { cls := .type "list", data := .seq its.toArray n } = { cls := .type "list", data := .seq (its.set j u).toArray n } := by
  simp [Obj.mapSeq]
theorem Inv.lst {pins : List (Addr × Obj)} {σ : St} {H : Hp} {s : Shared} {p : Addr} {xs : List V} (I : Inv X pins σ H s) (h : H p = some (.lst xs)) :
    ∃ (its : List Value) (n : Nat), Vals xs its ∧ s.heap.get? p = some { cls := .type "list", data := .seq its.toArray n } ∧ xs.length ≤ sizeLine := by
  obtain ⟨z, its, n, r, e⟩ := I.hok p _ h
  exact ⟨its, n, r, e, z⟩
theorem Inv.lstUpd {pins : List (Addr × Obj)} {σ : St} {H : Hp} {s : Shared} {p : Addr} {xs ys : List V} {its its' : List Value} {n n' : Nat} {f : Obj → Obj} (I : Inv X pins σ H s) (h : H p = some (.lst xs))
    (ho : s.heap.get? p = some { cls := .type "list", data := .seq its.toArray n }) (hf : f { cls := .type "list", data := .seq its.toArray n } = { cls := .type "list", data := .seq its'.toArray n' }) (r : Vals ys its') (hz : ys.length ≤ sizeLine) (t : Nat) :
    Inv X pins σ (upd H p (.lst ys)) { s with heap := s.heap.update p f, toks := t } := by
  have e : (s.heap.update p f).get? p = some { cls := .type "list", data := .seq its'.toArray n' } := by
    rw [Heap.get?_update_self f ho (by rw [hf] <;> rfl), hf]
  refine I.write (x := p) (e := p) (by rw [h]; trivial) (.inl rfl) (fun b u hb q => (Heap.get?_update_other _ _ (Ne.symm hb)).trans q) ⟨_, e⟩ ?_
  exact ⟨hz, its', n', r, e⟩
def rSetL : V → V → V → Hp → (Hp → Prop) → Prop := fun o i v H Q => ∃ p xs k j, o = .ref p ∧ i = .int k ∧ H p = some (.lst xs) ∧ ixN xs.length k = some j ∧ Q (upd H p (.lst (xs.set j v)))
theorem zdJ : PSet X rSetL := by
  intro pins s σ H o i v ov iv u Q I ro ri rv h
  obtain ⟨p, xs, k, j, rfl, rfl, hp, hj, q⟩ := h
  cases ro
  obtain ⟨t, rfl⟩ := ri
  obtain ⟨its, n, r, ho, hz⟩ := I.lst hp
  obtain ⟨h1, h2, h3, h4⟩ := ixN_seq hj
  have hl := r.length
  have hn := ziA
  have I' : Inv X pins σ (upd H p (.lst (xs.set j v))) { s with heap := s.heap.update p (Obj.mapSeq (·.setIfInBounds j u)) } :=
    I.lstUpd hp ho (zjg its n j u) (r.set rv j) (by rw [List.length_set]; exact hz) s.toks
  by_cases h0 : 0 ≤ k
  · have hk : k.toNat = j := by
      rw [seqIndex_of h0 h4] at h1
      exact Option.some.inj h1
    exact PySem.W.ki_setAt ho h0 (by omega) (by rw [List.size_toArray, ← hl]; exact h4) (by rw [hk]; exact ⟨_, I', q⟩)
  · have hk : (k + (its.toArray.size : Int)).toNat = j := by
      rw [seqIndex_neg (by omega) h3] at h1
      rw [List.size_toArray, ← hl]
      exact Option.some.inj h1
    exact PySem.W.ki_setBack ho (by omega) (by rw [List.size_toArray, ← hl]; exact h3) (by omega) (by rw [hk]; exact ⟨_, I', q⟩)
theorem zgL (lo hi : Option Int) (n : Nat) : (sliceBounds lo hi none n).1 = ((HT.sIx n 0 lo : Nat) : Int) ∧ (sliceBounds lo hi none n).2.1 = ((HT.sIx n n hi : Nat) : Int) ∧ (sliceBounds lo hi none n).2.2 = 1 := by
  refine ⟨?_, ?_, rfl⟩
  · cases lo with
    | none => simp [sliceBounds, HT.sIx]
    | some i =>
      simp only [sliceBounds, HT.sIx, Option.getD_none, show (1 : Int) > 0 by decide, if_true]
      by_cases h : i < 0
      · simp only [h, if_true] <;> omega
      · simp only [h, if_false] <;> omega
  · cases hi with
    | none => simp [sliceBounds, HT.sIx]
    | some i =>
      simp only [sliceBounds, HT.sIx, Option.getD_none, show (1 : Int) > 0 by decide, if_true]
      by_cases h : i < 0
      · simp only [h, if_true] <;> omega
      · simp only [h, if_false] <;> omega
theorem zf9 (its : List Value) (lo hi : Option Int) : slicePick its.toArray lo hi none = ((its.drop (HT.sIx its.length 0 lo)).take (HT.sIx its.length its.length hi - HT.sIx its.length 0 lo)).toArray := by
  obtain ⟨h1, h2, h3⟩ := zgL lo hi its.toArray.size
  unfold slicePick
  rw [h1, h2, h3]
  simp only [sliceRange_one, pick_run, List.size_toArray] <;> rfl
def rSlL (K : PySem.W.Frag) : V → Option Int → Option Int → Hp → VK → Prop := fun x lo hi H Q => ∃ a xs, x = .ref a ∧ SqL K H a xs ∧ ∀ p, H p = none → Q (.ref p) (upd H p (.lst (cutV xs lo hi)))
theorem zfb : SlR X (rSlL X.K) := by
  intro pins s σ H x v vl vu lo hi sl Q I rx hs pl pu h
  obtain ⟨a, xs, rfl, hx, q⟩ := h
  cases rx
  obtain ⟨its, r, ht, hz⟩ := I.list hx
  have hlen := r.length
  refine ⟨"list", _, slot_list_getitem.lookup, ht.isList.typeIs, ?_⟩
  refine wpAny_getItem_list_slice ht.isList hs pl pu .none (by simp) ?_ (by rw [List.size_toArray] <;> omega)
  rw [zf9, ← hlen]
  refine ⟨.ref s.heap.objs.size, _, I.laid (t' := s.toks) (o := .lst (cutV xs lo hi)) (fun b ob q => Heap.get?_push_of_some _ q) (Nat.le_refl _) ?_, rfl, q _ (I.hok.fresh (Nat.le_refl _))⟩
  exact ⟨Nat.le_trans (zhU xs lo hi) hz, _, 0, (r.drop (HT.sIx xs.length 0 lo)).take (HT.sIx xs.length xs.length hi - HT.sIx xs.length 0 lo), Heap.get?_push_size _ rfl⟩
def zfB : V → Bool
  | .non => true
  | .bl _ => true
  | .int _ => true
  | .str _ => true
  | _ => false
def eqV : V → V → Bool
  | .non, .non => true
  | .bl a, .bl b => a == b
  | .bl a, .int b => (if a then 1 else 0) == b
  | .int a, .bl b => a == (if b then 1 else 0)
  | .int a, .int b => a == b
  | .str a, .str b => a == b
  | _, _ => false
theorem eqAt_V {A : Around} {s : Shared} {y x : V} {u v : Value} (ry : RelV y u) (rx : RelV x v) (fy : zfB y = true) (fx : zfB x = true) : SeqAt.EqAt A s u v (eqV y x) := by
  cases y with
  | non =>
    cases ry
    cases x with
    | non => cases rx; exact SeqAt.EqAt.same _
    | bl b => cases rx; exact SeqAt.EqAt.none_bool b
    | int b => obtain ⟨t, rfl⟩ := rx; exact SeqAt.EqAt.none_int b t
    | str b => obtain ⟨t, rfl⟩ := rx; exact SeqAt.EqAt.none_str b t
    | _ => exact absurd (show false = true from fx) Bool.false_ne_true
  | bl a =>
    cases ry
    cases x with
    | non => cases rx; exact SeqAt.EqAt.bool_none a
    | bl b => cases rx; exact SeqAt.EqAt.bool_bool a b
    | int b => obtain ⟨t, rfl⟩ := rx; exact SeqAt.EqAt.bool_int a b t
    | str b => obtain ⟨t, rfl⟩ := rx; exact SeqAt.EqAt.bool_str a b t
    | _ => exact absurd (show false = true from fx) Bool.false_ne_true
  | int a =>
    obtain ⟨t', rfl⟩ := ry
    cases x with
    | non => cases rx; exact SeqAt.EqAt.int_none a t'
    | bl b => cases rx; exact SeqAt.EqAt.int_bool a t' b
    | int b => obtain ⟨t, rfl⟩ := rx; exact SeqAt.EqAt.int_int a t' b t
    | str b => obtain ⟨t, rfl⟩ := rx; exact SeqAt.EqAt.int_str a t' b t
    | _ => exact absurd (show false = true from fx) Bool.false_ne_true
  | str a =>
    obtain ⟨t', rfl⟩ := ry
    cases x with
    | non => cases rx; exact SeqAt.EqAt.str_none a t'
    | bl b => cases rx; exact SeqAt.EqAt.str_bool a t' b
    | int b => obtain ⟨t, rfl⟩ := rx; exact SeqAt.EqAt.str_int a t' b t
    | str b => obtain ⟨t, rfl⟩ := rx; exact SeqAt.EqAt.str_str a t' b t
    | _ => exact absurd (show false = true from fx) Bool.false_ne_true
  | _ => exact absurd (show false = true from fy) Bool.false_ne_true
def eqU (x : V) (u : Value) : Bool := match u with
  | .none => eqV .non x
  | .bool b => eqV (.bl b) x
  | .int i _ => eqV (.int i) x
  | .str z _ => eqV (.str z) x
  | _ => false
theorem eqU_of {x y : V} {u : Value} (r : RelV y u) (f : zfB y = true) : eqU x u = eqV y x := by
  cases y with
  | non => cases r; rfl
  | bl b => cases r; rfl
  | int i => obtain ⟨t, rfl⟩ := r; rfl
  | str z => obtain ⟨t, rfl⟩ := r; rfl
  | _ => exact absurd (show false = true from f) Bool.false_ne_true
theorem zfw {x : V} : ∀ {xs : List V} {us : List Value}, Vals xs us → xs.all zfB = true → us.any (eqU x) = xs.any fun y => eqV y x
  | _, _, .nil, _ => rfl
  | y :: xs, u :: us, .cons r t, f => by
    rw [List.all_cons, Bool.and_eq_true] at f
    rw [List.any_cons, List.any_cons, eqU_of r f.1, zfw t f.2]
theorem zeo {A : Around} {s : Shared} {x : V} {v : Value} (rx : RelV x v) (fx : zfB x = true) : ∀ {xs : List V} {us : List Value}, Vals xs us → xs.all zfB = true → ∀ u ∈ us, SeqAt.EqAt A s u v (eqU x u)
  | _, _, .nil, _ => fun u hu => by cases hu
  | y :: xs, u :: us, .cons r t, f => fun u' hu => by
    rw [List.all_cons, Bool.and_eq_true] at f
    rcases List.mem_cons.mp hu with rfl | hu
    · rw [eqU_of r f.1]; exact eqAt_V r rx f.1 fx
    · exact zeo rx fx t f.2 u' hu
def inV (x : V) (xs : List V) : Bool := xs.any fun y => eqV y x
def rIn (K : PySem.W.Frag) (neg : Bool) : R2 := fun x y H Q => ∃ p xs, y = .ref p ∧ (SqL K H p xs ∨ SqT K H p xs) ∧ zfB x = true ∧ xs.all zfB = true ∧ Q (.bl (if neg then !inV x xs else inV x xs)) H
theorem op_in_seq : OpR X (compareOp .In) (rIn X.K false) := by
  intro pins s σ H x y v u Q I rx ry h
  obtain ⟨p, xs, rfl, hq, fx, fs, q⟩ := h
  cases ry
  rcases hq with hq | hq
  · obtain ⟨its, r, pl, hz⟩ := I.list hq
    refine SeqAt.in_listAt (eqU x) pl.isList (fun w hw => zeo rx fx r fs w (by simpa using hw)) ⟨.bl _, H, I, rfl, ?_⟩
    rw [show its.toArray.any (eqU x) = its.any (eqU x) by simp, zfw r fs]
    exact q
  · obtain ⟨its, r, pl, hz⟩ := I.tuple hq
    refine SeqAt.in_tupleAt (eqU x) pl (fun w hw => zeo rx fx r fs w (by simpa using hw)) ⟨.bl _, H, I, rfl, ?_⟩
    rw [show its.toArray.any (eqU x) = its.any (eqU x) by simp, zfw r fs]
    exact q
theorem zdA : OpR X (compareOp .NotIn) (rIn X.K true) := by
  intro pins s σ H x y v u Q I rx ry h
  obtain ⟨p, xs, rfl, hq, fx, fs, q⟩ := h
  cases ry
  rcases hq with hq | hq
  · obtain ⟨its, r, pl, hz⟩ := I.list hq
    refine SeqAt.notIn_listAt (eqU x) pl.isList (fun w hw => zeo rx fx r fs w (by simpa using hw)) ⟨.bl _, H, I, rfl, ?_⟩
    rw [show its.toArray.any (eqU x) = its.any (eqU x) by simp, zfw r fs]
    exact q
  · obtain ⟨its, r, pl, hz⟩ := I.tuple hq
    refine SeqAt.notIn_tupleAt (eqU x) pl (fun w hw => zeo rx fx r fs w (by simpa using hw)) ⟨.bl _, H, I, rfl, ?_⟩
    rw [show its.toArray.any (eqU x) = its.any (eqU x) by simp, zfw r fs]
    exact q
theorem zaq : zey X (.builtin "len") (fun xs H Q => ∃ p ys, xs = [.ref p] ∧ (SqL X.K H p ys ∨ SqT X.K H p ys) ∧ Q (.int ys.length) H) := by
  intro pins s σ H xs us Q I r h
  obtain ⟨p, ys, rfl, hq, q⟩ := h
  obtain ⟨u, rfl, rx⟩ := zfz r
  cases rx
  have hn := ziA
  rcases hq with hq | hq
  · obtain ⟨its, r', pl, hz⟩ := I.list hq
    have hlen := r'.length
    exact Calls.call_len_list pl.isList (by simp only [List.size_toArray] <;> omega) ⟨.int ys.length, H, I.tok _, ⟨s.toks + 1, by rw [List.size_toArray, hlen]⟩, q⟩
  · obtain ⟨its, r', pl, hz⟩ := I.tuple hq
    have hlen := r'.length
    exact len_tuple pl (by simp only [List.size_toArray] <;> omega) ⟨.int ys.length, H, I.tok _, ⟨s.toks + 1, by rw [List.size_toArray, hlen]⟩, q⟩
theorem ze1 : zey X (.type "list") (fun xs H Q => ∃ p ys, xs = [.ref p] ∧ (SqL X.K H p ys ∨ SqT X.K H p ys) ∧ ∀ l, H l = none → Q (.ref l) (upd H l (.lst ys))) := by
  intro pins s σ H xs us Q I r h
  obtain ⟨p, ys, rfl, hq, q⟩ := h
  obtain ⟨u, rfl, rx⟩ := zfz r
  cases rx
  have fin : ∀ (its : List Value), Vals ys its → ys.length ≤ sizeLine → ∀ (h' : Heap) (c' : Nat), (∀ b o', s.heap.get? b = some o' → h'.get? b = some o') →
      h'.get? s.heap.objs.size = some { cls := .type "list", dict := none, data := .seq its.toArray c', slots := #[] } → EP X pins σ Q (.ref s.heap.objs.size) { s with heap := h' } := fun its r' hz h' c' kp e =>
    ⟨.ref s.heap.objs.size, _, I.laid (t' := s.toks) kp (Nat.le_refl _) (show zbA X.prog X.w _ h' _ (.lst ys) from ⟨hz, its, c', r', e⟩), rfl, q _ (I.hok.fresh (Nat.le_refl _))⟩
  rcases hq with hq | hq
  · obtain ⟨its, r', pl, hz⟩ := I.list hq
    have hlen := r'.length
    obtain ⟨o, ho, hc, n, hd⟩ := pl.isList
    exact call_list_seq p (.inl rfl) ho hc hd (fun h' c' kp e => fin its r' hz h' c' kp e) (by simp only [List.size_toArray] <;> omega)
  · obtain ⟨its, r', pl, hz⟩ := I.tuple hq
    have hlen := r'.length
    obtain ⟨o, ho, hc, n, hd⟩ := pl
    exact call_list_seq p (.inr rfl) ho hc hd (fun h' c' kp e => fin its r' hz h' c' kp e) (by simp only [List.size_toArray] <;> omega)
theorem zdr : zey X (.type "tuple") (fun xs H Q => ∃ p ys, xs = [.ref p] ∧ ((SqL X.K H p ys ∧ ∀ l, H l = none → Q (.ref l) (upd H l (.tup ys))) ∨ (SqT X.K H p ys ∧ Q (.ref p) H))) := by
  intro pins s σ H xs us Q I r h
  obtain ⟨p, ys, rfl, h⟩ := h
  obtain ⟨u, rfl, rx⟩ := zfz r
  cases rx
  rcases h with ⟨hq, q⟩ | ⟨hq, q⟩
  · obtain ⟨its, r', pl, hz⟩ := I.list hq
    have hlen := r'.length
    refine call_tuple_list pl.isList (fun h' kp => ?_) (by simp only [List.size_toArray] <;> omega)
    have I1 : Inv X pins σ H { s with heap := h' } := I.kept (t' := s.toks) kp
    have I2 : Inv X pins σ (upd H h'.objs.size (.tup ys)) { s with heap := h'.push { cls := .type "tuple", data := .seq its.toArray } } :=
      I1.laid (t' := s.toks) (fun b o e => Heap.get?_push_of_some _ e) (Nat.le_refl _) (show zbA X.prog X.w _ _ _ (.tup ys) from ⟨hz, its, r', IsTup.new _ _⟩)
    exact ⟨.ref h'.objs.size, _, I2, rfl, q _ (I1.hok.fresh (Nat.le_refl _))⟩
  · obtain ⟨its, r', pl, hz⟩ := I.tuple hq
    exact call_tuple_same pl ⟨.ref p, H, I, rfl, q⟩
def tyV (K : PySem.W.Frag) (T : String) (x : V) (H : Hp) : Prop := match x with
  | .str _ => T = "str"
  | .int _ => T = "int"
  | .ref p => (T = "list" ∧ ∃ xs, SqL K H p xs) ∨ (T = "tuple" ∧ ∃ o, K.lookup p = some o ∧ o.cls = .type "tuple" ∧ o.dict = none) ∨
      (T = "dict" ∧ ((∃ kvs, H p = some (.dK kvs)) ∨ ∃ kvs, H p = some (.dT kvs))) ∨ (T = "set" ∧ ∃ S n, H p = some (.set S n))
  | _ => False
theorem tyV_is {pins : List (Addr × Obj)} {σ : St} {H : Hp} {s : Shared} {T : String} {x : V} {v : Value} (I : Inv X pins σ H s) (r : RelV x v) (ty : tyV X.K T x H) :
    s.TypeIs v T ∧ ∀ a, v = .ref a → ∃ ob, s.heap.get? a = some ob ∧ ob.dict = none := by
  cases x with
  | str z =>
    obtain ⟨t, rfl⟩ := r
    cases (show T = "str" from ty)
    exact ⟨typeIs_str s z t, fun _ e => nomatch e⟩
  | int i =>
    obtain ⟨t, rfl⟩ := r
    cases (show T = "int" from ty)
    exact ⟨typeIs_int s i t, fun _ e => nomatch e⟩
  | ref p =>
    cases r
    rcases ty with ⟨rfl, xs, hq⟩ | ⟨rfl, o, hk, hc, hd⟩ | ⟨rfl, hk⟩ | ⟨rfl, S, n, hk⟩
    · obtain ⟨its, _, pl, _⟩ := I.list hq
      refine ⟨pl.isList.typeIs, fun a e => ?_⟩
      cases e
      obtain ⟨o, n, e, c, hd, _⟩ := pl
      exact ⟨o, e, hd⟩
    · refine ⟨⟨o, I.kIn p o hk, hc⟩, fun a e => ?_⟩
      cases e
      exact ⟨o, I.kIn _ o hk, hd⟩
    · have z : ∃ o, s.heap.get? p = some o ∧ o.ExactDict := by
        rcases hk with ⟨kvs, hk⟩ | ⟨kvs, hk⟩
        · obtain ⟨_, _, _, _, o, _, _, e, ex, _⟩ := I.hok p _ hk
          exact ⟨o, e, ex⟩
        · obtain ⟨_, _, _, _, o, _, _, e, ex, _⟩ := I.hok p _ hk
          exact ⟨o, e, ex⟩
      obtain ⟨o, e, ex⟩ := z
      refine ⟨⟨o, e, ex.1⟩, fun a e2 => ?_⟩
      cases e2
      exact ⟨o, e, ex.2.1⟩
    · obtain ⟨o, _, _, _, e, ex, _⟩ := I.hok p _ hk
      refine ⟨⟨o, e, ex.1⟩, fun a e2 => ?_⟩
      cases e2
      exact ⟨o, e, ex.2.1⟩
  | _ => exact False.elim ty
def tBM0 (K : PySem.W.Frag) (T : String) (r : V → List V → Hp → VK → Prop) (to : TE) : TE := fun σ H Q => to σ H fun x H1 => tyV K T x H1 ∧ r x [] H1 Q
def tBM (K : PySem.W.Frag) (T : String) (r : V → List V → Hp → VK → Prop) (to : TE) (t : TA) : TE := fun σ H Q => to σ H fun x H1 => tyV K T x H1 ∧ t σ H1 fun xs H2 => r x xs H2 Q
variable {o e : Expr} {es : List Expr} {to : TE} {t : TA} {name : Str} {apos cpos : Pos} {T id : String} {r : V → List V → Hp → VK → Prop}
theorem pe_bm0 (pa : PlainAttrs T) (slot : Slot T name id) (hty : typeOf (.builtin id) = pure (.type "method_descriptor")) (hm : MtR X id r) (ho : PE X o to)
    (hbase : attributeBase o name X.env (eval o X.env) = eval o X.env := by rfl) (hline : (apos.endLine == cpos.line) = true := by rfl) : PE X (.Call (.Attribute o name apos) [] [] cpos) (tBM0 X.K T r to) := by
  intro pins s σ H Q I h
  refine wpAny_Call_method0_late hbase hline (thn (ho pins s σ H _ I h) fun v s1 ⟨x, H1, I1, r1, ty, q1⟩ => ?_)
  obtain ⟨h1, h2⟩ := tyV_is I1 r1 ty
  exact ⟨T, id, pa, slot, hty, h1, h2, Calls.callWith_builtin rfl (PySem.evalArgs_none (hm pins s1 σ H1 x [] v [] Q I1 r1 .nil q1))⟩
theorem zc7 (pa : PlainAttrs T) (slot : Slot T name id) (hty : typeOf (.builtin id) = pure (.type "method_descriptor")) (hm : MtR X id r) (ho : PE X o to) (ha : PA X (e :: es) t)
    (hbase : attributeBase o name X.env (eval o X.env) = eval o X.env := by rfl)
    (hfew : ((backTo cpos (starEach (e :: es) X.env)).all (fun x => !x.1) && (backToKw cpos (keywordEach [] X.env)).all (fun x => x.1.isSome)
      && decide ((e :: es).length + ([] : List Keyword).length + (if ([] : List Keyword).isEmpty then 0 else 1) < 30)) = true := by rfl)
    (hline : (apos.endLine == cpos.line) = true := by rfl) (hs : starEach (e :: es) X.env = (false, eval e X.env) :: starEach es X.env := by rfl) (hplain : (backTo cpos (starEach es X.env)).any (·.1) = false := by rfl) :
    PE X (.Call (.Attribute o name apos) (e :: es) [] cpos) (tBM X.K T r to t) := by
  intro pins s σ H Q I h
  refine wpAny_Call_method_late hbase hfew hline rfl (thn (ho pins s σ H _ I h) fun v s1 ⟨x, H1, I1, r1, ty, q1⟩ => ?_)
  obtain ⟨h1, h2⟩ := tyV_is I1 r1 ty
  refine ⟨T, id, pa, slot, hty, h1, h2, ?_⟩
  have hA := ha cpos pins s1 σ H1 _ I1 q1
  rw [hs] at hA ⊢
  refine Calls.callWith_builtin (by show (false || (backTo cpos (starEach es X.env)).any (·.1)) = false; rw [hplain] <;> rfl) (Calls.evalArgs_plain ?_)
  exact thn hA fun us s2 ⟨vs, H2, I2, r2, q2⟩ => hm pins s2 σ H2 x vs v us Q I2 r1 r2 q2
end
end L2
namespace L2
open PySem PySem.Spec PyProof.Rows
def MtM (X : Cx) (id : String) (r : V → List V → Hp → VK → Prop) : Prop :=
  ∀ (pins : List (Addr × Obj)) (s : Shared) (σ : St) (H : Hp) (x : V) (xs : List V) (v : Value) (us : List Value) (Q : VK), Inv X pins σ H s → RelV x v → Vals xs us → r x xs H Q →
    wpAny (model X.prog X.w) X.A (call (.builtin id) (v :: us)) (EP X pins σ Q) X.xe s
theorem Vals.one : ∀ {x : V} {us : List Value}, Vals [x] us → ∃ u, us = [u] ∧ RelV x u
  | _, _, .cons r .nil => ⟨_, rfl, r⟩
theorem Vals.zero : ∀ {us : List Value}, Vals [] us → us = []
  | _, .nil => rfl
theorem Vals.dropLast {xs : List V} {us : List Value} (h : Vals xs us) : Vals xs.dropLast us.dropLast := by
  induction h with
  | nil => exact .nil
  | cons r t ih =>
    cases t with
    | nil => exact .nil
    | cons q t' => exact .cons r ih
theorem Vals.eraseIdx : ∀ {xs : List V} {us : List Value} (i : Nat), Vals xs us → Vals (xs.eraseIdx i) (us.eraseIdx i)
  | _, _, _, .nil => .nil
  | _, _, 0, .cons _ t => t
  | _, _, i + 1, .cons r t => .cons r (Vals.eraseIdx i t)
theorem Vals.reverse {xs : List V} {us : List Value} (h : Vals xs us) : Vals xs.reverse us.reverse := by
  induction h with
  | nil => exact .nil
  | cons r t ih => rw [List.reverse_cons, List.reverse_cons]; exact Vals.append ih (.cons r .nil)
section
variable {X : Cx} {pins : List (Addr × Obj)} {σ : St} {H : Hp} {s : Shared} {l b : Addr} {xs ys zs : List V}
theorem Inv.lset {its its' : List Value} {n : Nat} {f : Array Value → Array Value} {t' : Nat} (I : Inv X pins σ H s) (hH : H l = some (.lst xs))
    (e : s.heap.get? l = some { cls := .type "list", data := .seq its.toArray n }) (hf : f its.toArray = its'.toArray) (hv : Vals ys its') (hz : ys.length ≤ sizeLine) :
    Inv X pins σ (upd H l (.lst ys)) { s with heap := s.heap.update l (Obj.mapSeq f), toks := t' } := by
  have q := PySem.IsL.update e f
  rw [hf] at q
  refine I.write (x := l) (e := l) (by rw [hH]; exact trivial) (.inl rfl) (fun b' u hb hu => (Heap.get?_update_other s.heap (Obj.mapSeq f) (Ne.symm hb)).trans hu) ⟨_, q⟩ ?_
  exact ⟨hz, its', _, hv, q⟩
theorem Inv.lnew {its : List Value} {t' : Nat} (I : Inv X pins σ H s) (hv : Vals ys its) (hz : ys.length ≤ sizeLine) :
    Inv X pins σ (upd H s.heap.objs.size (.lst ys)) { s with heap := s.heap.push { cls := .type "list", data := .seq its.toArray }, toks := t' } :=
  I.laid (fun _ _ q => Heap.get?_push_of_some _ q) (Nat.le_refl _) ⟨hz, its, 0, hv, Heap.get?_push_size _ rfl⟩
theorem Inv.fresh (I : Inv X pins σ H s) : H s.heap.objs.size = none := I.hok.fresh (Nat.le_refl _)
theorem Inv.lstM (I : Inv X pins σ H s) (hH : H l = some (.lst xs)) : xs.length ≤ sizeLine ∧ ∃ (its : List Value) (n : Nat), Vals xs its ∧ xs.length = its.length ∧ s.heap.get? l = some { cls := .type "list", data := .seq its.toArray n } := by
  obtain ⟨z, its, n, r, e⟩ := I.hok l _ hH
  exact ⟨z, its, n, r, r.length, e⟩
theorem notLongL {n : Nat} (h : n ≤ sizeLine) : Builtin.List.listTooLong n = false := by
  unfold Builtin.List.listTooLong
  exact decide_eq_false (by omega)
end
section
variable {X : Cx}
def rAppend : V → List V → Hp → VK → Prop := fun x vs H Q => ∃ l xs y, x = .ref l ∧ vs = [y] ∧ H l = some (.lst xs) ∧ xs.length < sizeLine ∧ Q .non (upd H l (.lst (xs ++ [y])))
theorem zaD : MtM X "list.append" rAppend := by
  intro pins s σ H x vs v us Q I rx rv h
  obtain ⟨l, xs, y, rfl, rfl, hH, hz, q⟩ := h
  cases rx
  obtain ⟨u, rfl, ru⟩ := rv.one
  obtain ⟨z, its, n, r, hl, e⟩ := I.lstM hH
  refine call_meets F.slot_list_append ⟨_, e, rfl⟩ F.entry_list_append (F.args_list_append_2 _ _) (PySem.list_append l its.toArray n u (by rw [List.size_toArray]; omega)) ⟨e, ?_⟩
  refine ⟨.non, _, I.lset (its' := its ++ [u]) hH e (by simp) (r.append (.cons ru .nil)) ?_, rfl, q⟩
  rw [List.length_append, List.length_singleton]
  omega
def rExtend : V → List V → Hp → VK → Prop := fun x vs H Q => ∃ l b xs zs, x = .ref l ∧ vs = [.ref b] ∧ H l = some (.lst xs) ∧ H b = some (.lst zs) ∧ xs.length + zs.length ≤ sizeLine ∧ Q .non (upd H l (.lst (xs ++ zs)))
theorem mt_extend : MtM X "list.extend" rExtend := by
  intro pins s σ H x vs v us Q I rx rv h
  obtain ⟨l, b, xs, zs, rfl, rfl, hH, hB, hz, q⟩ := h
  cases rx
  obtain ⟨u, rfl, ru⟩ := rv.one
  cases ru
  obtain ⟨z, its, n, r, hl, e⟩ := I.lstM hH
  obtain ⟨z2, its2, n2, r2, hl2, e2⟩ := I.lstM hB
  have hsz : its.toArray.size + its2.toArray.size ≤ sizeLine := by rw [List.size_toArray, List.size_toArray]; omega
  have hlong : ¬ (!its.toArray.isEmpty && Builtin.List.listTooLong (its.toArray.size + its2.toArray.size)) = true := by
    rw [notLongL hsz, Bool.and_false]
    exact Bool.false_ne_true
  refine call_meets F.slot_list_extend ⟨_, e, rfl⟩ F.entry_list_extend (F.args_list_extend_2 _ _)
    (AutoSeq1.list_extend_list_list_0 l its.toArray n b its2.toArray n2 hlong (by rw [List.size_toArray]; omega) (by omega)) ⟨e, e2, ?_⟩
  refine ⟨.non, _, I.lset (its' := its ++ its2) hH e (by simp) (r.append r2) ?_, rfl, q⟩
  rw [List.length_append]
  omega
def rPop : V → List V → Hp → VK → Prop := fun x vs H Q => ∃ l xs y, x = .ref l ∧ vs = [] ∧ H l = some (.lst xs) ∧ xs[xs.length - 1]? = some y ∧ Q y (upd H l (.lst xs.dropLast))
def rPopAt : V → List V → Hp → VK → Prop := fun x vs H Q => ∃ l xs i k y, x = .ref l ∧ vs = [.int i] ∧ H l = some (.lst xs) ∧ -(2 ^ 63) ≤ i ∧ i < 2 ^ 63 ∧ seqIndex? i xs.length = some k ∧ xs[k]? = some y ∧ Q y (upd H l (.lst (xs.eraseIdx k)))
def rReverse : V → List V → Hp → VK → Prop := fun x vs H Q => ∃ l xs, x = .ref l ∧ vs = [] ∧ H l = some (.lst xs) ∧ Q .non (upd H l (.lst xs.reverse))
def rClear : V → List V → Hp → VK → Prop := fun x vs H Q => ∃ l xs, x = .ref l ∧ vs = [] ∧ H l = some (.lst xs) ∧ Q .non (upd H l (.lst []))
theorem mt_clear : MtM X "list.clear" rClear := by
  intro pins s σ H x vs v us Q I rx rv h
  obtain ⟨l, xs, rfl, rfl, hH, q⟩ := h
  cases rx
  have hus := rv.zero
  subst hus
  obtain ⟨z, its, n, r, hl, e⟩ := I.lstM hH
  refine call_meets F.slot_list_clear ⟨_, e, rfl⟩ F.entry_list_clear (F.args_list_clear_1 _) (AutoSeq1.list_clear_list_0 l its.toArray n (by rw [List.size_toArray]; omega)) ⟨e, ?_⟩
  exact ⟨.non, _, I.lset (its' := []) (ys := []) hH e rfl .nil (Nat.zero_le _), rfl, q⟩
def rCat : R2 := fun x y H Q => ∃ l b xs zs, x = .ref l ∧ y = .ref b ∧ H l = some (.lst xs) ∧ H b = some (.lst zs) ∧ xs.length + zs.length ≤ sizeLine ∧ ∀ p, H p = none → Q (.ref p) (upd H p (.lst (xs ++ zs)))
theorem op_cat : OpR X (binaryOp .Add) rCat := by
  intro pins s σ H x y v u Q I rx ry h
  obtain ⟨l, b, xs, zs, rfl, rfl, hH, hB, hz, q⟩ := h
  cases rx
  cases ry
  obtain ⟨z, its, n, r, hl, e⟩ := I.lstM hH
  obtain ⟨z2, its2, n2, r2, hl2, e2⟩ := I.lstM hB
  refine PySem.P.add_list e e2 ?_ (by rw [List.size_toArray, List.size_toArray]; omega)
  have ea : its.toArray ++ its2.toArray = (its ++ its2).toArray := by simp
  rw [ea]
  exact ⟨.ref _, _, I.lnew (t' := s.toks) (r.append r2) (by rw [List.length_append]; omega), rfl, q _ I.fresh⟩
def rRep : R2 := fun x y H Q => ∃ l k xs, x = .ref l ∧ y = .int k ∧ H l = some (.lst xs) ∧ -(2 ^ 63) ≤ k ∧ k < 2 ^ 63 ∧ xs.length * k.toNat ≤ sizeLine ∧
  ∀ p, H p = none → Q (.ref p) (upd H p (.lst (List.replicate k.toNat xs).flatten))
end
section
variable {prog : Program} {w : World} {A : Around} {E : Value → Shared → Prop} {s : Shared}
end
section
variable {X : Cx}
end
end L2
namespace L2
open PySem PySem.Spec PyProof.Rows
section
variable {κ : Type} [DecidableEq κ]
def valV (kvs : List (κ × V)) (k : κ) : Option V := (kvs.find? fun kv => decide (kv.1 = k)).map (·.2)
def putK (kvs : List (κ × V)) (k : κ) (v : V) : List (κ × V) :=
  if (kvs.any fun kv => decide (kv.1 = k)) = true then kvs.map (fun kv => if kv.1 = k then (kv.1, v) else kv) else kvs ++ [(k, v)]
def dropK (kvs : List (κ × V)) (k : κ) : List (κ × V) := kvs.filter fun kv => decide (kv.1 ≠ k)
theorem zcg {p : κ × V} {r : List (κ × V)} {k : κ} (e : p.1 = k) : valV (p :: r) k = some p.2 := by simp [valV, List.find?_cons, e]
theorem zbp {p : κ × V} {r : List (κ × V)} {k : κ} (e : ¬ p.1 = k) : valV (p :: r) k = valV r k := by simp [valV, List.find?_cons, e]
theorem zf7 (k : κ) : ∀ kvs : List (κ × V), (kvs.any fun kv => decide (kv.1 = k)) = (valV kvs k).isSome
  | [] => rfl
  | p :: r => by
    rw [List.any_cons]
    by_cases e : p.1 = k
    · simp only [zcg e, decide_eq_true e, Bool.true_or, Option.isSome_some]
    · rw [zbp e, decide_eq_false e, Bool.false_or]; exact zf7 k r
theorem zdm (kvs : List (κ × V)) (k : κ) (v : V) : (putK kvs k v).length ≤ kvs.length + 1 := by
  unfold putK
  split
  · rw [List.length_map]; omega
  · rw [List.length_append, List.length_cons, List.length_nil]; omega
theorem zdK {kvs : List (κ × V)} {k : κ} (v : V) (h : valV kvs k = none) : putK kvs k v = kvs ++ [(k, v)] := by
  unfold putK
  rw [zf7, h]
  exact if_neg (by decide)
theorem RelO.isSome_eq {o : Option V} {u : Option Value} (r : RelO o u) : o.isSome = u.isSome := by
  cases o with
  | none => cases u with
    | none => rfl
    | some _ => exact (show False from r).elim
  | some _ => cases u with
    | none => exact (show False from r).elim
    | some _ => rfl
theorem RelO.getD {o : Option V} {u : Option Value} {d : V} {d' : Value} (r : RelO o u) (rd : RelV d d') : RelV (o.getD d) (u.getD d') := by
  cases o with
  | none => cases u with
    | none => exact rd
    | some _ => exact (show False from r).elim
  | some _ => cases u with
    | none => exact (show False from r).elim
    | some _ => exact r
theorem KV.val {kvs : List (κ × V)} {vs : List (κ × Value)} (r : KV kvs vs) (k : κ) : RelO (valV kvs k) (valueAt vs k) := by
  unfold KV at r
  induction r with
  | nil => exact True.intro
  | @cons p q ps qs h t ih =>
    obtain ⟨h1, h2⟩ := h
    by_cases e : p.1 = k
    · have e' : q.1 = k := h1.symm.trans e
      have b : valueAt (q :: qs) k = some q.2 := by simp [valueAt, List.find?_cons, e']
      rw [zcg e, b]; exact h2
    · have e' : ¬ q.1 = k := fun z => e (h1.trans z)
      have b : valueAt (q :: qs) k = valueAt qs k := by simp [valueAt, List.find?_cons, e']
      rw [zbp e, b]; exact ih
theorem KV.any {kvs : List (κ × V)} {vs : List (κ × Value)} (r : KV kvs vs) (k : κ) : (kvs.any fun kv => decide (kv.1 = k)) = vs.any fun kv => decide (kv.1 = k) := by
  unfold KV at r
  induction r with
  | nil => rfl
  | cons h t ih => rw [List.any_cons, List.any_cons, ih, h.1]
theorem KV.repl {kvs : List (κ × V)} {vs : List (κ × Value)} (r : KV kvs vs) (k : κ) {y : V} {u : Value} (ry : RelV y u) :
    KV (kvs.map fun kv => if kv.1 = k then (kv.1, y) else kv) (vs.map fun kv => if kv.1 = k then (kv.1, u) else kv) := by
  unfold KV at r ⊢
  induction r with
  | nil => exact .nil
  | @cons p q ps qs h t ih =>
    rw [List.map_cons, List.map_cons]
    refine .cons ?_ ih
    obtain ⟨h1, h2⟩ := h
    by_cases e : p.1 = k
    · rw [if_pos e, if_pos (h1.symm.trans e)]; exact ⟨h1, ry⟩
    · rw [if_neg e, if_neg (fun z => e (h1.trans z))]; exact ⟨h1, h2⟩
theorem KV.put {kvs : List (κ × V)} {vs : List (κ × Value)} (r : KV kvs vs) (k : κ) {y : V} {u : Value} (ry : RelV y u) : KV (putK kvs k y) (stored vs k u) := by
  unfold putK stored
  rw [r.any k]
  by_cases e : (vs.any fun kv => decide (kv.1 = k)) = true
  · rw [if_pos e, if_pos e]; exact r.repl k ry
  · rw [if_neg e, if_neg e]; exact Paired.snoc r ⟨rfl, ry⟩
theorem KV.drop {kvs : List (κ × V)} {vs : List (κ × Value)} (r : KV kvs vs) (k : κ) : KV (dropK kvs k) (without vs k) := by
  unfold KV at r ⊢
  unfold dropK without
  induction r with
  | nil => exact .nil
  | @cons p q ps qs h t ih =>
    obtain ⟨h1, h2⟩ := h
    rw [List.filter_cons, List.filter_cons]
    by_cases e : p.1 = k
    · have a : ¬ decide (p.1 ≠ k) = true := by simp [e]
      have b : ¬ decide (q.1 ≠ k) = true := by simp [h1.symm.trans e]
      rw [if_neg a, if_neg b]; exact ih
    · have e' : ¬ q.1 = k := fun z => e (h1.trans z)
      have a : decide (p.1 ≠ k) = true := by simp [e]
      have b : decide (q.1 ≠ k) = true := by simp [e']
      rw [if_pos a, if_pos b]; exact .cons ⟨h1, h2⟩ ih
theorem KV.keys {kvs : List (κ × V)} {vs : List (κ × Value)} (r : KV kvs vs) : kvs.map (·.1) = vs.map (·.1) := by
  unfold KV at r
  induction r with
  | nil => rfl
  | cons h t ih => rw [List.map_cons, List.map_cons, ih, h.1]
theorem KV.length {kvs : List (κ × V)} {vs : List (κ × Value)} (r : KV kvs vs) : kvs.length = vs.length := Paired.length r
end
theorem kV_is {P : Program} {w : World} {k : Key} {u : Value} (r : RelV (kV k) u) : (za4 P w).is k u = true := by
  cases k with
  | inl i => obtain ⟨t, e⟩ := (show ∃ t, u = Value.int i t from r); subst e; exact zhB P w i t
  | inr x => obtain ⟨t, e⟩ := (show ∃ t, u = Value.str x t from r); subst e; exact zhA P w x t
theorem zg4 {P : Program} {w : World} : ∀ {ks : List Key} {us : List Value}, Vals (ks.map kV) us → ItemsAre (za4 P w) ks us
  | [], _, r => by rw [List.map_nil] at r; cases r; exact .nil
  | k :: ks, _, r => by
    rw [List.map_cons] at r
    cases r with
    | cons h t => exact .cons (kV_is h) (zg4 t)
abbrev KT (H : Hp) : List (List Key × V) → List (List Key × Addr × Value) → Prop := Paired fun p q => p.1 = q.1 ∧ H q.2.1 = some (.tup (p.1.map kV)) ∧ RelV p.2 q.2.2
theorem KT.val {H : Hp} {kvs : List (List Key × V)} {xs : List (List Key × Addr × Value)} (r : KT H kvs xs) (k : List Key) : RelO (valV kvs k) ((atKey xs k).map (·.2)) := by
  induction r with
  | nil => exact True.intro
  | @cons p q ps qs h t ih =>
    obtain ⟨h1, _, h2⟩ := h
    by_cases e : p.1 = k
    · have e' : q.1 = k := h1.symm.trans e
      have b : atKey (q :: qs) k = some q.2 := by simp [atKey, List.find?_cons, e']
      rw [zcg e, b]; exact h2
    · have e' : ¬ q.1 = k := fun z => e (h1.trans z)
      have b : atKey (q :: qs) k = atKey qs k := by simp [atKey, List.find?_cons, e']
      rw [zbp e, b]; exact ih
theorem KT.repl {H : Hp} {kvs : List (List Key × V)} {xs : List (List Key × Addr × Value)} (r : KT H kvs xs) (k : List Key) {y : V} {u : Value} (ry : RelV y u) :
    KT H (kvs.map fun kv => if kv.1 = k then (kv.1, y) else kv) (xs.map (putAt k u)) := by
  induction r with
  | nil => exact .nil
  | @cons p q ps qs h t ih =>
    rw [List.map_cons, List.map_cons]
    refine .cons ?_ ih
    obtain ⟨h1, h2, h3⟩ := h
    unfold putAt
    by_cases e : p.1 = k
    · rw [if_pos e, if_pos (h1.symm.trans e)]; exact ⟨h1, h2, ry⟩
    · rw [if_neg e, if_neg (fun z => e (h1.trans z))]; exact ⟨h1, h2, h3⟩
theorem KT.put {H : Hp} {kvs : List (List Key × V)} {xs : List (List Key × Addr × Value)} (r : KT H kvs xs) (k : List Key) {b : Addr} {y : V} {u : Value} (hb : H b = some (.tup (k.map kV))) (ry : RelV y u) :
    KT H (putK kvs k y) (storedH xs k b u) := by
  have e : (kvs.any fun kv => decide (kv.1 = k)) = (atKey xs k).isSome := by
    rw [zf7, (r.val k).isSome_eq, Option.isSome_map]
  unfold putK storedH
  rw [e]
  by_cases q : (atKey xs k).isSome = true
  · rw [if_pos q, if_pos q]; exact r.repl k ry
  · rw [if_neg q, if_neg q]; exact Paired.snoc r ⟨rfl, hb, ry⟩
theorem KT.keeps {H H' : Hp} {kvs : List (List Key × V)} {xs : List (List Key × Addr × Value)} (r : KT H kvs xs) (ht : ∀ b ys, H b = some (.tup ys) → H' b = some (.tup ys)) : KT H' kvs xs :=
  Paired.mapP r fun _ _ z => ⟨z.1, ht _ _ z.2.1, z.2.2⟩
section
variable {P : Program} {w : World} {H : Hp} {h : Heap} {a : Addr}
theorem rd_of {u : HO} (ok : HOk P w H h) (e : Rd H a u) : zbA P w H h a u := e.ok ok
theorem dk_rd {kvs : List (Key × V)} (ok : HOk P w H h) (e : Rd H a (.dK kvs)) : kvs.length ≤ sizeLine ∧ (a == sysModules) = false ∧ ∃ vs, KV kvs vs ∧ h.DictOf (za4 P w) a vs :=
  show zbA P w H h a (.dK kvs) from rd_of ok e
theorem dk_of {kvs : List (Key × V)} (ok : HOk P w H h) (e : H a = some (.dK kvs)) : kvs.length ≤ sizeLine ∧ (a == sysModules) = false ∧ ∃ vs, KV kvs vs ∧ h.DictOf (za4 P w) a vs := dk_rd ok (.inl e)
theorem ziG {ks : List Key} (ok : HOk P w H h) (e : H a = some (.tup (ks.map kV))) : (tupleKind (za4 P w)).is h ks a := by
  obtain ⟨_, its, r, o, h1, h2, n, h3⟩ := (show zbA P w H h a (.tup (ks.map kV)) from ok a _ e)
  exact ⟨o, its.toArray, n, h1, h2, h3, by simpa using zg4 r⟩
theorem dt_rd {kvs : List (List Key × V)} (ok : HOk P w H h) (e : Rd H a (.dT kvs)) : kvs.length ≤ sizeLine ∧ (a == sysModules) = false ∧
    ∃ xs, KT H kvs xs ∧ h.DictOfH (tupleKind (za4 P w)) a xs := by
  obtain ⟨z, y, xs, r, o, es, ep, h1, h2, h3, h4, h5⟩ := (show zbA P w H h a (.dT kvs) from rd_of ok e)
  refine ⟨z, y, xs, r, o, es, ep, h1, h2, h3, h4, fun x hx => ?_, h5⟩
  have all : ∀ {l : List (List Key × V)} {m : List (List Key × Addr × Value)}, KT H l m → ∀ x ∈ m, (tupleKind (za4 P w)).is h x.1 x.2.1 := by
    intro l m q
    induction q with
    | nil => intro x hx; exact nomatch hx
    | @cons p q ps qs hq t ih =>
      intro x hx
      rcases List.mem_cons.mp hx with e | hx
      · subst e
        exact ziG ok (by rw [← hq.1]; exact hq.2.1)
      · exact ih x hx
  exact all r x hx
theorem dt_of {kvs : List (List Key × V)} (ok : HOk P w H h) (e : H a = some (.dT kvs)) : kvs.length ≤ sizeLine ∧ (a == sysModules) = false ∧
    ∃ xs, KT H kvs xs ∧ h.DictOfH (tupleKind (za4 P w)) a xs := dt_rd ok (.inl e)
end
def DGet (H : Hp) (a : Addr) (y : V) (r : Option V) : Prop :=
  (∃ kvs k, Rd H a (.dK kvs) ∧ y = kV k ∧ r = valV kvs k) ∨ ∃ kvs k b, Rd H a (.dT kvs) ∧ y = .ref b ∧ H b = some (.tup (k.map kV)) ∧ r = valV kvs k
def DPut (H : Hp) (a : Addr) (y v : V) (H' : Hp) : Prop :=
  (∃ kvs k, H a = some (.dK kvs) ∧ y = kV k ∧ kvs.length < sizeLine ∧ H' = upd H a (.dK (putK kvs k v))) ∨
  ∃ kvs k b, H a = some (.dT kvs) ∧ y = .ref b ∧ H b = some (.tup (k.map kV)) ∧ kvs.length < sizeLine ∧ H' = upd H a (.dT (putK kvs k v))
theorem DGet.k {H : Hp} {a : Addr} {kvs : List (Key × V)} {k : Key} (e : H a = some (.dK kvs)) : DGet H a (kV k) (valV kvs k) := .inl ⟨kvs, k, .inl e, rfl, rfl⟩
theorem DGet.t {H : Hp} {a b : Addr} {kvs : List (List Key × V)} {k : List Key} (e : H a = some (.dT kvs)) (eb : H b = some (.tup (k.map kV))) : DGet H a (.ref b) (valV kvs k) := .inr ⟨kvs, k, b, .inl e, rfl, eb, rfl⟩
theorem DPut.k {H : Hp} {a : Addr} {kvs : List (Key × V)} {k : Key} {v : V} (e : H a = some (.dK kvs)) (hl : kvs.length < sizeLine) : DPut H a (kV k) v (upd H a (.dK (putK kvs k v))) := .inl ⟨kvs, k, e, rfl, hl, rfl⟩
theorem DPut.t {H : Hp} {a b : Addr} {kvs : List (List Key × V)} {k : List Key} {v : V} (e : H a = some (.dT kvs)) (eb : H b = some (.tup (k.map kV))) (hl : kvs.length < sizeLine) :
    DPut H a (.ref b) v (upd H a (.dT (putK kvs k v))) := .inr ⟨kvs, k, b, e, rfl, eb, hl, rfl⟩
section
variable {X : Cx} {pins : List (Addr × Obj)} {σ : St} {H : Hp} {s : Shared} {a : Addr} {y v : V} {u r : Value} {o : Option V} {A : Around} {E : Value → Shared → Prop}
theorem Inv.big (I : Inv X pins σ H s) : sysModules < s.heap.objs.size := by
  have h : mainGlobals < s.heap.objs.size := (I.mod.glob.keeps I.bk).lt
  exact Nat.lt_trans (by decide) h
theorem d_getItem {Q : Value → Shared → Prop} (hu : A.units + 1 < cLine) (I : Inv X pins σ H s) (g : DGet H a y (some v)) (ry : RelV y u) (h : ∀ w' s', Inv X pins σ H s' → RelV v w' → Q w' s') :
    wpAny (model X.prog X.w) A (getItem (.ref a) u) Q E s := by
  rcases g with ⟨kvs, k, e, ey, l⟩ | ⟨kvs, k, b, e, ey, eb, l⟩
  · subst ey
    obtain ⟨z, hd, vs, rel, dd⟩ := dk_rd I.hok e
    obtain ⟨w', hw, rw'⟩ := RelO.some_of (v := v) (o := valueAt vs k) (by rw [l]; exact rel.val k)
    exact wpAny_getItem_of (kV_is ry) dd.mapOf hw (h w' _ (I.tok _) rw')
  · subst ey
    cases (show u = Value.ref b from ry)
    obtain ⟨z, hd, xs, rel, dd⟩ := dt_rd I.hok e
    obtain ⟨w', hw, rw'⟩ := RelO.some_of (v := v) (o := (atKey xs k).map (·.2)) (by rw [l]; exact rel.val k)
    obtain ⟨p, hp, hp2⟩ := Option.map_eq_some_iff.mp hw
    refine wpAny_getItem_heap (tupleKind_room_in1 hu) (ziG I.hok eb) dd hp ?_
    rw [hp2]
    exact h w' _ (I.tok _) rw'
theorem zhT {h' : Heap} {t' : Nat} {ob : HO} (I : Inv X pins σ H s) (mu : Mut (H a)) (hs : Heap.SameBut a s.heap h') (he : ∃ q, h'.get? a = some q) (new : zbA X.prog X.w (upd H a ob) h' a ob) :
    Inv X pins σ (upd H a ob) { s with heap := h', toks := t' } :=
  I.write (x := a) (e := a) mu (.inl rfl) (fun b q hb z => (hs.2 b hb).trans z) he new
theorem dk_new {P : Program} {w : World} {H' : Hp} {h' : Heap} {kvs : List (Key × V)} {vs : List (Key × Value)} (z : kvs.length ≤ sizeLine) (hd : (a == sysModules) = false) (rel : KV kvs vs) (dd : h'.DictOf (za4 P w) a vs) :
    zbA P w H' h' a (.dK kvs) := ⟨z, hd, vs, rel, dd⟩
theorem d_setItem {H' : Hp} {Q : Unit → Shared → Prop} (hu : A.units + 1 < cLine) (I : Inv X pins σ H s) (g : DPut H a y v H') (ry : RelV y u) (rv : RelV v r) (h : ∀ s', Inv X pins σ H' s' → Q () s') :
    wpAny (model X.prog X.w) A (setItem (.ref a) u r) Q E s := by
  rcases g with ⟨kvs, k, e, ey, l, eH⟩ | ⟨kvs, k, b, e, ey, eb, l, eH⟩
  · subst ey eH
    obtain ⟨z, hd, vs, rel, dd⟩ := dk_of I.hok e
    have hz : vs.length ≤ sizeLine := by rw [← rel.length]; exact z
    have hl : (putK kvs k v).length ≤ sizeLine := by have := zdm kvs k v; omega
    refine wpAny_setItem_pairs (hsz := hz) (kV_is ry) dd fun h' dd' hs => h _ ?_
    have he : ∃ q, h'.get? a = some q := let ⟨q, _, _, hq, _⟩ := dd'; ⟨q, hq⟩
    exact zhT I (by rw [e]; exact True.intro) hs he (dk_new hl hd (rel.put k rv) dd')
  · subst ey eH
    cases (show u = Value.ref b from ry)
    obtain ⟨z, hd, xs, rel, dd⟩ := dt_of I.hok e
    have hz : xs.length ≤ sizeLine := by rw [← Paired.length rel]; exact z
    have hl : (putK kvs k v).length ≤ sizeLine := by have := zdm kvs k v; omega
    refine wpAny_setItem_heap (hsz := hz) (tupleKind_room_in1 hu) (ziG I.hok eb) dd fun h' dd' hs => h _ ?_
    obtain ⟨q, es, ep, hq, h2, h3, h4, _, h5⟩ := dd'
    refine zhT I (by rw [e]; exact True.intro) hs ⟨q, hq⟩ ⟨hl, hd, _, (rel.put k eb rv).keeps fun c ys ec => ?_, q, es, ep, hq, h2, h3, h4, h5⟩
    rw [zag (ne_of ec e (fun z => nomatch z))]
    exact ec
end
section
variable {X : Cx} {pins : List (Addr × Obj)} {σ : St} {H : Hp} {s : Shared} {a : Addr} {kvs : List (Key × V)} {k : Key} {u : Value} {A : Around} {E : Value → Shared → Prop}
end
def NoSl (i : Expr) : Prop := ∀ ov iv, subscripted i false ov iv = operate [ov, iv] (getItem ov iv)
theorem subD_of {prog : Program} {w : World} {A : Around} {E : Value → Shared → Prop} {s : Shared} {env : Env} {value slice : Expr} {pos : Pos} {T id : String} {Q : Value → Shared → Prop}
    (hl : typeLookup (.type T) "__getitem__" = pure (some (.builtin id))) (hs : NoSl slice)
    (h : wpAny (model prog w) A (eval value env) (fun o s₁ => wpAny (model prog w) A (eval slice env) (fun i s₂ => s₂.TypeIs o T ∧ wpAny (model prog w) A (getItem o i) Q E s₂) E s₁) E s) :
    wpAny (model prog w) A (eval (.Subscript value slice pos) env) Q E s := by
  refine Subscript_ (wpAny_mono h (fun o s₁ h₁ => wpAny_mono h₁ (fun i s₂ h₂ => ?_) fun _ _ x => x) fun _ _ x => x)
  obtain ⟨hT, h₂⟩ := h₂
  unfold subscriptTail
  refine wpAny_bind ?_
  rw [getitemInPython_of_ne hT.not_modules]
  refine wpAny_bind (wpAny_specialOf hT hl ?_)
  have fin : wpAny (model prog w) A (subscripted slice false o i) (fun r s₃ => wpAny (model prog w) A (letTemporaryGo value o r >>= fun _ => pure r) Q E s₃) E s₂ := by
    rw [hs o i]
    exact wpAny_operating (wpAny_mono h₂ (fun r s₃ h₃ => wpAny_bind (wpAny_letTemporaryGo (wpAny_pure h₃))) fun _ _ x => x)
  first
    | exact wpAny_pure (wpAny_bind fin)
    | exact wpAny_bind (wpAny_pure (wpAny_bind fin))
    | exact wpAny_bind fin
theorem zhS {X : Cx} {pins : List (Addr × Obj)} {σ : St} {H : Hp} {s : Shared} {a : Addr} {y : V} {o : Option V} (I : Inv X pins σ H s) (g : DGet H a y o) : s.TypeIs (.ref a) "dict" := by
  rcases g with ⟨kvs, k, e, _, _⟩ | ⟨kvs, k, b, e, _, _, _⟩
  · obtain ⟨_, _, vs, _, dd⟩ := dk_rd I.hok e
    exact dd.typeIs
  · obtain ⟨_, _, xs, _, dd⟩ := dt_rd I.hok e
    exact dd.typeIs
def tDGet (td ty : TE) : TE := fun σ H Q => td σ H fun x H1 => ty σ H1 fun y H2 => ∃ a v, x = .ref a ∧ DGet H2 a y (some v) ∧ Q v H2
def tDIn (ty td : TE) : TE := fun σ H Q => ty σ H fun y H1 => td σ H1 fun x H2 => ∃ a o, x = .ref a ∧ DGet H2 a y o ∧ Q (.bl o.isSome) H2
def tDNotIn (ty td : TE) : TE := fun σ H Q => ty σ H fun y H1 => td σ H1 fun x H2 => ∃ a o, x = .ref a ∧ DGet H2 a y o ∧ Q (.bl (!o.isSome)) H2
def sDPut (td ty tv : TE) : TS := fun D σ H => tv σ H fun v H1 => td σ H1 fun x H2 => ty σ H2 fun y H3 => ∃ a H4, x = .ref a ∧ DPut H3 a y v H4 ∧ D.nx σ H4
def sDAug (td ty tv : TE) (rd : V → V → Hp → VK → Prop) : TS := fun D σ H => td σ H fun x H1 => ty σ H1 fun y H2 => ∃ a v, x = .ref a ∧ DGet H2 a y (some v) ∧
  tv σ H2 fun y2 H3 => rd v y2 H3 fun z H4 => ∃ H5, DPut H4 a y z H5 ∧ D.nx σ H5
def sDDel (td ty : TE) : TS := fun D σ H => td σ H fun x H1 => ty σ H1 fun y H2 => ∃ a kvs k, x = .ref a ∧ H2 a = some (.dK kvs) ∧ y = kV k ∧ (valV kvs k).isSome = true ∧ D.nx σ (upd H2 a (.dK (dropK kvs k)))
section
variable {X : Cx} {o i e value : Expr} {pos pos' tpos : Pos} {td ty tv : TE}
theorem zd4 (hu : X.A.units + 1 < cLine) (ho : PE X o td) (hi : PE X i ty) (hs : NoSl i) : PE X (.Subscript o i pos) (tDGet td ty) := by
  intro pins s σ H Q I h
  refine subD_of PySem.F.slot_dict_getitem.lookup hs (thn (ho pins s σ H _ I h) fun u s1 ⟨x, H1, I1, rx, q1⟩ => thn (hi pins s1 σ H1 _ I1 q1) fun iv s2 ⟨y, H2, I2, ry, a, v, ex, g, q2⟩ => ?_)
  subst ex
  obtain rfl : u = Value.ref a := rx
  exact ⟨zhS I2 g, d_getItem hu I2 g ry fun w' s3 I3 rw' => ⟨v, H2, I3, rw', q2⟩⟩
theorem zd2 (hu : X.A.units + 1 < cLine) (ho : PE X o td) (hi : PE X i ty) (hv : PE X value tv) (hs : swapsWith value (some (.Subscript o i pos')) pos.line X.env = pure false) :
    PS X (.Assign [.Subscript o i pos'] value pos) (sDPut td ty tv) := by
  intro pins s σ H D I h
  refine wpAny_Assign_Subscript (thn (hv pins s σ H _ I h) fun r s1 ⟨v, H1, I1, rv, q1⟩ => thn (ho pins s1 σ H1 _ I1 q1) fun u s2 ⟨x, H2, I2, rx, q2⟩ => thn (hi pins s2 σ H2 _ I2 q2) fun iv s3 ⟨y, H3, I3, ry, a, H4, ex, g, q3⟩ => ?_) hs
  subst ex
  obtain rfl : u = Value.ref a := rx
  exact d_setItem hu I3 g ry rv fun s4 I4 => ⟨σ, H4, I4, q3⟩
end
theorem ziO {P : Program} {w : World} {H : Hp} (h : Heap) (hb : sysModules < h.objs.size) : zbA P w H (h.push { cls := .type "dict", data := .dict #[] }) h.objs.size (.dK []) :=
  ⟨Nat.zero_le _, beq_eq_false_iff_ne.mpr (Ne.symm (Nat.ne_of_lt hb)), [], .nil, Heap.DictOf.new h⟩
theorem dt_empty {P : Program} {w : World} {H : Hp} (h : Heap) (hb : sysModules < h.objs.size) : zbA P w H (h.push { cls := .type "dict", data := .dict #[] }) h.objs.size (.dT []) :=
  ⟨Nat.zero_le _, beq_eq_false_iff_ne.mpr (Ne.symm (Nat.ne_of_lt hb)), [], .nil, _, #[], 0, Heap.get?_push_size _ rfl, ⟨rfl, rfl, rfl⟩, rfl, rfl, List.nodup_nil⟩
def tDNewK : TE := fun _ H Q => ∀ p, H p = none → Q (.ref p) (upd H p (.dK []))
def tDNewT : TE := fun _ H Q => ∀ p, H p = none → Q (.ref p) (upd H p (.dT []))
section
variable {X : Cx} {pos : Pos}
theorem zio : PE X (.Dict [] [] pos) tDNewK := fun pins s σ H Q I h =>
  wpAny_Dict_empty ⟨.ref s.heap.objs.size, _, I.laid (a := s.heap.objs.size) (o := .dK []) (t' := s.toks) (fun _ _ q => Heap.get?_push_of_some _ q) (Nat.le_refl _) (ziO s.heap I.big), rfl, h _ (I.hok.fresh (Nat.le_refl _))⟩
theorem zin : PE X (.Dict [] [] pos) tDNewT := fun pins s σ H Q I h =>
  wpAny_Dict_empty ⟨.ref s.heap.objs.size, _, I.laid (a := s.heap.objs.size) (o := .dT []) (t' := s.toks) (fun _ _ q => Heap.get?_push_of_some _ q) (Nat.le_refl _) (dt_empty s.heap I.big), rfl, h _ (I.hok.fresh (Nat.le_refl _))⟩
end
def zjE : List (TE × TE) → St → Hp → (List (V × V) → Hp → Prop) → Prop
  | [], _, H, Q => Q [] H
  | (tk, tv) :: r, σ, H, Q => tk σ H fun x H1 => tv σ H1 fun y H2 => zjE r σ H2 fun ps H3 => Q ((x, y) :: ps) H3
abbrev VV : List (V × V) → List (Value × Value) → Prop := Paired fun p q => RelV p.1 q.1 ∧ RelV p.2 q.2
def PPs (X : Cx) (pos : Pos) (keys : List (Option Expr)) (values : List Expr) (trs : List (TE × TE)) : Prop :=
  ∀ (pins : List (Addr × Obj)) (s : Shared) (σ : St) (H : Hp) (Q : List (V × V) → Hp → Prop), Inv X pins σ H s → zjE trs σ H Q →
    wpAny (model X.prog X.w) X.A (evalPairs (pairTrees keys values X.env pos)) (fun vs s' => ∃ ps H', Inv X pins σ H' s' ∧ VV ps vs ∧ Q ps H') X.xe s
theorem pps_nil {X : Cx} {pos : Pos} : PPs X pos [] [] [] := fun pins s σ H Q I h => pairTrees_nil_walk ⟨[], H, I, .nil, h⟩
theorem zgg {X : Cx} {pos : Pos} {k v : Expr} {ks : List (Option Expr)} {vs : List Expr} {tk tv : TE} {trs : List (TE × TE)} (hk : PE X k tk) (hv : PE X v tv) (hr : PPs X pos ks vs trs) :
    PPs X pos (some k :: ks) (v :: vs) ((tk, tv) :: trs) := fun pins s σ H Q I h =>
  pairTrees_cons_walk (thn (hk pins s σ H _ I h) fun u s1 ⟨x, H1, I1, rx, q1⟩ => thn (hv pins s1 σ H1 _ I1 q1) fun w2 s2 ⟨y, H2, I2, ry, q2⟩ =>
    thn (hr pins s2 σ H2 _ I2 q2) fun ws s3 ⟨ps, H3, I3, rel, q3⟩ => ⟨(x, y) :: ps, H3, I3, .cons ⟨rx, ry⟩ rel, q3⟩)
def zeU (kvs more : List (Key × V)) : List (Key × V) := more.foldl (fun acc kv => putK acc kv.1 kv.2) kvs
theorem KV.merge : ∀ {more : List (Key × V)} {rs : List (Key × Value)} {kvs : List (Key × V)} {vs : List (Key × Value)}, KV more rs → KV kvs vs → KV (zeU kvs more) (merged vs rs) := by
  intro more rs kvs vs r
  unfold KV at r
  induction r generalizing kvs vs with
  | nil => intro q; exact q
  | @cons p q ps qs h t ih =>
    intro r0
    have e : KV (putK kvs p.1 p.2) (stored vs q.1 q.2) := by
      have := r0.put p.1 h.2
      rw [← h.1]; exact this
    exact ih e
theorem zep : ∀ (more kvs : List (Key × V)), (zeU kvs more).length ≤ kvs.length + more.length
  | [], kvs => by show kvs.length ≤ kvs.length + 0; omega
  | p :: r, kvs => by
    have h1 := zep r (putK kvs p.1 p.2)
    have h2 := zdm kvs p.1 p.2
    show (zeU (putK kvs p.1 p.2) r).length ≤ _
    rw [List.length_cons]; omega
theorem zf3 {P : Program} {w : World} : ∀ {kvs : List (Key × V)} {ws : List (Value × Value)}, VV (kvs.map fun kv => (kV kv.1, kv.2)) ws → ∃ rs, Carries (za4 P w) ws rs ∧ KV kvs rs
  | [], _, r => by rw [List.map_nil] at r; cases r; exact ⟨[], True.intro, .nil⟩
  | p :: kvs, _, r => by
    rw [List.map_cons] at r
    cases r with
    | @cons a b as bs h t =>
      obtain ⟨rs, c, q⟩ := zf3 (P := P) (w := w) t
      obtain ⟨b1, b2⟩ := b
      exact ⟨(p.1, b2) :: rs, ⟨kV_is h.1, rfl, c⟩, .cons ⟨rfl, h.2⟩ q⟩
def tDisp (trs : List (TE × TE)) : TE := fun σ H Q => ∀ p, H p = none → zjE trs σ (upd H p (.dK [])) fun ps H2 => H2 p = some (.dK []) ∧ ∃ kvs : List (Key × V), ps = kvs.map (fun kv => (kV kv.1, kv.2)) ∧ kvs.length ≤ 15 ∧ Q (.ref p) (upd H2 p (.dK (zeU [] kvs)))
theorem pe_disp {X : Cx} {pos : Pos} {keys : List (Option Expr)} {values : List Expr} {trs : List (TE × TE)} (h : PPs X pos keys values trs) (hall : keys.all (·.isSome) = true) (hl : keys.length = values.length) (h0 : keys ≠ [])
    (h15 : keys.length ≤ 15) : PE X (.Dict keys values pos) (tDisp trs) := by
  intro pins s σ H Q I q
  have hn := I.hok.fresh (Nat.le_refl s.heap.objs.size)
  have I1 := I.laid (a := s.heap.objs.size) (o := .dK []) (h' := s.heap.push { cls := .type "dict", data := .dict #[] }) (t' := s.toks) (fun _ _ q => Heap.get?_push_of_some _ q) (Nat.le_refl _) (ziO s.heap I.big)
  refine wpAny_Dict_walk (knd := za4 X.prog X.w) hall hl h0 h15 (thn (h pins _ σ _ _ I1 (q _ hn)) fun ws s2 ⟨ps, H2, I2, rel, e, kvs, ep, lk, q2⟩ => ?_)
  subst ep
  obtain ⟨rs, c, rk⟩ := zf3 (P := X.prog) (w := X.w) rel
  obtain ⟨z, hd, vs0, r0, dd⟩ := dk_of I2.hok e
  cases r0
  refine ⟨rs, c, dd, fun h' dd' hs => ⟨.ref s.heap.objs.size, _, ?_, rfl, q2⟩⟩
  have hz : (zeU [] kvs).length ≤ sizeLine := by
    have h1 := zep kvs []
    rw [List.length_nil] at h1
    rw [sizeLine_eq]; omega
  have he : ∃ q, h'.get? s.heap.objs.size = some q := let ⟨q, _, _, hq, _⟩ := dd'; ⟨q, hq⟩
  exact zhT I2 (by rw [e]; exact True.intro) hs he (dk_new hz hd (rk.merge .nil) dd')
structure M1 (X : Cx) (o : Expr) (m : Str) (apos : Pos) (e : Expr) (cpos : Pos) : Prop where
  base : attributeBase o m X.env (eval o X.env) = eval o X.env
  few : ((backTo cpos (starEach [e] X.env)).all (fun x => !x.1) && (backToKw cpos (keywordEach [] X.env)).all (fun x => x.1.isSome)
    && decide (([e] : List Expr).length + ([] : List Keyword).length + (if ([] : List Keyword).isEmpty then 0 else 1) < 30)) = true
  line : (apos.endLine == cpos.line) = true
  trees : backTo cpos (starEach [e] X.env) = [(false, eval e X.env)]
structure M2 (X : Cx) (o : Expr) (m : Str) (apos : Pos) (e f : Expr) (cpos : Pos) : Prop where
  base : attributeBase o m X.env (eval o X.env) = eval o X.env
  few : ((backTo cpos (starEach [e, f] X.env)).all (fun x => !x.1) && (backToKw cpos (keywordEach [] X.env)).all (fun x => x.1.isSome)
    && decide (([e, f] : List Expr).length + ([] : List Keyword).length + (if ([] : List Keyword).isEmpty then 0 else 1) < 30)) = true
  line : (apos.endLine == cpos.line) = true
  trees : backTo cpos (starEach [e, f] X.env) = [(false, eval e X.env), (false, eval f X.env)]
def IsD (H : Hp) (a : Addr) : Prop := (∃ kvs, Rd H a (.dK kvs)) ∨ ∃ kvs, Rd H a (.dT kvs)
theorem isD_at {X : Cx} {pins : List (Addr × Obj)} {σ : St} {H : Hp} {s : Shared} {a : Addr} (I : Inv X pins σ H s) (d : IsD H a) :
    s.TypeIs (.ref a) "dict" ∧ (∀ b, Value.ref a = .ref b → ∃ ob, s.heap.get? b = some ob ∧ ob.dict = none) ∧ (a == sysModules) = false := by
  rcases d with ⟨kvs, e⟩ | ⟨kvs, e⟩
  · obtain ⟨_, hd, vs, _, dd⟩ := dk_rd I.hok e
    refine ⟨dd.typeIs, fun b q => ?_, hd⟩
    cases q
    obtain ⟨ob, _, _, h1, h2, _⟩ := dd
    exact ⟨ob, h1, h2.2.1⟩
  · obtain ⟨_, hd, xs, _, dd⟩ := dt_rd I.hok e
    refine ⟨dd.typeIs, fun b q => ?_, hd⟩
    cases q
    obtain ⟨ob, _, _, h1, h2, _⟩ := dd
    exact ⟨ob, h1, h2.2.1⟩
section
variable {X : Cx} {pins : List (Addr × Obj)} {σ : St} {H : Hp} {s : Shared} {a : Addr} {y d : V} {u r : Value} {o : Option V} {A : Around} {E : Value → Shared → Prop}
theorem d_get2 {Q : Value → Shared → Prop} (hu : A.units + 1 < cLine) (I : Inv X pins σ H s) (g : DGet H a y o) (ry : RelV y u) (rd : RelV d r) (h : ∀ w' s', Inv X pins σ H s' → RelV (o.getD d) w' → Q w' s') :
    wpAny (model X.prog X.w) A (call (.builtin "dict.get") [.ref a, u, r]) Q E s := by
  rcases g with ⟨kvs, k, e, ey, l⟩ | ⟨kvs, k, b, e, ey, eb, l⟩
  · subst ey
    obtain ⟨z, hd, vs, rel, dd⟩ := dk_rd I.hok e
    refine call_meetsIn PySem.F.slot_dict_get dd.typeIs PySem.F.entry_dict_get (PySem.F.args_dict_get_3 _ _ _) (meets_dict_get_default (za4 X.prog X.w) a (kV_is ry) hd r) ⟨_, dd.mapOf, h _ _ (I.tok _) ?_⟩
    rw [l]
    exact (rel.val k).getD rd
  · subst ey
    cases (show u = Value.ref b from ry)
    obtain ⟨z, hd, xs, rel, dd⟩ := dt_rd I.hok e
    refine call_meetsIn PySem.F.slot_dict_get dd.typeIs PySem.F.entry_dict_get (PySem.F.args_dict_get_3 _ _ _) (meetsH_dict_get_default (tupleKind (za4 X.prog X.w)) a b hd r) ⟨tupleKind_room_in1 hu, k, xs, ziG I.hok eb, dd, h _ _ (I.tok _) ?_⟩
    rw [l]
    exact (rel.val k).getD rd
end
def tDGet1 (td ty : TE) : TE := fun σ H Q => td σ H fun x H1 => ∃ a, x = .ref a ∧ IsD H1 a ∧ ty σ H1 fun y H2 => ∃ o, DGet H2 a y o ∧ Q (o.getD .non) H2
def tDGet2 (td ty tx : TE) : TE := fun σ H Q => td σ H fun x H1 => ∃ a, x = .ref a ∧ IsD H1 a ∧ ty σ H1 fun y H2 => tx σ H2 fun z H3 => ∃ o, DGet H3 a y o ∧ Q (o.getD z) H3
def tDPop1 (td ty : TE) : TE := fun σ H Q => td σ H fun x H1 => ∃ a, x = .ref a ∧ IsD H1 a ∧ ty σ H1 fun y H2 => ∃ kvs k v, H2 a = some (.dK kvs) ∧ y = kV k ∧ valV kvs k = some v ∧ Q v (upd H2 a (.dK (dropK kvs k)))
def tDPop2 (td ty tx : TE) : TE := fun σ H Q => td σ H fun x H1 => ∃ a, x = .ref a ∧ IsD H1 a ∧ ty σ H1 fun y H2 => tx σ H2 fun z H3 => ∃ kvs k, H3 a = some (.dK kvs) ∧ y = kV k ∧
  (∀ v, valV kvs k = some v → Q v (upd H3 a (.dK (dropK kvs k)))) ∧ (valV kvs k = none → Q z H3)
section
variable {X : Cx} {o e f : Expr} {apos cpos : Pos} {td ty tx : TE}
theorem ziq (hu : X.A.units + 1 < cLine) (ho : PE X o td) (he : PE X e ty) (hf : PE X f tx) (m : M2 X o "get" apos e f cpos) : PE X (.Call (.Attribute o "get" apos) [e, f] [] cpos) (tDGet2 td ty tx) := by
  intro pins s σ H Q I h
  refine wpAny_Call_method m.base m.few m.line PySem.F.plainAttrs_dict PySem.F.slot_dict_get PySem.F.type_dict_get (thn (ho pins s σ H _ I h) fun u s1 ⟨x, H1, I1, rx, a, ex, d, q1⟩ => ?_)
  subst ex
  obtain rfl : u = Value.ref a := rx
  obtain ⟨t1, t2, _⟩ := isD_at I1 d
  refine ⟨t1, t2, ?_⟩
  rw [m.trees]
  refine Calls.callWith_builtin rfl (Calls.evalArgs_plain (Calls.spliced_cons (thn (he pins s1 σ H1 _ I1 q1) fun iv s2 ⟨y, H2, I2, ry, q2⟩ =>
    Calls.spliced_cons (thn (hf pins s2 σ H2 _ I2 q2) fun fv s3 ⟨z, H3, I3, rz, ov, g, q3⟩ => Calls.spliced_nil ?_))))
  exact d_get2 hu I3 g ry rz fun w' s4 I4 rw' => ⟨_, H3, I4, rw', q3⟩
end
section
variable {X : Cx} {pins : List (Addr × Obj)} {σ : St} {H : Hp} {s : Shared} {a : Addr} {kvs : List (Key × V)} {A : Around} {E : Value → Shared → Prop}
end
section
variable {X : Cx} {pins : List (Addr × Obj)} {σ : St} {H : Hp} {s : Shared} {a : Addr} {y : V} {u : Value} {A : Around} {E : Value → Shared → Prop}
end
end L2
namespace Att
open PySem PySem.W PySem.Calls PyProof.Rows
theorem zfi {P : Params} {h : Heap} : ∀ (ns : List Int) (vs : List Value), WellAll P h vs (ns.map WData.int) → IntsAre vs ns := by
  intro ns
  induction ns with
  | nil =>
    intro vs w
    rw [List.map_nil] at w
    cases w
    exact .nil
  | cons n ns ih =>
    intro vs w
    rw [List.map_cons] at w
    cases w with
    | cons a b =>
      cases a
      exact .cons _ _ (ih _ b)
theorem zjP {l : OpenLaw} {n : Nat} (hn : l.most = some n) {P : Params} {h : Heap} {args : List WData} {vals : List Value}
    (hpre : l.row.toRowW.claim.pre args = true) (hwl : WellAll P h vals args) :
    ∃ a vs ns, vals = [Value.ref a] ∧ args = [WData.list (ns.map WData.int)] ∧ h.get? a = some { cls := .type "list", data := .seq vs.toArray } ∧ IntsAre vs ns ∧ ns.length ≤ n := by
  have hsh : WShape.hasAll [] args [.list .int] = true := (pre_splitW hpre).1
  have hc : l.pre.holds [] { args := args } = true := (pre_splitW hpre).2
  obtain ⟨d, r, rfl, h1, h2⟩ := hasAllW_cons hsh
  obtain rfl := hasAllW_nil h2
  obtain ⟨xs, rfl, h3⟩ := hasW_list h1
  obtain ⟨ns, rfl⟩ := items_int h3
  have hlen : ns.length ≤ n := by
    unfold OpenLaw.pre at hc
    have h4 : (WTm.not (.lt (.lit (.int (n : Int))) (.len (.arg 0)))).holds [] { args := [.list (ns.map .int)] } = true := by
      have h4 := (holds_andW hc).1
      rw [hn] at h4
      exact h4
    have h5 := condW_of h4 (w_not (w_lt w_lit (w_len_list (w_arg rfl))))
    rw [List.length_map] at h5
    refine Nat.le_of_not_lt fun q => ?_
    have q' : (n : Int) < ((ns.length : Nat) : Int) := by omega
    first
      | (rw [decide_eq_true q'] at h5; exact absurd h5 (by decide))
      | (simp at h5; omega)
  cases hwl with
  | cons w1 w2 =>
    cases w2
    cases w1 with
    | list ho hall => exact ⟨_, _, ns, rfl, rfl, ho, zfi ns _ hall, hlen⟩
theorem post_true (l : OpenLaw) (args : List WData) : l.row.toRowW.claim.post args (.bool true) args = true :=
  postW_of (r := l.row.toRowW) (X := (true == true))
    (show WShape.has [] (.bool true) .bool = true by first | rfl | decide | simp [WShape.has, WShape.arms, WShape.armsAll])
    (show (WTm.eq .res (.lit (.bool true))).value [] { args := args, res := some (.bool true), after := args } = some (.bool (true == true)) from w_eq_bool (w_res rfl) w_lit) rfl
theorem attach_call {l : OpenLaw} {n : Nat} {q : Program} {loose : List Str} {XP : (Str → Option Value) → Heap → Prop} {YP : World → Heap → Prop} {d : DefRec}
    (hn : l.most = some n) (hdf : d.params.defaults = [])
    (call : ∀ (w : World) (s₀ s₁ : Shared) (mg mb : Str → Option Value) (fa : Addr) (o : Obj) (pm cd doc : Value) (a : Addr) (vs : List Value) (ns : List Int),
      Ground q loose [] XP w s₀ mg mb s₁.heap → YP w s₁.heap →
      s₁.heap.get? fa = some o → o.data = .func (docDef d.name d.params d.body d.scope pm cd doc) → s₁.heap.CodeRec cd d.name → mg d.name = some (.ref fa) →
      s₁.heap.get? a = some { cls := .type "list", data := .seq vs.toArray } → IntsAre vs ns → ns.length ≤ n → s₁.gens = #[] →
      codeAny (model l.prog w) callerA (.call (.ref fa) ⟨[.ref a], []⟩) (fun r s' => r = .ok (.ret (.bool true)) ∧ OldK s₁.heap s'.heap ∧ s'.os = s₁.os ∧ AllBare s'.gens) s₁) :
    WalkO q loose XP YP l.row.toRowW d [] (fun f vs => PySem.call f vs) := by
  intro w s₀ s₁ mg mb G Y fa o pm cd doc dV kV ho hd hcd hD hmg hg args vals as hpre hlay hrd hwl hlo
  obtain rfl : dV = .none := Dflts.none hD hdf
  obtain rfl : kV = .none := Dflts.noKw hD
  obtain ⟨a, vs, ns, rfl, rfl, hobj, hints, hlen⟩ := zjP hn hpre hwl
  refine enter_call (codeAny_mono (call w s₀ s₁ mg mb fa o pm cd doc a vs ns G Y ho (fd_plain hd) hcd hmg hobj hints hlen hg) fun r s' hq => ?_)
  obtain ⟨rfl, h2, h3, h4⟩ := hq
  exact ⟨.inl ⟨.bool true, .bool true, [], rfl, fun _ => rfl, .bool true, post_true l _, fun _ => ⟨List.Pairwise.nil, fun _ hm => (nomatch hm)⟩⟩, h2, h3, h4⟩
section
variable {prog : Program} {w : World} {A : Around} {E : Value → Shared → Prop} {s : Shared} {K : Frag}
def noObjs (h : Heap) : Heap := { h with objs := #[] }
def ledger (h : Heap) (L d : Addr) : List (Addr × Obj) := (List.range h.objs.size).filterMap fun a => if a = L ∨ a = d then none else (h.get? a).map fun o => (a, o)
end
end Att
namespace L2
open PySem PySem.Spec PyProof.Rows
theorem zgE : ∀ {vs : List Value} {ns : List Int}, IntsAre vs ns → Vals (ns.map V.int) vs
  | _, _, .nil => .nil
  | _, _, .cons n t h => .cons ⟨t, rfl⟩ (zgE h)
def Only (H : Hp) : Prop := ∀ b, H b = none ∨ ∃ o xs, H b = some (.frz o (.lst xs))
theorem law_call {P : Program} {w : World} {K : PySem.W.Frag} {mg mb : Str → Option Value} {CX : CXT} {k : Nat} {fa a : Addr} {fd : FuncData} {x : Str} {sp : Sp} {s₁ : Shared} {vs : List Value} {ns : List Int}
    (KX : K.In s₁.heap) (hns : s₁.heap.Ns mainGlobals mg) (hb : s₁.heap.Ns builtinsNs mb) (hbb : ∀ x : Str, x ≠ "__name__" → mb x = bootBuiltins x) (hlim : s₁.heap.NoLimit) (hg : s₁.gens = #[])
    (ha : s₁.heap.get? a = some { cls := .type "list", data := .seq vs.toArray }) (hi : IntsAre vs ns) (hl : ns.length ≤ sizeLine) (hr : Room k callerA)
    (F : ∀ base : Heap, K.In base → base.Ns mainGlobals mg → FnOk P w K mg base CX k fa fd [x] sp) (hbind : ∀ (s : Shared) (u : Value), BindsTo s fd ⟨[u], []⟩ [(x, u)])
    (hsp : ∀ H : Hp, Only H → SqL K H a (ns.map V.int) → sp [.ref a] H (fun v _ => v = .bl true) fun _ _ _ => False)
    (hCX : ∀ H e s', CX [] H s₁ (fun _ _ _ => False) e s' → False) :
    codeAny (model P w) callerA (.call (.ref fa) ⟨[.ref a], []⟩) (fun r s' => r = .ok (.ret (.bool true)) ∧ OldK s₁.heap s'.heap ∧ s'.os = s₁.os ∧ AllBare s'.gens) s₁ := by
  have rv := zgE hi
  have lenV := hi.length
  have core : ∀ H : Hp, Only H → SqL K H a (ns.map V.int) → HOk P w H s₁.heap → (∀ b, H b ≠ none → b = a) → (H a ≠ none → K.lookup a = none) →
      codeAny (model P w) callerA (.call (.ref fa) ⟨[.ref a], []⟩) (fun r s' => r = .ok (.ret (.bool true)) ∧ OldK s₁.heap s'.heap ∧ s'.os = s₁.os ∧ AllBare s'.gens) s₁ := by
    intro H hO hS hok hA hK
    have base_of : ∀ {b : Addr} {o : Obj}, s₁.heap.get? b = some o → H b = none → (hidT s₁.heap H).get? b = some o := fun e n => hidT_get e n
    have noA : ∀ {b : Addr} {o : Obj} {es : Array DictEntry} {ep : Nat}, s₁.heap.get? b = some o → o.data = .dict es ep → H b = none := fun {b o es ep} e d => by
      cases q : H b with
      | none => rfl
      | some u =>
        have e' : b = a := hA b (by rw [q]; simp)
        subst e'
        rw [ha] at e; cases e
        have d' : Data.seq vs.toArray _ = Data.dict es ep := d
        cases d'
    have nsK : ∀ {b : Addr} {m : Str → Option Value}, s₁.heap.Ns b m → (hidT s₁.heap H).Ns b m := fun {b m} ⟨o, es, ep, e, d, r⟩ => ⟨o, es, ep, base_of e (noA e d), d, r⟩
    have hKb : K.In (hidT s₁.heap H) := fun b o e => base_of (KX b o e) (by
      cases q : H b with
      | none => rfl
      | some u =>
        have e' : b = a := hA b (by rw [q]; simp)
        subst e'
        rw [hK (by rw [q]; simp)] at e; cases e)
    have hM : Mod K mg (hidT s₁.heap H) := ⟨hKb, nsK hns, ⟨mb, nsK hb, hbb⟩, let ⟨mc, h1, h2⟩ := hlim; ⟨mc, nsK h1, h2⟩⟩
    have e0 : Env0 P w K mg (hidT s₁.heap H) callerA [] s₁ H := ⟨rfl, hM, fun b o e => of_hidT e, Nat.le_of_eq (hidT_size _ _), trivial, fun b hb => absurd (show b ∈ ([] : List Addr) from hb) (by simp), hok, .of_eq hg⟩
    refine codeAny_mono ((F _ hKb (nsK hns)).run callerA [] s₁ H ⟨[.ref a], []⟩ [.ref a] [.ref a] _ _ hr e0 (hbind s₁ (.ref a)) (.cons rfl .nil) (hsp H hO hS)) fun r s' h => ?_
    cases r with
    | error e => exact (hCX H e s' h).elim
    | ok fl =>
      cases fl with
      | next => exact False.elim h
      | brk => exact False.elim h
      | cont => exact False.elim h
      | ret u =>
        obtain ⟨v, H', os, bare, un, hok', r', q⟩ := h
        have q' : v = .bl true := q
        subst q'
        obtain rfl : u = Value.bool true := r'
        refine ⟨rfl, OldK.of_keep fun b o e => ?_, os, bare⟩
        cases q : H b with
        | none => exact un.keep b o e q (by intro z; exact absurd (show b ∈ ([] : List Addr) from z) (by simp)) (by simp)
        | some u =>
          rcases hO b with z | ⟨ob, xs, z⟩
          · rw [q] at z; cases z
          · have z2 := un.frzs b ob _ z
            obtain ⟨e1, _⟩ := hok b _ z
            obtain ⟨e2, _⟩ := hok' b _ z2
            rw [e] at e1; cases e1
            exact e2
  cases hk : K.lookup a with
  | some o =>
    have e := KX a o hk
    rw [ha] at e
    cases e
    refine core (fun _ => none) (fun _ => .inl rfl) (.inr ⟨_, vs.toArray, _, hk, rfl, rfl, rfl, by rw [List.size_toArray, lenV]; exact hl, by simpa using rv⟩) (fun b u z => by have z' : (none : Option HO) = some u := z; cases z') (fun b z => absurd rfl z) fun z => absurd rfl z
  | none =>
    refine core (fun b => if b = a then some (.frz { cls := .type "list", data := .seq vs.toArray } (.lst (ns.map V.int))) else none) (fun b => ?_) (.inl (.inr ⟨{ cls := .type "list", data := .seq vs.toArray }, if_pos rfl⟩)) (fun b u z => ?_) (fun b z => ?_) fun _ => hk
    · by_cases hb : b = a
      · exact .inr ⟨_, _, if_pos hb⟩
      · exact .inl (if_neg hb)
    · by_cases hb : b = a
      · have z' := (if_pos hb).symm.trans z
        cases z'
        subst hb
        exact ⟨ha, by rw [List.length_map]; exact hl, vs, _, rv, ha⟩
      · have z' := (if_neg hb).symm.trans z
        cases z'
    · by_cases hb : b = a
      · exact hb
      · exact absurd (if_neg hb) z
end L2
namespace L2
open PySem PySem.Spec PyProof.Rows
abbrev KOf {K : PySem.W.Frag} {h : Heap} (_ : K.In h) : PySem.W.Frag := K
theorem walk_of {l : PySem.W.OpenLaw} {n k : Nat} {q : Program} {loose : List Str} {XP : (Str → Option Value) → Heap → Prop} {YP : World → Heap → Prop} {d : DefRec} {K : Params → PySem.W.Frag} {CX : World → CXT} {sp : World → Sp} {x : Str}
    (hn : l.most = some n) (hn2 : n ≤ sizeLine) (hdf : d.params.defaults = []) (hr : Room k callerA)
    (hY : ∀ (w : World) (h : Heap), YP w h → (K w.params).In h)
    (F : ∀ (w : World) (mg : Str → Option Value) (fa : Addr) (h : Heap), (K w.params).In h → h.Ns mainGlobals mg → mg d.name = some (.ref fa) →
      ∃ fd : FuncData, (∀ (s : Shared) (u : Value), BindsTo s fd ⟨[u], []⟩ [(x, u)]) ∧
        ∀ base : Heap, (K w.params).In base → base.Ns mainGlobals mg → FnOk l.prog w (K w.params) mg base (CX w) k fa fd [x] (sp w))
    (hsp : ∀ (w : World) (H : Hp) (a : Addr) (ns : List Int), ns.length ≤ n → Only H → SqL (K w.params) H a (ns.map V.int) → sp w [.ref a] H (fun v _ => v = .bl true) fun _ _ _ => False)
    (hCX : ∀ (w : World) (H : Hp) (s : Shared) (e : Value) (s' : Shared), CX w [] H s (fun _ _ _ => False) e s' → False) :
    PySem.W.WalkO q loose XP YP l.row.toRowW d [] (fun f vs => PySem.call f vs) := by
  refine Att.attach_call hn hdf fun w s₀ s₁ mg mb fa o pm cd doc a vs ns G Y ho hd hcd hmg hobj hints hlen hg => ?_
  have KX := hY w _ Y
  obtain ⟨fd, hb, hF⟩ := F w mg fa _ KX G.T.g hmg
  exact law_call KX G.T.g G.T.b G.T.builtins G.T.nolimit hg hobj hints (Nat.le_trans hlen hn2) hr hF hb (fun H hO hS => hsp w H a ns hlen hO hS) fun H e s' => hCX w H s₁ e s'
end L2
namespace L2
open PySem PySem.Spec PyProof.Rows
def inClass (s : Stmt) (j : Nat) : Stmt := match s with
  | .ClassDef _ _ _ body _ _ _ _ _ _ _ => body.getD j (.Pass ⟨0, 0, 0, 0⟩)
  | _ => .Pass ⟨0, 0, 0, 0⟩
def zat (s : Stmt) : Arguments := match s with
  | .FunctionDef _ a _ _ _ _ _ _ _ _ => a
  | _ => { posonlyargs := [], args := [], vararg := none, kwonlyargs := [], kw_defaults := [], kwarg := none, defaults := [] }
def zas (s : Stmt) : List Stmt := match s with
  | .FunctionDef _ _ b _ _ _ _ _ _ _ => b
  | _ => []
def zah (s : Stmt) : Scope := match s with
  | .FunctionDef _ _ _ _ _ _ sc _ _ _ => sc
  | _ => { kind := .function, names := [], isGenerator := false, isCoroutine := false }
abbrev CX0 : CXT := fun _ _ _ _ _ _ => False
abbrev E0 : XK := fun _ _ _ => False
theorem pass0 {X : Cx} : Passes CX0 X E0 := fun _ _ _ _ _ _ _ h => h.elim
structure Fun (K : PySem.W.Frag) (x qual : Str) (st : Stmt) (f : Addr) (fd : FuncData) : Prop where
  ex : ∃ (oc : Value) (od : Option Addr) (kV doc pm : Value) (an : Option Addr) (cdv ct : Value) (osl : Array (Option Value)),
    fd = PySem.W.fnOf x qual (zat st) (zas st) (zah st) .none kV doc pm an cdv ct ∧ K.lookup f = some ⟨oc, od, .func fd, osl⟩ ∧ PySem.W.codeIn K cdv qual = true
  kp : PySem.W.keepIn K (.ref f) = true
section
variable {P : Program} {w : World} {K : PySem.W.Frag} {mg : Str → Option Value} {base : Heap}
theorem Fun.ok {x qual : Str} {st : Stmt} {f : Addr} {fd : FuncData} {N ps : List Str} {k : Nat} {sp : Sp} (F : Fun K x qual st f fd) (S : zav N ps (zah st)) (len : ∀ vs H Q E, sp vs H Q E → vs.length = ps.length)
    (hbody : ∀ (cdv : Value) (A : Around) (outer : List Env) (s : Shared) (H : Hp) (vs : List V) (Q : VK) (E : XK), Room k (A.deeper (envOfC qual (zah st) s.heap.objs.size f cdv)) → sp vs H Q E →
      ∃ t, PSs (cxOf CX0 P w K mg base N qual (zah st) f cdv A outer s H E).nox (zas st) t ∧ t { nx := fun _ H' => Q .non H', rt := Q } (start N vs) H) : FnOk P w K mg base CX0 (k + 1) f fd ps sp := by
  obtain ⟨oc, od, kV, doc, pm, an, cdv, ct, osl, rfl, lk, hcd⟩ := F.ex
  refine fn_of lk hcd S len fun A outer s H vs Q E hr hsp => ?_
  obtain ⟨t, h, q⟩ := hbody cdv A outer s H vs Q E hr hsp
  exact ⟨t, h.nox, q⟩
theorem Fun.binds {x qual : Str} {st : Stmt} {f : Addr} {fd : FuncData} {ps : List Str} (F : Fun K x qual st f fd)
    (h : ∀ (kV doc pm : Value) (an : Option Addr) (cdv ct : Value) (us : List Value), us.length = ps.length → bindArgs (PySem.W.fnOf x qual (zat st) (zas st) (zah st) .none kV doc pm an cdv ct) ⟨us, []⟩ = pure (ps.zip us)) : zh4 K fd ps [] := by
  obtain ⟨oc, od, kV, doc, pm, an, cdv, ct, osl, rfl, lk, hcd⟩ := F.ex
  exact .all (h kV doc pm an cdv ct)
theorem zan {x qual : Str} {st : Stmt} {f : Addr} {oc : Value} {od an : Option Addr} {osl : Array (Option Value)} {kV doc pm cdv ct : Value} (l : K.lookup f = some ⟨oc, od, .func (PySem.W.fnOf x qual (zat st) (zas st) (zah st) .none kV doc pm an cdv ct), osl⟩)
    (c : PySem.W.codeIn K cdv qual = true) (k : PySem.W.keepIn K (.ref f) = true) : Fun K x qual st f (PySem.W.fnOf x qual (zat st) (zas st) (zah st) .none kV doc pm an cdv ct) := ⟨⟨oc, od, kV, doc, pm, an, cdv, ct, osl, rfl, l, c⟩, k⟩
end
theorem zdW {A : Around} {k : Nat} (hr : Room k A) : A.units + 1 < cLine := Nat.lt_of_le_of_lt (Nat.add_le_add_left (by decide : 1 ≤ 64) _) hr.units
theorem zam {n : Nat} (h : n ≤ 1000) : n < sizeLine := Nat.lt_of_le_of_lt h (by decide)
section
variable {X : Cx}
theorem pv (i : Nat) {x : Str} {pos : Pos} (hN : X.N[i]? = some x := by rfl) (hv : Vis X.env.scope x := by first | exact Or.inl rfl | exact Or.inr (Or.inl rfl) | exact Or.inr (Or.inr rfl)) (hd : (x == ("__debug__" : Str)) = false := by decide)
    (hcd : (x == ("__classdict__" : Str)) = false := by decide) : PE X (.Name x pos) (tVar i) := pe_var hN hv hd hcd
end
theorem iteF {A B : Prop} (h : B) : if false = true then A else B := by
  rw [if_neg Bool.false_ne_true]
  exact h
theorem iteT {A B : Prop} (h : A) : if true = true then A else B := by
  rw [if_pos rfl]
  exact h
theorem ite2 {c A B : Prop} [Decidable c] (h1 : c → A) (h2 : ¬ c → B) : if c then A else B := by
  by_cases h : c
  · rw [if_pos h]
    exact h1 h
  · rw [if_neg h]
    exact h2 h
theorem iteNS {c A B : Prop} [Decidable c] (hc : c) (h : B) : if (!decide c) = true then A else B := by
  rw [decide_eq_true hc]
  exact iteF h
def Same (H H' : Hp) : Prop := ∀ b o, H b = some o → H' b = some o
theorem Same.refl (H : Hp) : Same H H := fun _ _ h => h
theorem Same.trans {H H1 H2 : Hp} (a : Same H H1) (b : Same H1 H2) : Same H H2 := fun c o h => b c o (a c o h)
theorem Same.free {H H' : Hp} (e : Same H H') {l : Addr} (h : H' l = Option.none) : H l = Option.none := by
  cases q : H l with
  | none => rfl
  | some o =>
    rw [e l o q] at h
    cases h
theorem Same.seq {K : PySem.W.Frag} {H H' : Hp} {a : Addr} {xs : List V} (e : Same H H') (h : SqL K H a xs) : SqL K H' a xs := by
  rcases h with (h | ⟨o, h⟩) | h
  · exact .inl (.inl (e _ _ h))
  · exact .inl (.inr ⟨o, e _ _ h⟩)
  · exact .inr h
end L2
namespace L2
open PySem PySem.Spec PyProof.Rows
section
variable {X : Cx}
end
end L2
namespace L2
open PySem PySem.Spec PyProof.Rows
section
variable {κ : Type} [DecidableEq κ]
end
end L2
namespace Tim
open PySem PyProof.Rows
set_option autoImplicit false
section
variable {prog : Program} {w : World} {A : Around} {E : Value → Shared → Prop} {s : Shared} {κ : KeyKind} {kd : SortKind} {a₀ : Array Keyed}
def LtG (prog : Program) (w : World) (A : Around) (s : Shared) (κ : KeyKind) (kd : SortKind) : Prop :=
 ∀ (E : Value → Shared → Prop) (x y : Value) (a b : κ.α) (Q : Bool → Shared → Prop), κ.keyOf x = some a → κ.keyOf y = some b → Q (κ.blt a b) s → wpAny (model prog w) A (keyLt' kd x y) Q E s
def ky (κ : KeyKind) (p : Keyed) : κ.α := (κ.keyOf p.1).getD κ.dflt
def Keyd (κ : KeyKind) (p : Keyed) : Prop := ∃ a, κ.keyOf p.1 = some a
theorem Keyd.eq {p : Keyed} (h : Keyd κ p) : κ.keyOf p.1 = some (ky κ p) := by
 obtain ⟨a, e⟩ := h
 unfold ky
 rw [e]
 rfl
theorem lt_G {x y : Keyed} {st : SortSt} {Q : Option Bool → SortSt → Prop} (hO : LtG prog w A s κ kd) (hk : kindOf st = kd) (hx : Keyd κ x) (hy : Keyd κ y) (h : Q (some (κ.blt (ky κ x) (ky κ y))) st) : wpS (model prog w) A E s (lt' x y) Q st := by
 rw [lt'_eq]
 refine wpS_bind (wpS_get ?_)
 rw [hk]
 refine wpS_bind (wpS_lift (wpAny_attempt (hO _ x.1 y.1 _ _ _ hx.eq hy.eq ⟨rfl, ?_⟩)))
 exact wpS_pure h
theorem zaP {xs : Array Keyed} {i : Nat} {st : SortSt} {Q : Keyed → SortSt → Prop} (hi : i < xs.size) (h : Q xs[i] st) : wpS (model prog w) A E s (elem' xs i) Q st := by
 rw [elem'_eq, Array.getElem?_eq_getElem hi]
 exact wpS_pure h
structure TB (κ : KeyKind) (kd : SortKind) (n : Nat) (st : SortSt) : Prop where
 kind : kindOf st = kd
 keys : ∀ p ∈ (arrOf st).toList, Keyd κ p
 failed : failedOf st = none
 size : (arrOf st).size = n
def kAt (κ : KeyKind) (xs : Array Keyed) (i : Nat) : κ.α := match xs[i]? with
 | some p => ky κ p
 | none => κ.dflt
theorem za7 {xs : Array Keyed} {i : Nat} (h : i < xs.size) : kAt κ xs i = ky κ xs[i] := by
 unfold kAt
 rw [Array.getElem?_eq_getElem h]
theorem zbz {xs ys : Array Keyed} {i j : Nat} (h : xs[i]? = ys[j]?) : kAt κ xs i = kAt κ ys j := by
 unfold kAt
 rw [h]
theorem zgZ {i j n : Nat} {st : SortSt} {Q : Option Bool → SortSt → Prop} (hO : LtG prog w A s κ kd) (hB : TB κ kd n st) (hi : i < n) (hj : j < n) (h : Q (some (κ.blt (kAt κ (arrOf st) i) (kAt κ (arrOf st) j))) st) : wpS (model prog w) A E s (ltAt' i j) Q st := by
 have hi' : i < (arrOf st).size := by rw [hB.size]; exact hi
 have hj' : j < (arrOf st).size := by rw [hB.size]; exact hj
 rw [ltAt'_eq]
 refine wpS_bind (wpS_get ?_)
 refine wpS_bind (zaP hi' (wpS_bind (zaP hj' ?_)))
 refine lt_G hO hB.kind (hB.keys _ (by simp)) (hB.keys _ (by simp)) ?_
 rw [za7 hi', za7 hj'] at h
 exact h
def Up (κ : KeyKind) (xs : Array Keyed) (lo hi : Nat) : Prop := ∀ i j, lo ≤ i → i ≤ j → j < hi → κ.kle (kAt κ xs i) (kAt κ xs j)
def Dn (κ : KeyKind) (xs : Array Keyed) (lo hi : Nat) : Prop := ∀ i j, lo ≤ i → i ≤ j → j < hi → κ.kle (kAt κ xs j) (kAt κ xs i)
structure Off (xs ys : Array Keyed) (lo hi : Nat) : Prop where
 perm : ys.Perm xs
 out : ∀ k, k < lo ∨ hi ≤ k → ys[k]? = xs[k]?
theorem Off.refl (xs : Array Keyed) (lo hi : Nat) : Off xs xs lo hi := ⟨Array.Perm.refl _, fun _ _ => rfl⟩
theorem Off.trans {xs ys zs : Array Keyed} {lo hi : Nat} (a : Off xs ys lo hi) (b : Off ys zs lo hi) : Off xs zs lo hi := ⟨b.perm.trans a.perm, fun k h => (b.out k h).trans (a.out k h)⟩
theorem Off.wide {xs ys : Array Keyed} {lo hi lo' hi' : Nat} (a : Off xs ys lo hi) (h1 : lo' ≤ lo) (h2 : hi ≤ hi') : Off xs ys lo' hi' := ⟨a.perm, fun k h => a.out k (by omega)⟩
theorem Off.size {xs ys : Array Keyed} {lo hi : Nat} (a : Off xs ys lo hi) : ys.size = xs.size := a.perm.size_eq
theorem TB.off {n lo hi : Nat} {st : SortSt} {ys : Array Keyed} (hB : TB κ kd n st) (h : Off (arrOf st) ys lo hi) : TB κ kd n (setArr st ys) :=
 ⟨hB.kind, fun p hp => hB.keys p ((Array.perm_iff_toList_perm.mp h.perm).mem_iff.mp hp), hB.failed, h.size.trans hB.size⟩
theorem zc8 {xs : Array Keyed} {i j : Nat} (hj : j ≤ xs.size) : Off xs (mirror xs i j ((j - i) / 2)) i j := ⟨mirror_perm _ _ _ _, fun k hk => by rw [getElem?_mirror_all hj, if_neg (by omega)]⟩
theorem zeJ {xs : Array Keyed} {i j k : Nat} (hj : j ≤ xs.size) (hk : i ≤ k ∧ k < j) : kAt κ (mirror xs i j ((j - i) / 2)) k = kAt κ xs (i + j - 1 - k) := by
 apply zbz
 rw [getElem?_mirror_all hj, if_pos hk]
theorem zhK {xs ys : Array Keyed} {lo hi k : Nat} (h : Off xs ys lo hi) (hk : k < lo ∨ hi ≤ k) : kAt κ ys k = kAt κ xs k := zbz (h.out k hk)
theorem zgt {xs : Array Keyed} {i j : Nat} (hj : j ≤ xs.size) (he : ∀ k, i ≤ k → k < j → kAt κ xs k = kAt κ xs (j - 1)) (k : Nat) : kAt κ (mirror xs i j ((j - i) / 2)) k = kAt κ xs k := by
 by_cases hk : i ≤ k ∧ k < j
 ·rw [zeJ hj hk, he _ (by omega) (by omega), he k hk.1 hk.2]
 ·exact zhK (zc8 hj) (by omega)
theorem zf6 {i j : Nat} {st : SortSt} {Q : Unit → SortSt → Prop} (h : Q () (setArr st (mirror (arrOf st) i j ((j - i) / 2)))) : wpS (model prog w) A E s (reverseSlice' i j) Q st := by
 rw [reverseSlice'_eq]
 exact wpS_modify h
theorem zda {σ : Type} {n : String} {Q : Unit → σ → Prop} {st : σ} (h : Q () st) : wpS (model prog w) A E s (liftM (rule n) : StateT σ Sem Unit) Q st := wpS_lift (wpAny_rule ⟨rfl, h⟩)
end
end Tim
namespace Tim
open PySem PyProof.Rows
set_option autoImplicit false
section
variable {prog : Program} {w : World} {A : Around} {E : Value → Shared → Prop} {s : Shared} {κ : KeyKind} {kd : SortKind}
def zh2 (κ : KeyKind) (st : SortSt) (lo least nrem : Nat) (r : Option Nat) (st' : SortSt) : Prop :=
 ∃ n ys, r = some n ∧ least ≤ n ∧ n ≤ nrem ∧ st' = setArr st ys ∧ Off (arrOf st) ys lo (lo + n) ∧ Up κ ys lo (lo + n)
theorem up_one {xs : Array Keyed} {lo : Nat} : Up κ xs lo (lo + 1) := fun i j h1 h2 h3 => by
 have : i = j := by omega
 subst this
 exact KeyOrd.kle_refl _
theorem Up.more {xs : Array Keyed} {lo hi : Nat} (h : Up κ xs lo hi) (hlo : lo < hi) (hn : κ.kle (kAt κ xs (hi - 1)) (kAt κ xs hi)) : Up κ xs lo (hi + 1) := fun i j h1 h2 h3 => by
 by_cases hj : j < hi
 ·exact h i j h1 h2 hj
 ·have e : j = hi := by omega
  subst e
  by_cases hi' : i = j
  ·subst hi'; exact KeyOrd.kle_refl _
  ·exact KeyOrd.kle_trans (h i (j - 1) h1 (by omega) (by omega)) hn
theorem Dn.more {xs : Array Keyed} {lo hi : Nat} (h : Dn κ xs lo hi) (hlo : lo < hi) (hn : κ.kle (kAt κ xs hi) (kAt κ xs (hi - 1))) : Dn κ xs lo (hi + 1) := fun i j h1 h2 h3 => by
 by_cases hj : j < hi
 ·exact h i j h1 h2 hj
 ·have e : j = hi := by omega
  subst e
  by_cases hi' : i = j
  ·subst hi'; exact KeyOrd.kle_refl _
  ·exact KeyOrd.kle_trans hn (h i (j - 1) h1 (by omega) (by omega))
theorem wp_asc {st : SortSt} {N lo n nrem : Nat} {Q : Option (Option Nat) × Nat → SortSt → Prop} (hO : LtG prog w A s κ kd) (hB : TB κ kd N st) (hlo : lo + nrem ≤ N) (h1 : 1 ≤ n) (hn : n ≤ nrem) (hU : Up κ (arrOf st) lo (lo + n))
  (h : ∀ m, n ≤ m → m ≤ nrem → Up κ (arrOf st) lo (lo + m) → (m < nrem → κ.klt (kAt κ (arrOf st) (lo + m)) (kAt κ (arrOf st) (lo + m - 1))) → Q (none, m) st) :
  wpS (model prog w) A E s (forIn [n:nrem] ((none, n) : Option (Option Nat) × Nat) fun _ __s => do
   let __x ← ltAt' (lo + __s.snd) (lo + __s.snd - 1)
   match __x with
   | some smaller => if smaller = true then pure (ForInStep.done (none, __s.snd)) else pure (ForInStep.yield (none, __s.snd + 1))
   | _ => pure (ForInStep.done (some none, __s.snd))) Q st := by
 refine wpS_forRange (I := fun i c st' => st' = st ∧ c = (none, i) ∧ n ≤ i ∧ i ≤ nrem ∧ Up κ (arrOf st) lo (lo + i)) ?_ ?_ ⟨rfl, rfl, Nat.le_refl _, hn, hU⟩
 ·rintro i c st' hi1 hi2 ⟨rfl, rfl, h3, h4, hU'⟩
  refine wpS_bind (zgZ hO hB (by omega) (by omega) ?_)
  dsimp only
  cases e : κ.blt (kAt κ (arrOf st') (lo + i)) (kAt κ (arrOf st') (lo + i - 1)) with
  | true => exact wpS_pure (h i h3 h4 hU' fun _ => e)
  | false => exact wpS_pure ⟨rfl, rfl, by omega, by omega, hU'.more (by omega) e⟩
 ·rintro c st' ⟨rfl, rfl, h3, h4, hU'⟩
  exact h _ h3 h4 hU' fun z => absurd z (by omega)
theorem zjp {st : SortSt} {N lo n nrem : Nat} {Q : Option Nat → SortSt → Prop} {k : Option (Option Nat) × Nat → StateT SortSt Sem (Option Nat)} (hk : ∀ m, k (none, m) = pure (some m)) (hO : LtG prog w A s κ kd) (hB : TB κ kd N st) (hlo : lo + nrem ≤ N) (h1 : 1 ≤ n) (hn : n ≤ nrem) (hD : Dn κ (arrOf st) lo (lo + n))
  (h : ∀ r st', zh2 κ st lo n nrem r st' → Q r st') :
  wpS (model prog w) A E s (do
   reverseSlice' lo (lo + n)
   let c ← forIn [n:nrem] ((none, n) : Option (Option Nat) × Nat) fun _ __s => do
    let __x ← ltAt' (lo + __s.snd) (lo + __s.snd - 1)
    match __x with
    | some smaller => if smaller = true then pure (ForInStep.done (none, __s.snd)) else pure (ForInStep.yield (none, __s.snd + 1))
    | _ => pure (ForInStep.done (some none, __s.snd))
   k c) Q st := by
 have hz : lo + n ≤ (arrOf st).size := by rw [hB.size]; omega
 have hoff := zc8 (xs := arrOf st) (i := lo) (j := lo + n) hz
 refine wpS_bind (zf6 ?_)
 refine wpS_bind (wp_asc hO (hB.off hoff) hlo h1 hn (fun i j q1 q2 q3 => ?_) fun m m1 m2 hU _ => ?_)
 ·rw [zeJ hz (by omega), zeJ hz (by omega)]
  exact hD _ _ (by omega) (by omega) (by omega)
 ·rw [hk]
  exact wpS_pure (h _ _ ⟨m, _, rfl, m1, m2, rfl, hoff.wide (Nat.le_refl _) (by omega), hU⟩)
theorem zjq {st : SortSt} {N lo n nrem : Nat} {Q : Option (Option Nat) × Nat × Nat → SortSt → Prop} (hO : LtG prog w A s κ kd) (hB : TB κ kd N st) (hlo : lo + nrem ≤ N) (h1 : 1 ≤ n) (hn : n ≤ nrem) (hD : Dn κ (arrOf st) lo (lo + n))
  (h : ∀ m neq ys, n ≤ m → m ≤ nrem → neq < m → Off (arrOf st) ys lo (lo + m) → Dn κ ys lo (lo + m) → (∀ k, lo + m - (neq + 1) ≤ k → k < lo + m → kAt κ ys k = kAt κ ys (lo + m - 1)) → Q (none, m, neq) (setArr st ys)) :
  wpS (model prog w) A E s (forIn [n:nrem] ((none, n, 0) : Option (Option Nat) × Nat × Nat) fun _ __s => do
   let __x ← ltAt' (lo + __s.snd.fst) (lo + __s.snd.fst - 1)
   match __x with
   | some smaller =>
    if smaller = true then
     if __s.snd.snd > 0 then do
      let _ ← reverseSlice' (lo + __s.snd.fst - (__s.snd.snd + 1)) (lo + __s.snd.fst)
      pure (ForInStep.yield (none, __s.snd.fst + 1, 0))
     else pure (ForInStep.yield (none, __s.snd.fst + 1, 0))
    else do
     let __x ← ltAt' (lo + __s.snd.fst - 1) (lo + __s.snd.fst)
     match __x with
     | some larger =>
      if larger = true then pure (ForInStep.done (none, __s.snd.fst, __s.snd.snd))
      else pure (ForInStep.yield (none, __s.snd.fst + 1, __s.snd.snd + 1))
     | _ => pure (ForInStep.done (some none, __s.snd.fst, __s.snd.snd))
   | _ => pure (ForInStep.done (some none, __s.snd.fst, __s.snd.snd))) Q st := by
 refine wpS_forRange (I := fun i c st' => ∃ neq ys, st' = setArr st ys ∧ c = (none, i, neq) ∧ n ≤ i ∧ i ≤ nrem ∧ neq < i ∧ Off (arrOf st) ys lo (lo + i) ∧ Dn κ ys lo (lo + i) ∧ ∀ k, lo + i - (neq + 1) ≤ k → k < lo + i → kAt κ ys k = kAt κ ys (lo + i - 1)) ?_ ?_ ⟨0, arrOf st, rfl, rfl, Nat.le_refl _, hn, h1, Off.refl _ _ _, hD, fun k q1 q2 => by rw [show k = lo + n - 1 by omega]⟩
 ·rintro i c st' hi1 hi2 ⟨neq, ys, rfl, rfl, h3, h4, h5, ho, hD', he⟩
  have hB' : TB κ kd N (setArr st ys) := hB.off ho
  have hz : lo + i ≤ ys.size := by rw [ho.size, hB.size]; omega
  dsimp only
  refine wpS_bind (zgZ hO hB' (by omega) (by omega) ?_)
  dsimp only
  cases e : κ.blt (kAt κ ys (lo + i)) (kAt κ ys (lo + i - 1)) with
  | true =>
   simp only [if_true]
   by_cases hq : neq > 0
   ·rw [if_pos hq]
    have hoff := zc8 (xs := ys) (i := lo + i - (neq + 1)) (j := lo + i) hz
    have hk := zgt (κ := κ) hz he
    refine wpS_bind (zf6 (wpS_pure ⟨0, _, rfl, rfl, by omega, by omega, by omega, ho.wide (Nat.le_refl _) (by omega) |>.trans (hoff.wide (by omega) (by omega)), ?_, fun k q1 q2 => by rw [show k = lo + (i + 1) - 1 by omega]⟩))
    have : Dn κ (mirror ys (lo + i - (neq + 1)) (lo + i) ((lo + i - (lo + i - (neq + 1))) / 2)) lo (lo + i) := fun a b q1 q2 q3 => by rw [hk, hk]; exact hD' a b q1 q2 q3
    exact this.more (by omega) (by rw [hk, hk]; exact KeyOrd.kle_of_klt e)
   ·rw [if_neg hq]
    exact wpS_pure ⟨0, ys, rfl, rfl, by omega, by omega, by omega, ho.wide (Nat.le_refl _) (by omega), hD'.more (by omega) (KeyOrd.kle_of_klt e), fun k q1 q2 => by rw [show k = lo + (i + 1) - 1 by omega]⟩
  | false =>
   simp only [Bool.false_eq_true, if_false]
   refine wpS_bind (zgZ hO hB' (by omega) (by omega) ?_)
   dsimp only
   cases e2 : κ.blt (kAt κ ys (lo + i - 1)) (kAt κ ys (lo + i)) with
   | true => exact wpS_pure (h i neq ys h3 h4 h5 ho hD' he)
   | false =>
    have eq : kAt κ ys (lo + i) = kAt κ ys (lo + i - 1) := κ.total _ _ e e2
    refine wpS_pure ⟨neq + 1, ys, rfl, rfl, by omega, by omega, by omega, ho.wide (Nat.le_refl _) (by omega), hD'.more (by omega) (by rw [eq]; exact KeyOrd.kle_refl _), fun k q1 q2 => ?_⟩
    rw [show lo + (i + 1) - 1 = lo + i by omega, eq]
    by_cases hk : k = lo + i
    ·rw [hk]; exact eq
    ·exact he k (by omega) (by omega)
 ·rintro c st' ⟨neq, ys, rfl, rfl, h3, h4, h5, ho, hD', he⟩
  exact h _ neq ys h3 h4 h5 ho hD' he
theorem zh7 {st : SortSt} {N lo n nrem m neq : Nat} {ys : Array Keyed} {Q : Option Nat → SortSt → Prop} {t : StateT SortSt Sem (Option Nat)} (hB : TB κ kd N st) (hlo : lo + nrem ≤ N) (m1 : n + 1 ≤ m) (m2 : m ≤ nrem) (m3 : neq < m)
  (ho : Off (arrOf st) ys lo (lo + m)) (hD : Dn κ ys lo (lo + m)) (he : ∀ k, lo + m - (neq + 1) ≤ k → k < lo + m → kAt κ ys k = kAt κ ys (lo + m - 1)) (h : ∀ r st', zh2 κ st lo (n + 1) nrem r st' → Q r st')
  (ht : ∀ st', TB κ kd N st' → Dn κ (arrOf st') lo (lo + m) → (∀ r st'', zh2 κ st' lo m nrem r st'' → Q r st'') → wpS (model prog w) A E s t Q st') :
  wpS (model prog w) A E s (if neq > 0 then do
   let _ ← reverseSlice' (lo + m - (neq + 1)) (lo + m)
   t else t) Q (setArr st ys) := by
 have hz : lo + m ≤ ys.size := by rw [ho.size, hB.size]; omega
 have back : ∀ zs, Off (arrOf st) zs lo (lo + m) → ∀ r st', zh2 κ (setArr st zs) lo m nrem r st' → Q r st' := fun zs hz r st' hr => by
  obtain ⟨q, vs, e1, e2, e3, e4, e5, e6⟩ := hr
  exact h r st' ⟨q, vs, e1, by omega, e3, e4, (hz.wide (Nat.le_refl _) (by omega)).trans e5, e6⟩
 by_cases hq : neq > 0
 ·rw [if_pos hq]
  have hoff := zc8 (xs := ys) (i := lo + m - (neq + 1)) (j := lo + m) hz
  have hk := zgt (κ := κ) hz he
  have ho2 := ho.trans (hoff.wide (by omega) (Nat.le_refl _))
  refine wpS_bind (zf6 ?_)
  refine ht _ (hB.off ho2) (fun a b q1 q2 q3 => ?_) (back _ ho2)
  show κ.kle (kAt κ (mirror ys (lo + m - (neq + 1)) (lo + m) ((lo + m - (lo + m - (neq + 1))) / 2)) b) (kAt κ (mirror ys (lo + m - (neq + 1)) (lo + m) ((lo + m - (lo + m - (neq + 1))) / 2)) a)
  rw [hk, hk]
  exact hD a b q1 q2 q3
 ·rw [if_neg hq]
  exact ht _ (hB.off ho) hD (back _ ho)
theorem zhp {st : SortSt} {N lo nrem : Nat} {Q : Option Nat → SortSt → Prop} (hO : LtG prog w A s κ kd) (hB : TB κ kd N st) (hlo : lo + nrem ≤ N) (h1 : 1 ≤ nrem) (h : ∀ r st', zh2 κ st lo 1 nrem r st' → Q r st') :
  wpS (model prog w) A E s (countRun' lo nrem) Q st := by
 rw [countRun'_eq]
 refine wpS_bind (wp_asc hO hB hlo (Nat.le_refl 1) h1 up_one fun m m1 m2 hU hnext => ?_)
 dsimp only
 by_cases hm : m = nrem
 ·rw [if_pos (by simpa using hm)]
  exact wpS_pure (h _ _ ⟨m, arrOf st, rfl, m1, m2, rfl, Off.refl _ _ _, hU⟩)
 ·rw [if_neg (by simpa using hm)]
  have hnx := hnext (by omega)
  by_cases hm1 : m > 1
  ·rw [if_pos hm1]
   refine wpS_bind (zgZ hO hB (by omega) (by omega) ?_)
   cases e : κ.blt (kAt κ (arrOf st) lo) (kAt κ (arrOf st) (lo + m - 1)) with
   | true =>
    simp only [if_true]
    exact wpS_pure (h _ _ ⟨m, arrOf st, rfl, m1, m2, rfl, Off.refl _ _ _, hU⟩)
   | false =>
    simp only [Bool.false_eq_true, if_false]
    have hz : lo + m ≤ (arrOf st).size := by rw [hB.size]; omega
    have hoff := zc8 (xs := arrOf st) (i := lo) (j := lo + m) hz
    have all : ∀ k, lo ≤ k → k < lo + m → kAt κ (arrOf st) k = kAt κ (arrOf st) (lo + m - 1) := fun k q1 q2 =>
     KeyOrd.kle_antisymm (hU k (lo + m - 1) q1 (by omega) (by omega)) (KeyOrd.kle_trans (show κ.kle (kAt κ (arrOf st) (lo + m - 1)) (kAt κ (arrOf st) lo) from e) (hU lo k (Nat.le_refl _) q1 q2))
    have hk := zgt (κ := κ) hz all
    refine wpS_bind (zf6 ?_)
    have fin : ∀ r st', zh2 κ (setArr st (mirror (arrOf st) lo (lo + m) ((lo + m - lo) / 2))) lo (m + 1) nrem r st' → Q r st' := fun r st' hr => by
     obtain ⟨q, vs, e1, e2, e3, e4, e5, e6⟩ := hr
     exact h r st' ⟨q, vs, e1, by omega, e3, e4, (hoff.wide (Nat.le_refl _) (by omega)).trans e5, e6⟩
    refine wpS_bind (zda (wpS_bind (zjq hO (hB.off hoff) hlo (by omega) (by omega) ?_ fun m' neq ys p1 p2 p3 ho hD' he => ?_)))
    rotate_left
    ·dsimp only
     exact zh7 (n := m) (hB.off hoff) hlo p1 p2 p3 ho hD' he fin fun st' hB' hDD hh => zjp (fun _ => rfl) hO hB' hlo (by omega) p2 hDD hh
    ·have d0 : Dn κ (arrOf st) lo (lo + m) := fun a b q1 q2 q3 => by rw [all a q1 (by omega), all b (by omega) q3]; exact KeyOrd.kle_refl _
     have d1 := d0.more (by omega) (KeyOrd.kle_of_klt hnx)
     intro a b q1 q2 q3
     show κ.kle (kAt κ (mirror (arrOf st) lo (lo + m) ((lo + m - lo) / 2)) b) (kAt κ (mirror (arrOf st) lo (lo + m) ((lo + m - lo) / 2)) a)
     rw [hk, hk]
     exact d1 a b q1 q2 (by omega)
  ·rw [if_neg hm1]
   have e1 : m = 1 := by omega
   subst e1
   have fin : ∀ r st', zh2 κ st lo (1 + 1) nrem r st' → Q r st' := fun r st' hr => by
    obtain ⟨q, vs, e1, e2, e3, e4, e5, e6⟩ := hr
    exact h r st' ⟨q, vs, e1, by omega, e3, e4, e5, e6⟩
   refine wpS_bind (zda (wpS_bind (zjq hO hB hlo (by omega) (by omega) ?_ fun m' neq ys p1 p2 p3 ho hD' he => ?_)))
   rotate_left
   ·dsimp only
    exact zh7 (n := 1) hB hlo p1 p2 p3 ho hD' he fin fun st' hB' hDD hh => zjp (fun _ => rfl) hO hB' hlo (by omega) p2 hDD hh
   ·intro a b q1 q2 q3
    by_cases hab : a = b
    ·subst hab; exact KeyOrd.kle_refl _
    ·have ea : a = lo + 1 - 1 := by omega
     have eb : b = lo + 1 := by omega
     rw [ea, eb]
     exact KeyOrd.kle_of_klt hnx
end
end Tim
namespace Tim
open PySem PyProof.Rows
set_option autoImplicit false
section
variable {prog : Program} {w : World} {A : Around} {E : Value → Shared → Prop} {s : Shared} {κ : KeyKind} {kd : SortKind}
theorem zjb {xs : Array Keyed} {src dst hi : Nat} (hs : src < xs.size) (hd : dst ≤ src) (hh : src < hi) : Off xs (bubble xs src (src - dst)) dst hi :=
 ⟨bubble_perm _ _ _, fun k hk => by
  rw [getElem?_bubble hs _ (by omega)]
  rw [if_neg (by omega), if_neg (by omega)]⟩
theorem zfT {xs : Array Keyed} {src dst : Nat} (hs : src < xs.size) (hd : dst ≤ src) (k : Nat) : kAt κ (bubble xs src (src - dst)) k = if k = dst then kAt κ xs src else if dst < k ∧ k ≤ src then kAt κ xs (k - 1) else kAt κ xs k := by
 have e := getElem?_bubble hs (src - dst) (by omega) k
 rw [show src - (src - dst) = dst by omega] at e
 by_cases h1 : k = dst
 ·rw [if_pos h1] at e ⊢; exact zbz e
 ·rw [if_neg h1] at e ⊢
  by_cases h2 : dst < k ∧ k ≤ src
  ·rw [if_pos h2] at e ⊢; exact zbz e
  ·rw [if_neg h2] at e ⊢; exact zbz e
theorem zf5 {st : SortSt} {N lo n ok : Nat} {Q : Bool → SortSt → Prop} (hO : LtG prog w A s κ kd) (hB : TB κ kd N st) (hlo : lo + n ≤ N) (hok : ok ≤ n) (hU : Up κ (arrOf st) lo (lo + ok))
  (h : ∀ ys, Off (arrOf st) ys lo (lo + n) → Up κ ys lo (lo + n) → Q true (setArr st ys)) : wpS (model prog w) A E s (binarySort' lo n ok) Q st := by
 rw [binarySort'_eq]
 refine wpS_bind (wpS_mono (wpS_forRange (I := fun k c st' => c = (none, ()) ∧ ∃ ys, st' = setArr st ys ∧ Off (arrOf st) ys lo (lo + n) ∧ Up κ ys lo (lo + min k n))
  (Q := fun c st' => c = (none, ()) ∧ ∃ ys, st' = setArr st ys ∧ Off (arrOf st) ys lo (lo + n) ∧ Up κ ys lo (lo + n)) ?step ?fin ?init) ?post)
 case post =>
  rintro c st' ⟨rfl, ys, rfl, ho, hu⟩
  exact wpS_pure (h ys ho hu)
 case init =>
  refine ⟨rfl, arrOf st, rfl, Off.refl _ _ _, fun i j h1 h2 h3 => ?_⟩
  by_cases hz : j < lo + ok
  ·exact hU i j h1 h2 hz
  ·have : i = j := by omega
   subst this
   exact KeyOrd.kle_refl _
 case fin =>
  rintro c st' ⟨rfl, ys, rfl, ho, hu⟩
  refine ⟨rfl, ys, rfl, ho, ?_⟩
  rwa [show min (max (max ok 1) n) n = n by omega] at hu
 case step =>
  rintro k c st' hk1 hk2 ⟨rfl, ys, rfl, ho, hu⟩
  rw [show min k n = k by omega] at hu
  have hB' : TB κ kd N (setArr st ys) := hB.off ho
  have hz : ys.size = N := by rw [ho.size, hB.size]
  refine wpS_bind (wpS_mono (wpS_forRange (I := fun x c st'' => st'' = setArr st ys ∧ ∃ l r, c = (none, l, r) ∧ l ≤ r ∧ r ≤ k ∧ r - l ≤ k - x ∧
    (∀ i, i < l → κ.kle (kAt κ ys (lo + i)) (kAt κ ys (lo + k))) ∧ (∀ i, r ≤ i → i < k → κ.klt (kAt κ ys (lo + k)) (kAt κ ys (lo + i))))
   (Q := fun c st'' => st'' = setArr st ys ∧ ∃ l r, c = (none, l, r) ∧ l ≤ k ∧
    (∀ i, i < l → κ.kle (kAt κ ys (lo + i)) (kAt κ ys (lo + k))) ∧ (∀ i, l ≤ i → i < k → κ.klt (kAt κ ys (lo + k)) (kAt κ ys (lo + i)))) ?istep ?ifin ?iinit) ?ipost)
  case iinit => exact ⟨rfl, 0, k, rfl, by omega, by omega, by omega, fun i hi => by omega, fun i h1 h2 => by omega⟩
  case ifin =>
   rintro c st'' ⟨rfl, l, r, rfl, hlr, hrk, hm, a1, a2⟩
   have : l = r := by omega
   subst this
   exact ⟨rfl, l, l, rfl, hrk, a1, a2⟩
  case istep =>
   rintro x c st'' _ hxk ⟨rfl, l, r, rfl, hlr, hrk, hm, a1, a2⟩
   dsimp only
   by_cases hge : l ≥ r
   ·rw [if_pos hge]
    have : l = r := by omega
    subst this
    exact wpS_pure ⟨rfl, l, l, rfl, hrk, a1, a2⟩
   ·rw [if_neg hge]
    refine wpS_bind (zgZ hO hB' (by omega) (by omega) ?_)
    dsimp only
    cases e : κ.blt (kAt κ ys (lo + k)) (kAt κ ys (lo + (l + r) / 2)) with
    | true =>
     refine wpS_pure ⟨rfl, l, (l + r) / 2, rfl, by omega, by omega, by omega, a1, fun i h1 h2 => ?_⟩
     exact KeyOrd.klt_of_klt_of_kle e (hu _ _ (by omega) (by omega) (by omega))
    | false =>
     refine wpS_pure ⟨rfl, (l + r) / 2 + 1, r, rfl, by omega, by omega, by omega, fun i h1 => ?_, a2⟩
     exact KeyOrd.kle_trans (hu (lo + i) (lo + (l + r) / 2) (by omega) (by omega) (by omega)) (show κ.kle (kAt κ ys (lo + (l + r) / 2)) (kAt κ ys (lo + k)) from e)
  case ipost =>
   rintro c st'' ⟨rfl, l, r, rfl, hlk, a1, a2⟩
   dsimp only
   rw [moveDown'_eq]
   refine wpS_bind (wpS_modify (wpS_pure ⟨rfl, _, rfl, ho.trans ((zjb (hi := lo + n) (by rw [hz]; omega) (by omega) (by omega)).wide (by omega) (Nat.le_refl _)), ?_⟩))
   rw [show min (k + 1) n = k + 1 by omega]
   intro i j h1 h2 h3
   show κ.kle (kAt κ (bubble ys (lo + k) (lo + k - (lo + l))) i) (kAt κ (bubble ys (lo + k) (lo + k - (lo + l))) j)
   rw [zfT (by rw [hz]; omega) (by omega), zfT (by rw [hz]; omega) (by omega)]
   have lowS : ∀ i, lo ≤ i → i < lo + l → κ.kle (kAt κ ys i) (kAt κ ys (lo + k)) := fun i q1 q2 => by
    have := a1 (i - lo) (by omega)
    rw [show lo + (i - lo) = i by omega] at this
    exact this
   have highS : ∀ i, lo + l ≤ i → i < lo + k → κ.kle (kAt κ ys (lo + k)) (kAt κ ys i) := fun i q1 q2 => by
    have := a2 (i - lo) (by omega) (by omega)
    rw [show lo + (i - lo) = i by omega] at this
    exact KeyOrd.kle_of_klt this
   by_cases i1 : i = lo + l
   ·rw [if_pos i1]
    by_cases j1 : j = lo + l
    ·rw [if_pos j1]; exact KeyOrd.kle_refl _
    ·rw [if_neg j1, if_pos (by omega)]
     exact highS _ (by omega) (by omega)
   ·rw [if_neg i1]
    by_cases i2 : lo + l < i ∧ i ≤ lo + k
    ·rw [if_pos i2, if_neg (by omega), if_pos (by omega)]
     exact hu _ _ (by omega) (by omega) (by omega)
    ·rw [if_neg i2]
     by_cases j1 : j = lo + l
     ·rw [if_pos j1]
      exact lowS i h1 (by omega)
     ·rw [if_neg j1]
      by_cases j2 : lo + l < j ∧ j ≤ lo + k
      ·rw [if_pos j2]
       exact hu _ _ h1 (by omega) (by omega)
      ·rw [if_neg j2]
       exact hu _ _ h1 h2 (by omega)
end
end Tim
namespace Tim
open PySem PyProof.Rows
set_option autoImplicit false
section
variable {M : Model} {A : Around} {E : Value → Shared → Prop} {s : Shared} {st : SortSt} {n hint : Nat} {p : Nat → Bool}
abbrev C2 := Option (Option Nat) × Nat × Nat
theorem wp_right {Q : C2 → SortSt → Prop} {f : Nat → C2 → StateT SortSt Sem (ForInStep C2)} (hn : hint < n) (hp : p hint = true)
  (f1 : ∀ x l o, o ≥ n - hint → f x (none, l, o) = pure (.done (none, l, o)))
  (f2 : ∀ x l o (R : ForInStep C2 → SortSt → Prop), o < n - hint → (p (hint + o) = true → R (.yield (none, o, 2 * o + 1)) st) → (p (hint + o) = false → R (.done (none, l, o)) st) → wpS M A E s (f x (none, l, o)) R st)
  (h : ∀ l o, l < o → hint + l < n → p (hint + l) = true → (o < n - hint → p (hint + o) = false) → Q (none, l, o) st) : wpS M A E s (forIn [:n] ((none, 0, 1) : C2) f) Q st := by
 refine wpS_forRange (I := fun i c st' => st' = st ∧ ∃ l o, c = (none, l, o) ∧ l < o ∧ i + 1 ≤ o ∧ hint + l < n ∧ p (hint + l) = true) ?_ ?_ ⟨rfl, 0, 1, rfl, by omega, by omega, by omega, hp⟩
 ·rintro i c st' _ hi ⟨rfl, l, o, rfl, h1, h2, h3, h4⟩
  by_cases ho : o ≥ n - hint
  ·rw [f1 i l o ho]
   exact wpS_pure (h l o h1 h3 h4 fun z => absurd z (by omega))
  ·refine f2 i l o _ (by omega) (fun e => ?_) fun e => ?_
   ·exact ⟨rfl, o, 2 * o + 1, rfl, by omega, by omega, by omega, e⟩
   ·exact h l o h1 h3 h4 fun _ => e
 ·rintro c st' ⟨rfl, l, o, rfl, h1, h2, h3, h4⟩
  exact h l o h1 h3 h4 fun z => absurd z (by omega)
theorem wp_left {Q : C2 → SortSt → Prop} {f : Nat → C2 → StateT SortSt Sem (ForInStep C2)} (hn : hint < n) (hp : p hint = false)
  (f1 : ∀ x l o, o ≥ hint + 1 → f x (none, l, o) = pure (.done (none, l, o)))
  (f2 : ∀ x l o (R : ForInStep C2 → SortSt → Prop), o < hint + 1 → (p (hint - o) = false → R (.yield (none, o, 2 * o + 1)) st) → (p (hint - o) = true → R (.done (none, l, o)) st) → wpS M A E s (f x (none, l, o)) R st)
  (h : ∀ l o, l < o → l ≤ hint → p (hint - l) = false → (o < hint + 1 → p (hint - o) = true) → Q (none, l, o) st) : wpS M A E s (forIn [:n] ((none, 0, 1) : C2) f) Q st := by
 refine wpS_forRange (I := fun i c st' => st' = st ∧ ∃ l o, c = (none, l, o) ∧ l < o ∧ i + 1 ≤ o ∧ l ≤ hint ∧ p (hint - l) = false) ?_ ?_ ⟨rfl, 0, 1, rfl, by omega, by omega, by omega, hp⟩
 ·rintro i c st' _ hi ⟨rfl, l, o, rfl, h1, h2, h3, h4⟩
  by_cases ho : o ≥ hint + 1
  ·rw [f1 i l o ho]
   exact wpS_pure (h l o h1 h3 h4 fun z => absurd z (by omega))
  ·refine f2 i l o _ (by omega) (fun e => ?_) fun e => ?_
   ·exact ⟨rfl, o, 2 * o + 1, rfl, by omega, by omega, by omega, e⟩
   ·exact h l o h1 h3 h4 fun _ => e
 ·rintro c st' ⟨rfl, l, o, rfl, h1, h2, h3, h4⟩
  exact h l o h1 h3 h4 fun z => absurd z (by omega)
theorem zh6 {Q : Option Nat → SortSt → Prop} {lo hi : Nat} {f : Nat → C2 → StateT SortSt Sem (ForInStep C2)} {k : C2 → StateT SortSt Sem (Option Nat)}
  (anti : ∀ i j, i ≤ j → j < n → p j = true → p i = true) (h1 : lo ≤ hi) (h2 : hi ≤ n) (hl : ∀ i, i < lo → p i = true) (hh : ∀ i, hi ≤ i → i < n → p i = false)
  (f1 : ∀ x l r, l ≥ r → f x (none, l, r) = pure (.done (none, l, r)))
  (f2 : ∀ x l r (R : ForInStep C2 → SortSt → Prop), l < r → r ≤ n → (p (l + (r - l) / 2) = true → R (.yield (none, l + (r - l) / 2 + 1, r)) st) → (p (l + (r - l) / 2) = false → R (.yield (none, l, l + (r - l) / 2)) st) → wpS M A E s (f x (none, l, r)) R st)
  (hk : ∀ l r, k (none, l, r) = pure (some r))
  (h : ∀ m, m ≤ n → (∀ i, i < m → p i = true) → (∀ i, m ≤ i → i < n → p i = false) → Q (some m) st) : wpS M A E s (do let c ← forIn [:n] ((none, lo, hi) : C2) f; k c) Q st := by
 refine wpS_bind (wpS_mono (wpS_forRange (I := fun x c st' => st' = st ∧ ∃ l r, c = (none, l, r) ∧ l ≤ r ∧ r ≤ n ∧ r - l ≤ n - x ∧ (∀ i, i < l → p i = true) ∧ ∀ i, r ≤ i → i < n → p i = false)
  (Q := fun c st' => st' = st ∧ ∃ m, c = (none, m, m) ∧ m ≤ n ∧ (∀ i, i < m → p i = true) ∧ ∀ i, m ≤ i → i < n → p i = false) ?_ ?_ ⟨rfl, lo, hi, rfl, h1, h2, by omega, hl, hh⟩) ?_)
 ·rintro x c st' _ hx ⟨rfl, l, r, rfl, a1, a2, a3, a4, a5⟩
  by_cases hge : l ≥ r
  ·rw [f1 x l r hge]
   have : l = r := by omega
   subst this
   exact wpS_pure ⟨rfl, l, rfl, a2, a4, a5⟩
  ·refine f2 x l r _ (by omega) a2 (fun e => ?_) fun e => ?_
   ·exact ⟨rfl, _, r, rfl, by omega, a2, by omega, fun i hi => anti i _ (by omega) (by omega) e, a5⟩
   ·refine ⟨rfl, l, _, rfl, by omega, by omega, by omega, a4, fun i q1 q2 => ?_⟩
    cases z : p i with
    | false => rfl
    | true => rw [anti _ i q1 q2 z] at e; cases e
 ·rintro c st' ⟨rfl, l, r, rfl, a1, a2, a3, a4, a5⟩
  have : l = r := by omega
  subst this
  exact ⟨rfl, l, rfl, a2, a4, a5⟩
 ·rintro c st' ⟨rfl, m, rfl, a2, a4, a5⟩
  rw [hk]
  exact wpS_pure (h m a2 a4 a5)
end
def zhM : Bool → Keyed → Array Keyed → Nat → Nat → Nat → StateT SortSt Sem (Option Nat) := sortPriv% PySem.Builtin.gallop
section
variable {prog : Program} {w : World} {A : Around} {E : Value → Shared → Prop} {s : Shared} {κ : KeyKind} {kd : SortKind}
def bey (κ : KeyKind) (left : Bool) (key : Keyed) (arr : Array Keyed) (base i : Nat) : Bool := if left = true then κ.blt (kAt κ arr (base + i)) (ky κ key) else !κ.blt (ky κ key) (kAt κ arr (base + i))
theorem zb8 {st : SortSt} {left : Bool} {key : Keyed} {arr : Array Keyed} {base n hint : Nat} {Q : Option Nat → SortSt → Prop} (hO : LtG prog w A s κ kd) (hkd : kindOf st = kd) (hkey : Keyd κ key) (hks : ∀ q ∈ arr.toList, Keyd κ q)
  (hz : base + n ≤ arr.size) (hn : hint < n) (hU : Up κ arr base (base + n))
  (h : ∀ m, m ≤ n → (∀ i, i < m → bey κ left key arr base i = true) → (∀ i, m ≤ i → i < n → bey κ left key arr base i = false) → Q (some m) st) : wpS (model prog w) A E s (zhM left key arr base n hint) Q st := by
 have anti : ∀ i j, i ≤ j → j < n → bey κ left key arr base j = true → bey κ left key arr base i = true := by
  intro i j hij hj
  have hle := hU (base + i) (base + j) (by omega) (by omega) (by omega)
  unfold bey
  cases left with
  | true =>
   simp only [if_true]
   intro e
   exact KeyOrd.klt_of_kle_of_klt hle e
  | false =>
   simp only [Bool.false_eq_true, if_false]
   intro e
   cases z : κ.blt (ky κ key) (kAt κ arr (base + i)) with
   | false => rfl
   | true =>
    have : κ.blt (ky κ key) (kAt κ arr (base + j)) = true := KeyOrd.klt_of_klt_of_kle z hle
    rw [this] at e
    cases e
 have hb : ∀ i (R : Option Bool → SortSt → Prop), i < n → R (some (bey κ left key arr base i)) st → wpS (model prog w) A E s (do
   let x ← elem' arr (base + i)
   if left = true then lt' x key else do
    let r ← lt' key x
    pure (Option.map (fun b => !b) r)) R st := fun i R hi hR => by
  have hi' : base + i < arr.size := by omega
  refine wpS_bind (zaP hi' ?_)
  have hkx : Keyd κ arr[base + i] := hks _ (by simp)
  unfold bey at hR
  rw [za7 hi'] at hR
  cases left with
  | true =>
   rw [if_pos rfl] at hR ⊢
   exact lt_G hO hkd hkx hkey hR
  | false =>
   rw [if_neg (by decide)] at hR ⊢
   exact wpS_bind (lt_G hO hkd hkey hkx (wpS_pure hR))
 refine wpS_bind (hb hint _ hn ?_)
 dsimp only
 generalize bey κ left key arr base = p at *
 cases e0 : p hint with
 | true =>
  simp only [if_true]
  refine wpS_bind (wp_right (p := p) hn e0 (fun x l o ho => ?_) (fun x l o R ho r1 r2 => ?_) fun l o a1 a2 a3 a4 => ?_)
  ·dsimp only
   rw [if_pos ho]
  ·dsimp only
   rw [if_neg (by omega)]
   refine wpS_bind (hb (hint + o) _ (by omega) ?_)
   dsimp only
   cases e : p (hint + o) with
   | true => exact wpS_pure (r1 e)
   | false => exact wpS_pure (r2 e)
  ·dsimp only
   refine zh6 (p := p) anti (by omega) (by omega) (fun i hi => anti i (hint + l) (by omega) a2 a3) (fun i q1 q2 => ?_) (fun x l r hge => ?_) (fun x l r R q1 q2 r1 r2 => ?_) (fun _ _ => rfl) h
   ·by_cases ho : o < n - hint
    ·cases z : p i with
     | false => rfl
     | true =>
      have := anti (hint + o) i (by omega) q2 z
      rw [a4 ho] at this
      cases this
    ·exact absurd q2 (by omega)
   ·dsimp only
    rw [if_pos hge]
   ·dsimp only
    rw [if_neg (by omega)]
    refine wpS_bind (hb _ _ (by omega) ?_)
    dsimp only
    cases e : p (l + (r - l) / 2) with
    | true => exact wpS_pure (r1 e)
    | false => exact wpS_pure (r2 e)
 | false =>
  simp only [Bool.false_eq_true, if_false]
  refine wpS_bind (wp_left (p := p) hn e0 (fun x l o ho => ?_) (fun x l o R ho r1 r2 => ?_) fun l o a1 a2 a3 a4 => ?_)
  ·dsimp only
   rw [if_pos ho]
  ·dsimp only
   rw [if_neg (by omega)]
   refine wpS_bind (hb (hint - o) _ (by omega) ?_)
   dsimp only
   cases e : p (hint - o) with
   | true => exact wpS_pure (r2 e)
   | false => exact wpS_pure (r1 e)
  ·dsimp only
   refine zh6 (p := p) anti (by omega) (by omega) (fun i hi => ?_) (fun i q1 q2 => ?_) (fun x l r hge => ?_) (fun x l r R q1 q2 r1 r2 => ?_) (fun _ _ => rfl) h
   ·by_cases ho : o < hint + 1
    ·exact anti i (hint - o) (by omega) (by omega) (a4 ho)
    ·exact absurd hi (by omega)
   ·cases z : p i with
    | false => rfl
    | true =>
     have := anti (hint - l) i (by omega) q2 z
     rw [a3] at this
     cases this
   ·dsimp only
    rw [if_pos hge]
   ·dsimp only
    rw [if_neg (by omega)]
    refine wpS_bind (hb _ _ (by omega) ?_)
    dsimp only
    cases e : p (l + (r - l) / 2) with
    | true => exact wpS_pure (r1 e)
    | false => exact wpS_pure (r2 e)
end
end Tim
namespace Tim
open PySem PyProof.Rows
set_option autoImplicit false
section
variable {κ : KeyKind}
def le (κ : KeyKind) (x y : Keyed) : Prop := κ.kle (ky κ x) (ky κ y)
theorem le_refl (x : Keyed) : le κ x x := KeyOrd.kle_refl _
theorem le_trans {x y z : Keyed} (h1 : le κ x y) (h2 : le κ y z) : le κ x z := KeyOrd.kle_trans h1 h2
abbrev SL (κ : KeyKind) (l : List Keyed) : Prop := l.Pairwise (le κ)
theorem SL.drop {l : List Keyed} (h : SL κ l) (n : Nat) : SL κ (l.drop n) := h.sublist (List.drop_sublist n l)
theorem SL.take {l : List Keyed} (h : SL κ l) (n : Nat) : SL κ (l.take n) := h.sublist (List.take_sublist n l)
theorem zeu {xs : Array Keyed} {i : Nat} (h : i < xs.size) : xs.toList.drop i = xs[i] :: xs.toList.drop (i + 1) := by
 have h' : i < xs.toList.length := by simpa using h
 rw [List.drop_eq_getElem_cons h']
 simp
theorem zcR {xs : Array Keyed} {i : Nat} (hs : SL κ xs.toList) (h : i < xs.size) : ∀ y ∈ xs.toList.drop i, le κ xs[i] y := by
 intro y hy
 have q := hs.drop i
 rw [zeu h] at q hy
 rcases List.mem_cons.mp hy with rfl | hy
 ·exact le_refl _
 ·exact (List.pairwise_cons.mp q).1 y hy
theorem zdb {xs : Array Keyed} {i k : Nat} {x : Keyed} (h : x ∈ (xs.toList.drop i).take k) : ∃ j, j < k ∧ i + j < xs.size ∧ xs[i + j]? = some x := by
 obtain ⟨j, hj, e⟩ := List.mem_iff_getElem.mp h
 have hj' := hj
 rw [List.length_take, List.length_drop, Array.length_toList] at hj'
 refine ⟨j, by omega, by omega, ?_⟩
 rw [List.getElem_take, List.getElem_drop] at e
 rw [Array.getElem?_eq_getElem (by omega)]
 simpa using e
theorem zcr {xs : Array Keyed} {i : Nat} {x : Keyed} (h : xs[i]? = some x) : kAt κ xs i = ky κ x := by
 unfold kAt
 rw [h]
theorem zez {xs : Array Keyed} (hs : SL κ xs.toList) (lo hi : Nat) (hh : hi ≤ xs.size) : Up κ xs lo hi := by
 intro i j h1 h2 h3
 have hj : j < xs.size := by omega
 have hi : i < xs.size := by omega
 rw [za7 hi, za7 hj]
 refine zcR hs hi _ ?_
 rw [List.mem_iff_getElem]
 refine ⟨j - i, by rw [List.length_drop, Array.length_toList]; omega, ?_⟩
 rw [List.getElem_drop]
 simp [show i + (j - i) = j by omega]
theorem list_up {xs : Array Keyed} (h : Up κ xs 0 xs.size) : SL κ xs.toList := by
 rw [SL, List.pairwise_iff_getElem]
 intro i j hi hj hij
 have hi' : i < xs.size := by simpa using hi
 have hj' : j < xs.size := by simpa using hj
 have := h i j (Nat.zero_le _) (by omega) hj'
 rw [za7 hi', za7 hj'] at this
 simpa [le] using this
structure MI (κ : KeyKind) (a b : Array Keyed) (out : Array Keyed) (ia ib : Nat) : Prop where
 perm : (out.toList ++ (a.toList.drop ia ++ b.toList.drop ib)).Perm (a.toList ++ b.toList)
 srt : SL κ out.toList
 low : ∀ x ∈ out.toList, ∀ y ∈ a.toList.drop ia ++ b.toList.drop ib, le κ x y
variable {a b out : Array Keyed} {ia ib : Nat}
theorem MI.goA {out' : Array Keyed} {k : Nat} (h : MI κ a b out ia ib) (sa : SL κ a.toList) (ho : out'.toList = out.toList ++ (a.toList.drop ia).take k) (hle : ∀ x ∈ (a.toList.drop ia).take k, ∀ y ∈ b.toList.drop ib, le κ x y) : MI κ a b out' (ia + k) ib := by
 have e : a.toList.drop ia = (a.toList.drop ia).take k ++ a.toList.drop (ia + k) := by
  rw [← List.drop_drop, List.take_append_drop]
 have s1 := sa.drop ia
 rw [e] at s1
 obtain ⟨p1, p2, p3⟩ := List.pairwise_append.mp s1
 refine ⟨?_, ?_, ?_⟩
 ·have q := h.perm
  rw [e] at q
  rw [ho]
  simpa [List.append_assoc] using q
 ·rw [ho]
  exact List.pairwise_append.mpr ⟨h.srt, p1, fun x hx y hy => h.low x hx y (List.mem_append_left _ (List.mem_of_mem_take hy))⟩
 ·intro x hx y hy
  rw [ho] at hx
  rcases List.mem_append.mp hx with hx | hx
  ·refine h.low x hx y ?_
   rcases List.mem_append.mp hy with hy | hy
   ·refine List.mem_append_left _ ?_
    rw [e]
    exact List.mem_append_right _ hy
   ·exact List.mem_append_right _ hy
  ·rcases List.mem_append.mp hy with hy | hy
   ·exact p3 x hx y hy
   ·exact hle x hx y hy
theorem MI.goB {out' : Array Keyed} {k : Nat} (h : MI κ a b out ia ib) (sb : SL κ b.toList) (ho : out'.toList = out.toList ++ (b.toList.drop ib).take k) (hle : ∀ x ∈ (b.toList.drop ib).take k, ∀ y ∈ a.toList.drop ia, le κ x y) : MI κ a b out' ia (ib + k) := by
 have e : b.toList.drop ib = (b.toList.drop ib).take k ++ b.toList.drop (ib + k) := by
  rw [← List.drop_drop, List.take_append_drop]
 have s1 := sb.drop ib
 rw [e] at s1
 obtain ⟨p1, p2, p3⟩ := List.pairwise_append.mp s1
 refine ⟨?_, ?_, ?_⟩
 ·have q := h.perm
  rw [e] at q
  rw [ho]
  refine List.Perm.trans ?_ q
  rw [List.append_assoc]
  refine List.Perm.append_left _ ?_
  rw [← List.append_assoc, ← List.append_assoc]
  exact List.Perm.append_right _ List.perm_append_comm
 ·rw [ho]
  exact List.pairwise_append.mpr ⟨h.srt, p1, fun x hx y hy => h.low x hx y (List.mem_append_right _ (List.mem_of_mem_take hy))⟩
 ·intro x hx y hy
  rw [ho] at hx
  rcases List.mem_append.mp hx with hx | hx
  ·refine h.low x hx y ?_
   rcases List.mem_append.mp hy with hy | hy
   ·exact List.mem_append_left _ hy
   ·refine List.mem_append_right _ ?_
    rw [e]
    exact List.mem_append_right _ hy
  ·rcases List.mem_append.mp hy with hy | hy
   ·exact hle x hx y hy
   ·exact p3 x hx y hy
theorem zeg {xs : Array Keyed} {i : Nat} (h : i < xs.size) : (xs.toList.drop i).take 1 = [xs[i]] := by
 rw [zeu h]
 rfl
theorem MI.pa (h : MI κ a b out ia ib) (sa : SL κ a.toList) (hia : ia < a.size) (hle : ∀ y ∈ b.toList.drop ib, le κ a[ia] y) : MI κ a b (out.push a[ia]) (ia + 1) ib :=
 h.goA (k := 1) sa (by rw [zeg hia, Array.toList_push]) (by
  rw [zeg hia]
  intro x hx
  rw [List.mem_singleton.mp hx]
  exact hle)
theorem MI.pb (h : MI κ a b out ia ib) (sb : SL κ b.toList) (hib : ib < b.size) (hle : ∀ y ∈ a.toList.drop ia, le κ b[ib] y) : MI κ a b (out.push b[ib]) ia (ib + 1) :=
 h.goB (k := 1) sb (by rw [zeg hib, Array.toList_push]) (by
  rw [zeg hib]
  intro x hx
  rw [List.mem_singleton.mp hx]
  exact hle)
structure zcf (κ : KeyKind) (a b m : Array Keyed) : Prop where
 perm : m.toList.Perm (a.toList ++ b.toList)
 srt : SL κ m.toList
theorem zdR {xs : Array Keyed} {i k : Nat} : (xs.extract i (i + k)).toList = (xs.toList.drop i).take k := by
 rw [Array.toList_extract, List.extract_eq_take_drop, Nat.add_sub_cancel_left]
theorem zeM {xs : Array Keyed} {i : Nat} : (xs.extract i xs.size).toList = xs.toList.drop i := by
 rw [Array.toList_extract, List.extract_eq_take_drop]
 exact List.take_of_length_le (by rw [List.length_drop, Array.length_toList]; exact Nat.le_refl _)
theorem MI.done (h : MI κ a b out ia ib) (sa : SL κ a.toList) (hib : b.size ≤ ib) : zcf κ a b (out ++ a.extract ia a.size ++ b.extract ib b.size) := by
 have e : b.toList.drop ib = [] := List.drop_eq_nil_of_le (by rw [Array.length_toList]; exact hib)
 have e2 : (out ++ a.extract ia a.size ++ b.extract ib b.size).toList = out.toList ++ (a.toList.drop ia ++ b.toList.drop ib) := by
  rw [Array.toList_append, Array.toList_append, zeM, zeM, List.append_assoc]
 refine ⟨by rw [e2]; exact h.perm, ?_⟩
 rw [e2, e, List.append_nil]
 refine List.pairwise_append.mpr ⟨h.srt, sa.drop ia, fun x hx y hy => h.low x hx y (List.mem_append_left _ hy)⟩
theorem MI.doneA (h : MI κ a b out ia ib) (sb : SL κ b.toList) (hia : a.size ≤ ia) : zcf κ a b (out ++ a.extract ia a.size ++ b.extract ib b.size) := by
 have e : a.toList.drop ia = [] := List.drop_eq_nil_of_le (by rw [Array.length_toList]; exact hia)
 have e2 : (out ++ a.extract ia a.size ++ b.extract ib b.size).toList = out.toList ++ (a.toList.drop ia ++ b.toList.drop ib) := by
  rw [Array.toList_append, Array.toList_append, zeM, zeM, List.append_assoc]
 refine ⟨by rw [e2]; exact h.perm, ?_⟩
 rw [e2, e, List.nil_append]
 refine List.pairwise_append.mpr ⟨h.srt, sb.drop ib, fun x hx y hy => h.low x hx y (List.mem_append_right _ hy)⟩
theorem MI.last (h : MI κ a b out ia ib) (sa : SL κ a.toList) (sb : SL κ b.toList) (hl : ∀ y ∈ b.toList, ∀ x ∈ a.toList.drop ia, le κ y x) : zcf κ a b (out ++ b.extract ib b.size ++ a.extract ia a.size) := by
 have e2 : (out ++ b.extract ib b.size ++ a.extract ia a.size).toList = out.toList ++ (b.toList.drop ib ++ a.toList.drop ia) := by
  rw [Array.toList_append, Array.toList_append, zeM, zeM, List.append_assoc]
 refine ⟨?_, ?_⟩
 ·rw [e2]
  exact (List.Perm.append_left _ List.perm_append_comm).trans h.perm
 ·rw [e2]
  refine List.pairwise_append.mpr ⟨h.srt, List.pairwise_append.mpr ⟨sb.drop ib, sa.drop ia, fun x hx y hy => hl x (List.mem_of_mem_drop hx) y hy⟩, fun x hx y hy => h.low x hx y ?_⟩
  rcases List.mem_append.mp hy with q | q
  ·exact List.mem_append_right _ q
  ·exact List.mem_append_left _ q
end
end Tim
namespace Tim
open PySem PyProof.Rows
set_option autoImplicit false
def zix : Array Keyed → Array Keyed → StateT SortSt Sem (Array Keyed) := sortPriv% PySem.Builtin.mergeLo
def zi3 : Nat → StateT SortSt Sem Unit := sortPriv% PySem.Builtin.setMinGallop
structure SG (st st' : SortSt) : Prop where
 kind : kindOf st' = kindOf st
 arr : arrOf st' = arrOf st
 pend : pendingOf st' = pendingOf st
 failed : failedOf st' = failedOf st
theorem SG.refl (st : SortSt) : SG st st := ⟨rfl, rfl, rfl, rfl⟩
theorem SG.trans {s1 s2 s3 : SortSt} (h : SG s1 s2) (g : SG s2 s3) : SG s1 s3 := ⟨g.kind.trans h.kind, g.arr.trans h.arr, g.pend.trans h.pend, g.failed.trans h.failed⟩
section
variable {prog : Program} {w : World} {A : Around} {E : Value → Shared → Prop} {s : Shared} {κ : KeyKind} {kd : SortKind}
theorem zcT {g : Nat} {st st0 : SortSt} {Q : Unit → SortSt → Prop} (hg : SG st0 st) (h : ∀ st', SG st0 st' → Q () st') : wpS (model prog w) A E s (zi3 g) Q st := by
 refine wpS_modify (h _ (hg.trans ⟨rfl, rfl, rfl, rfl⟩))
set_option maxHeartbeats 4000000 in
theorem ziW {st : SortSt} {a b : Array Keyed} {Q : Array Keyed → SortSt → Prop} (hO : LtG prog w A s κ kd) (hkd : kindOf st = kd) (ka : ∀ q ∈ a.toList, Keyd κ q) (kb : ∀ q ∈ b.toList, Keyd κ q) (sa : SL κ a.toList) (sb : SL κ b.toList)
  (ha : 0 < a.size) (hb : 0 < b.size) (h0 : ∀ y ∈ a.toList, le κ b[0] y) (hl : ∀ y ∈ b.toList, ∀ i, i + 1 = a.size → ∀ x ∈ a.toList.drop i, le κ y x)
  (h : ∀ m st', zcf κ a b m → SG st st' → Q m st') : wpS (model prog w) A E s (zix a b) Q st := by
 have m0 : MI κ a b #[b[0]] 0 1 := by
  have z : MI κ a b #[] 0 0 := ⟨by simp, by simp, by simp⟩
  have := z.pb sb hb (by simpa using h0)
  simpa using this
 refine wpS_bind (zda ?_)
 dsimp only
 refine wpS_bind (zaP hb ?_)
 by_cases e1 : 1 = b.size
 ·rw [if_pos (by simpa using e1)]
  exact wpS_pure (h _ _ (m0.done sa (by omega)) (SG.refl st))
 rw [if_neg (by simpa using e1)]
 by_cases e2 : 0 + 1 = a.size
 ·rw [if_pos (by simpa using e2)]
  exact wpS_pure (h _ _ (m0.last sa sb (fun y hy x hx => hl y hy 0 e2 x hx)) (SG.refl st))
 rw [if_neg (by simpa using e2)]
 refine wpS_bind (wpS_get ?_)
 refine wpS_bind (wpS_mono (wpS_forRange (I := fun i c st' => SG st st' ∧ ∃ out ia ib g, c = (none, out, ia, ib, g) ∧ MI κ a b out ia ib ∧ ia + 1 < a.size ∧ ib < b.size ∧ i + 1 ≤ ia + ib)
  (Q := fun c st' => SG st st' ∧ ∃ m r, c = (some m, r) ∧ zcf κ a b m) ?step ?fin ⟨SG.refl st, _, 0, 1, _, rfl, m0, by omega, by omega, by omega⟩) ?post)
 case post =>
  rintro c st' ⟨g, m, r, rfl, hm⟩
  exact wpS_pure (h m st' hm g)
 case fin =>
  rintro c st' ⟨g, out, ia, ib, gg, rfl, hm, q1, q2, q3⟩
  exact absurd q3 (by omega)
 case step =>
  rintro i c st1 _ hi ⟨g1, out, ia, ib, gg, rfl, hm, q1, q2, q3⟩
  dsimp only
  refine wpS_bind (wpS_mono (wpS_forRange (I := fun x c st' => st' = st1 ∧ ∃ out' ia' ib' ca cb, c = (none, out', ia', ib', ca, cb) ∧ MI κ a b out' ia' ib' ∧ ia' + 1 < a.size ∧ ib' < b.size ∧ ia + ib + x ≤ ia' + ib')
   (Q := fun c st' => st' = st1 ∧ ((∃ m r, c = (some m, r) ∧ zcf κ a b m) ∨ ∃ out' ia' ib' ca cb, c = (none, out', ia', ib', ca, cb) ∧ MI κ a b out' ia' ib' ∧ ia' + 1 < a.size ∧ ib' < b.size ∧ ia + ib + 1 ≤ ia' + ib')) ?istep ?ifin ⟨rfl, out, ia, ib, 0, 0, rfl, hm, q1, q2, by omega⟩) ?ipost)
  case ifin =>
   rintro c st' ⟨rfl, out', ia', ib', ca, cb, rfl, hm', r1, r2, r3⟩
   exact ⟨rfl, .inr ⟨out', ia', ib', ca, cb, rfl, hm', r1, r2, by omega⟩⟩
  case istep =>
   rintro x c st' _ hx ⟨rfl, out', ia', ib', ca, cb, rfl, hm', r1, r2, r3⟩
   dsimp only
   refine wpS_bind (zaP r2 (wpS_bind (zaP (show ia' < a.size by omega) (wpS_bind (lt_G hO (by rw [g1.kind]; exact hkd) (kb _ (by simp)) (ka _ (by simp)) ?_)))))
   dsimp only
   cases e : κ.blt (ky κ b[ib']) (ky κ (a[ia']'(by omega))) with
   | true =>
    simp only [if_true]
    have hm2 := hm'.pb sb r2 (fun y hy => le_trans (show le κ b[ib'] (a[ia']'(by omega)) from KeyOrd.kle_of_klt e) (zcR sa (by omega) y hy))
    refine wpS_bind (zaP r2 ?_)
    by_cases z : ib' + 1 = b.size
    ·rw [if_pos (by simpa using z)]
     exact wpS_pure ⟨rfl, .inl ⟨_, _, rfl, hm2.done sa (by omega)⟩⟩
    ·rw [if_neg (by simpa using z)]
     split
     ·exact wpS_pure ⟨rfl, .inr ⟨_, _, _, _, _, rfl, hm2, by omega, by omega, by omega⟩⟩
     ·exact wpS_pure ⟨rfl, _, _, _, _, _, rfl, hm2, by omega, by omega, by omega⟩
   | false =>
    simp only [Bool.false_eq_true, if_false]
    have hm2 := hm'.pa sa (show ia' < a.size by omega) (fun y hy => le_trans (show le κ (a[ia']'(by omega)) b[ib'] from e) (zcR sb r2 y hy))
    refine wpS_bind (zaP (show ia' < a.size by omega) ?_)
    by_cases z : ia' + 1 + 1 = a.size
    ·rw [if_pos (by simpa using z)]
     exact wpS_pure ⟨rfl, .inl ⟨_, _, rfl, hm2.last sa sb (fun y hy x hx => hl y hy _ z x hx)⟩⟩
    ·rw [if_neg (by simpa using z)]
     split
     ·exact wpS_pure ⟨rfl, .inr ⟨_, _, _, _, _, rfl, hm2, by omega, by omega, by omega⟩⟩
     ·exact wpS_pure ⟨rfl, _, _, _, _, _, rfl, hm2, by omega, by omega, by omega⟩
  case ipost =>
   rintro c st' ⟨rfl, ⟨m, r, rfl, hmm⟩ | ⟨out, ia', ib', ca, cb, rfl, hm, q1, q2, q4⟩⟩
   ·exact wpS_pure ⟨g1, m, _, rfl, hmm⟩
   dsimp only
   refine wpS_bind (zda ?_)
   refine wpS_bind (wpS_mono (wpS_forRange (I := fun x c st'' => SG st st'' ∧ ∃ out1 ia1 ib1 gg ca cb, c = (none, out1, ia1, ib1, gg, ca, cb) ∧ MI κ a b out1 ia1 ib1 ∧ ia1 + 1 < a.size ∧ ib1 < b.size ∧ ia + ib + 1 ≤ ia1 + ib1)
    (Q := fun c st'' => SG st st'' ∧ ((∃ m r, c = (some m, r) ∧ zcf κ a b m) ∨ ∃ out1 ia1 ib1 gg ca cb, c = (none, out1, ia1, ib1, gg, ca, cb) ∧ MI κ a b out1 ia1 ib1 ∧ ia1 + 1 < a.size ∧ ib1 < b.size ∧ ia + ib + 1 ≤ ia1 + ib1)) ?jstep ?jfin ⟨g1, _, _, _, _, _, _, rfl, hm, q1, q2, q4⟩) ?jpost)
   case jfin =>
    rintro c st'' ⟨g2, out1, ia1, ib1, gg1, ca1, cb1, rfl, r⟩
    exact ⟨g2, .inr ⟨_, _, _, _, _, _, rfl, r⟩⟩
   case jpost =>
    rintro c st'' ⟨g2, ⟨m, r, rfl, hmm⟩ | ⟨out1, ia1, ib1, gg1, ca1, cb1, rfl, hm1, t1, t2, t3⟩⟩
    ·exact wpS_pure ⟨g2, m, _, rfl, hmm⟩
    ·dsimp only
     exact wpS_bind (zcT g2 fun st3 g3 => wpS_pure ⟨g3, _, _, _, _, rfl, hm1, t1, t2, by omega⟩)
   case jstep =>
    rintro x c st'' _ hx ⟨g2, out1, ia1, ib1, gg1, ca1, cb1, rfl, hm1, t1, t2, t3⟩
    dsimp only
    by_cases hg : gg1 > 1
    all_goals
     first | rw [if_pos hg] | rw [if_neg hg]
     refine wpS_bind (zcT g2 fun st3 g3 => ?_)
     refine wpS_bind (zaP t2 (wpS_bind (zb8 hO (by rw [g3.kind]; exact hkd) (kb _ (by simp)) ka (by omega) (by omega) (zez sa _ _ (by omega)) fun k k1 k2 k3 => ?_)))
     dsimp only
     have hmk : MI κ a b (out1 ++ a.extract ia1 (ia1 + k)) (ia1 + k) ib1 := hm1.goA sa (by rw [Array.toList_append, zdR]) fun x hx y hy => by
      obtain ⟨j, j1, j2, j3⟩ := zdb hx
      have q := k2 j j1
      unfold bey at q
      rw [if_neg (by decide), zcr j3, Bool.not_eq_true'] at q
      exact le_trans (show le κ x b[ib1] from q) (zcR sb t2 y hy)
     have bk : ∀ hq : ia1 + k < a.size, ∀ y ∈ a.toList.drop (ia1 + k), le κ b[ib1] y := fun hq y hy => by
      have q := k3 k (Nat.le_refl _) (by omega)
      unfold bey at q
      rw [if_neg (by decide), za7 hq, Bool.not_eq_false'] at q
      exact le_trans (show le κ b[ib1] a[ia1 + k] from KeyOrd.kle_of_klt q) (zcR sa hq y hy)
     by_cases hk : k > 0
     ·rw [if_pos hk]
      by_cases z : ia1 + k + 1 = a.size
      ·rw [if_pos (by simpa using z)]
       exact wpS_pure ⟨g3, .inl ⟨_, _, rfl, hmk.last sa sb (fun y hy x hx => hl y hy _ z x hx)⟩⟩
      rw [if_neg (by simpa using z)]
      by_cases z' : ia1 + k = a.size
      ·rw [if_pos (by simpa using z')]
       exact wpS_pure ⟨g3, .inl ⟨_, _, rfl, hmk.doneA sb (by omega)⟩⟩
      rw [if_neg (by simpa using z')]
      have hm2 := hmk
      have u2 := bk (by omega)
      refine wpS_bind (zaP t2 ?_)
      have hm3 := hm2.pb sb t2 u2
      by_cases z2 : ib1 + 1 = b.size
      ·rw [if_pos (by simpa using z2)]
       exact wpS_pure ⟨g3, .inl ⟨_, _, rfl, hm3.done sa (by omega)⟩⟩
      ·rw [if_neg (by simpa using z2)]
       refine wpS_bind (zaP (show ia1 + k < a.size by omega) (wpS_bind (zb8 hO (by rw [g3.kind]; exact hkd) (ka _ (by simp)) kb (by omega) (by omega) (zez sb _ _ (by omega)) fun k' c1 c2 c3 => ?_)))
       dsimp only
       have ge5 : ∀ hq : ib1 + 1 + k' < b.size, le κ (a[ia1 + k]'(by omega)) b[ib1 + 1 + k'] := fun hq => by
        have q := c3 k' (Nat.le_refl _) (by omega)
        unfold bey at q
        rw [if_pos rfl, za7 hq] at q
        exact q
       have hm4 : MI κ a b ((out1 ++ a.extract ia1 (ia1 + k)).push b[ib1] ++ b.extract (ib1 + 1) (ib1 + 1 + k')) (ia1 + k) (ib1 + 1 + k') := hm3.goB sb (by rw [Array.toList_append (ys := b.extract (ib1 + 1) (ib1 + 1 + k')), zdR (xs := b)]) fun x hx y hy => by
        obtain ⟨j, j1, j2, j3⟩ := zdb hx
        have q := c2 j j1
        unfold bey at q
        rw [if_pos rfl, zcr j3] at q
        exact le_trans (show le κ x (a[ia1 + k]'(by omega)) from KeyOrd.kle_of_klt q) (zcR sa (by omega) y hy)
       by_cases hk' : k' > 0
       ·rw [if_pos hk']
        by_cases z3 : ib1 + 1 + k' = b.size
        ·rw [if_pos (by simpa using z3)]
         exact wpS_pure ⟨g3, .inl ⟨_, _, rfl, hm4.done sa (by omega)⟩⟩
        ·rw [if_neg (by simpa using z3)]
         refine wpS_bind (zaP (show ia1 + k < a.size by omega) ?_)
         have hm5 := hm4.pa sa (show ia1 + k < a.size by omega) fun y hy => le_trans (show le κ (a[ia1 + k]'(by omega)) (b[ib1 + 1 + k']'(by omega)) from ge5 (by omega)) (zcR sb (by omega) y hy)
         by_cases z4 : ia1 + k + 1 + 1 = a.size
         ·rw [if_pos (by simpa using z4)]
          exact wpS_pure ⟨g3, .inl ⟨_, _, rfl, hm5.last sa sb (fun y hy x hx => hl y hy _ z4 x hx)⟩⟩
         ·rw [if_neg (by simpa using z4)]
          split
          ·exact wpS_pure ⟨g3, .inr ⟨_, _, _, _, _, _, rfl, hm5, by omega, by omega, by omega⟩⟩
          ·exact wpS_pure ⟨g3, _, _, _, _, _, _, rfl, hm5, by omega, by omega, by omega⟩
       ·rw [if_neg hk']
        have e0 : k' = 0 := by omega
        subst e0
        replace hm4 := hm3
        refine wpS_bind (zaP (show ia1 + k < a.size by omega) ?_)
        have hm5 := hm4.pa sa (show ia1 + k < a.size by omega) fun y hy => le_trans (show le κ (a[ia1 + k]'(by omega)) (b[ib1 + 1]'(by omega)) from ge5 (by omega)) (zcR sb (by omega) y hy)
        by_cases z4 : ia1 + k + 1 + 1 = a.size
        ·rw [if_pos (by simpa using z4)]
         exact wpS_pure ⟨g3, .inl ⟨_, _, rfl, hm5.last sa sb (fun y hy x hx => hl y hy _ z4 x hx)⟩⟩
        ·rw [if_neg (by simpa using z4)]
         split
         ·exact wpS_pure ⟨g3, .inr ⟨_, _, _, _, _, _, rfl, hm5, by omega, by omega, by omega⟩⟩
         ·exact wpS_pure ⟨g3, _, _, _, _, _, _, rfl, hm5, by omega, by omega, by omega⟩
     ·rw [if_neg hk]
      have e0 : k = 0 := by omega
      subst e0
      have hm2 := hm1
      have u2 := bk (by omega)
      refine wpS_bind (zaP t2 ?_)
      have hm3 := hm2.pb sb t2 u2
      by_cases z2 : ib1 + 1 = b.size
      ·rw [if_pos (by simpa using z2)]
       exact wpS_pure ⟨g3, .inl ⟨_, _, rfl, hm3.done sa (by omega)⟩⟩
      ·rw [if_neg (by simpa using z2)]
       refine wpS_bind (zaP (show ia1 < a.size by omega) (wpS_bind (zb8 hO (by rw [g3.kind]; exact hkd) (ka _ (by simp)) kb (by omega) (by omega) (zez sb _ _ (by omega)) fun k' c1 c2 c3 => ?_)))
       dsimp only
       have ge5 : ∀ hq : ib1 + 1 + k' < b.size, le κ (a[ia1]'(by omega)) b[ib1 + 1 + k'] := fun hq => by
        have q := c3 k' (Nat.le_refl _) (by omega)
        unfold bey at q
        rw [if_pos rfl, za7 hq] at q
        exact q
       have hm4 : MI κ a b (out1.push b[ib1] ++ b.extract (ib1 + 1) (ib1 + 1 + k')) ia1 (ib1 + 1 + k') := hm3.goB sb (by rw [Array.toList_append (ys := b.extract (ib1 + 1) (ib1 + 1 + k')), zdR (xs := b)]) fun x hx y hy => by
        obtain ⟨j, j1, j2, j3⟩ := zdb hx
        have q := c2 j j1
        unfold bey at q
        rw [if_pos rfl, zcr j3] at q
        exact le_trans (show le κ x (a[ia1]'(by omega)) from KeyOrd.kle_of_klt q) (zcR sa (by omega) y hy)
       by_cases hk' : k' > 0
       ·rw [if_pos hk']
        by_cases z3 : ib1 + 1 + k' = b.size
        ·rw [if_pos (by simpa using z3)]
         exact wpS_pure ⟨g3, .inl ⟨_, _, rfl, hm4.done sa (by omega)⟩⟩
        ·rw [if_neg (by simpa using z3)]
         refine wpS_bind (zaP (show ia1 < a.size by omega) ?_)
         have hm5 := hm4.pa sa (show ia1 < a.size by omega) fun y hy => le_trans (show le κ (a[ia1]'(by omega)) (b[ib1 + 1 + k']'(by omega)) from ge5 (by omega)) (zcR sb (by omega) y hy)
         by_cases z4 : ia1 + 1 + 1 = a.size
         ·rw [if_pos (by simpa using z4)]
          exact wpS_pure ⟨g3, .inl ⟨_, _, rfl, hm5.last sa sb (fun y hy x hx => hl y hy _ z4 x hx)⟩⟩
         ·rw [if_neg (by simpa using z4)]
          split
          ·exact wpS_pure ⟨g3, .inr ⟨_, _, _, _, _, _, rfl, hm5, by omega, by omega, by omega⟩⟩
          ·exact wpS_pure ⟨g3, _, _, _, _, _, _, rfl, hm5, by omega, by omega, by omega⟩
       ·rw [if_neg hk']
        have e0 : k' = 0 := by omega
        subst e0
        replace hm4 := hm3
        refine wpS_bind (zaP (show ia1 < a.size by omega) ?_)
        have hm5 := hm4.pa sa (show ia1 < a.size by omega) fun y hy => le_trans (show le κ (a[ia1]'(by omega)) (b[ib1 + 1]'(by omega)) from ge5 (by omega)) (zcR sb (by omega) y hy)
        by_cases z4 : ia1 + 1 + 1 = a.size
        ·rw [if_pos (by simpa using z4)]
         exact wpS_pure ⟨g3, .inl ⟨_, _, rfl, hm5.last sa sb (fun y hy x hx => hl y hy _ z4 x hx)⟩⟩
        ·rw [if_neg (by simpa using z4)]
         split
         ·exact wpS_pure ⟨g3, .inr ⟨_, _, _, _, _, _, rfl, hm5, by omega, by omega, by omega⟩⟩
         ·exact wpS_pure ⟨g3, _, _, _, _, _, _, rfl, hm5, by omega, by omega, by omega⟩
end
end Tim
namespace Tim
open PySem PyProof.Rows
set_option autoImplicit false
section
variable {κ : KeyKind} {a b out : Array Keyed} {na nb : Nat}
structure MH (κ : KeyKind) (a b : Array Keyed) (out : Array Keyed) (na nb : Nat) : Prop where
 perm : ((a.toList.take na ++ b.toList.take nb) ++ out.toList.reverse).Perm (a.toList ++ b.toList)
 srt : SL κ out.toList.reverse
 high : ∀ x ∈ out.toList.reverse, ∀ y ∈ a.toList.take na ++ b.toList.take nb, le κ y x
theorem zeB {l : List Keyed} {n m : Nat} (h : n ≤ m) : l.take m = l.take n ++ (l.take m).drop n := by
 have e : (l.take m).take n = l.take n := by rw [List.take_take, Nat.min_eq_left h]
 rw [← e, List.take_append_drop]
theorem MH.goA {out' : Array Keyed} {n : Nat} (h : MH κ a b out na nb) (sa : SL κ a.toList) (hn : n ≤ na) (ho : out'.toList.reverse = (a.toList.take na).drop n ++ out.toList.reverse) (hle : ∀ x ∈ (a.toList.take na).drop n, ∀ y ∈ b.toList.take nb, le κ y x) : MH κ a b out' n nb := by
 have e := zeB (l := a.toList) hn
 have s1 := sa.take na
 rw [e] at s1
 obtain ⟨p1, p2, p3⟩ := List.pairwise_append.mp s1
 refine ⟨?_, ?_, ?_⟩
 ·refine List.Perm.trans ?_ h.perm
  rw [ho, e, ← List.append_assoc]
  refine List.Perm.append_right _ ?_
  rw [List.append_assoc, List.append_assoc, ← e]
  exact List.Perm.append_left _ List.perm_append_comm
 ·rw [ho]
  exact List.pairwise_append.mpr ⟨p2, h.srt, fun x hx y hy => h.high y hy x (List.mem_append_left _ (List.mem_of_mem_drop hx))⟩
 ·intro x hx y hy
  rw [ho] at hx
  rcases List.mem_append.mp hx with hx | hx
  ·rcases List.mem_append.mp hy with hy | hy
   ·exact p3 y hy x hx
   ·exact hle x hx y hy
  ·refine h.high x hx y ?_
   rcases List.mem_append.mp hy with hy | hy
   ·refine List.mem_append_left _ ?_
    rw [e]
    exact List.mem_append_left _ hy
   ·exact List.mem_append_right _ hy
theorem MH.goB {out' : Array Keyed} {n : Nat} (h : MH κ a b out na nb) (sb : SL κ b.toList) (hn : n ≤ nb) (ho : out'.toList.reverse = (b.toList.take nb).drop n ++ out.toList.reverse) (hle : ∀ x ∈ (b.toList.take nb).drop n, ∀ y ∈ a.toList.take na, le κ y x) : MH κ a b out' na n := by
 have e := zeB (l := b.toList) hn
 have s1 := sb.take nb
 rw [e] at s1
 obtain ⟨p1, p2, p3⟩ := List.pairwise_append.mp s1
 refine ⟨?_, ?_, ?_⟩
 ·refine List.Perm.trans (List.Perm.of_eq ?_) h.perm
  rw [ho, ← List.append_assoc, List.append_assoc (a.toList.take na), ← e]
 ·rw [ho]
  exact List.pairwise_append.mpr ⟨p2, h.srt, fun x hx y hy => h.high y hy x (List.mem_append_right _ (List.mem_of_mem_drop hx))⟩
 ·intro x hx y hy
  rw [ho] at hx
  rcases List.mem_append.mp hx with hx | hx
  ·rcases List.mem_append.mp hy with hy | hy
   ·exact hle x hx y hy
   ·exact p3 y hy x hx
  ·refine h.high x hx y ?_
   rcases List.mem_append.mp hy with hy | hy
   ·exact List.mem_append_left _ hy
   ·refine List.mem_append_right _ ?_
    rw [e]
    exact List.mem_append_left _ hy
theorem zer {xs : Array Keyed} {n : Nat} (h0 : 0 < n) (h : n ≤ xs.size) : (xs.toList.take n).drop (n - 1) = [xs[n - 1]'(by omega)] := by
 have h' : n - 1 < xs.size := by omega
 rw [List.drop_take, show n - (n - 1) = 1 by omega, zeu h']
 rfl
theorem zdc {xs : Array Keyed} {n : Nat} (hs : SL κ xs.toList) (h0 : 0 < n) (h : n ≤ xs.size) : ∀ y ∈ xs.toList.take n, le κ y (xs[n - 1]'(by omega)) := by
 intro y hy
 have q := hs.take n
 rw [zeB (l := xs.toList) (show n - 1 ≤ n by omega), zer h0 h] at q hy
 rcases List.mem_append.mp hy with hy | hy
 ·exact (List.pairwise_append.mp q).2.2 y hy _ (List.mem_singleton.mpr rfl)
 ·rw [List.mem_singleton.mp hy]
  exact le_refl _
theorem MH.pa (h : MH κ a b out na nb) (sa : SL κ a.toList) (h0 : 0 < na) (hn : na ≤ a.size) (hle : ∀ y ∈ b.toList.take nb, le κ y (a[na - 1]'(by omega))) : MH κ a b (out.push (a[na - 1]'(by omega))) (na - 1) nb :=
 h.goA (n := na - 1) sa (by omega) (by rw [zer h0 hn, Array.toList_push, List.reverse_append]; rfl) (by
  rw [zer h0 hn]
  intro x hx
  rw [List.mem_singleton.mp hx]
  exact hle)
theorem MH.pb (h : MH κ a b out na nb) (sb : SL κ b.toList) (h0 : 0 < nb) (hn : nb ≤ b.size) (hle : ∀ y ∈ a.toList.take na, le κ y (b[nb - 1]'(by omega))) : MH κ a b (out.push (b[nb - 1]'(by omega))) na (nb - 1) :=
 h.goB (n := nb - 1) sb (by omega) (by rw [zer h0 hn, Array.toList_push, List.reverse_append]; rfl) (by
  rw [zer h0 hn]
  intro x hx
  rw [List.mem_singleton.mp hx]
  exact hle)
theorem zdS {xs : Array Keyed} {n : Nat} : (xs.extract 0 n).toList = xs.toList.take n := by
 rw [Array.toList_extract, List.extract_eq_take_drop, List.drop_zero, Nat.sub_zero]
theorem zhR {xs : Array Keyed} {n m : Nat} : (xs.extract n m).toList = (xs.toList.take m).drop n := by
 rw [Array.toList_extract, List.extract_eq_take_drop, List.drop_take]
theorem MH.done (h : MH κ a b out na nb) (sb : SL κ b.toList) (hna : na = 0) : zcf κ a b (a.extract 0 na ++ b.extract 0 nb ++ out.reverse) := by
 have e2 : (a.extract 0 na ++ b.extract 0 nb ++ out.reverse).toList = (a.toList.take na ++ b.toList.take nb) ++ out.toList.reverse := by
  rw [Array.toList_append, Array.toList_append, zdS, zdS, Array.toList_reverse]
 refine ⟨by rw [e2]; exact h.perm, ?_⟩
 rw [e2]
 subst hna
 refine List.pairwise_append.mpr ⟨?_, h.srt, fun x hx y hy => h.high y hy x hx⟩
 rw [List.take_zero, List.nil_append]
 exact sb.take nb
theorem MH.doneB (h : MH κ a b out na nb) (sa : SL κ a.toList) (hnb : nb = 0) : zcf κ a b (a.extract 0 na ++ b.extract 0 nb ++ out.reverse) := by
 have e2 : (a.extract 0 na ++ b.extract 0 nb ++ out.reverse).toList = (a.toList.take na ++ b.toList.take nb) ++ out.toList.reverse := by
  rw [Array.toList_append, Array.toList_append, zdS, zdS, Array.toList_reverse]
 refine ⟨by rw [e2]; exact h.perm, ?_⟩
 rw [e2]
 subst hnb
 refine List.pairwise_append.mpr ⟨?_, h.srt, fun x hx y hy => h.high y hy x hx⟩
 rw [List.take_zero, List.append_nil]
 exact sa.take na
theorem MH.first (h : MH κ a b out na nb) (sa : SL κ a.toList) (sb : SL κ b.toList) (hl : ∀ y ∈ b.toList.take nb, ∀ x ∈ a.toList, le κ y x) : zcf κ a b (b.extract 0 nb ++ a.extract 0 na ++ out.reverse) := by
 have e2 : (b.extract 0 nb ++ a.extract 0 na ++ out.reverse).toList = (b.toList.take nb ++ a.toList.take na) ++ out.toList.reverse := by
  rw [Array.toList_append, Array.toList_append, zdS, zdS, Array.toList_reverse]
 refine ⟨?_, ?_⟩
 ·rw [e2]
  exact (List.Perm.append_right _ List.perm_append_comm).trans h.perm
 ·rw [e2]
  refine List.pairwise_append.mpr ⟨List.pairwise_append.mpr ⟨sb.take nb, sa.take na, fun x hx y hy => hl x hx y (List.mem_of_mem_take hy)⟩, h.srt, fun x hx y hy => h.high y hy x ?_⟩
  rcases List.mem_append.mp hx with q | q
  ·exact List.mem_append_right _ q
  ·exact List.mem_append_left _ q
end
def ziy : Array Keyed → Array Keyed → StateT SortSt Sem (Array Keyed) := sortPriv% PySem.Builtin.mergeHi
end Tim
namespace Tim
open PySem PyProof.Rows
set_option autoImplicit false
section
variable {prog : Program} {w : World} {A : Around} {E : Value → Shared → Prop} {s : Shared} {κ : KeyKind} {kd : SortKind}
set_option maxHeartbeats 4000000 in
theorem ziX {st : SortSt} {a b : Array Keyed} {Q : Array Keyed → SortSt → Prop} (hO : LtG prog w A s κ kd) (hkd : kindOf st = kd) (ka : ∀ q ∈ a.toList, Keyd κ q) (kb : ∀ q ∈ b.toList, Keyd κ q) (sa : SL κ a.toList) (sb : SL κ b.toList)
  (ha : 0 < a.size) (hb : 0 < b.size) (h0 : ∀ y ∈ a.toList, le κ b[0] y) (hl : ∀ y ∈ b.toList, le κ y (a[a.size - 1]'(by omega)))
  (h : ∀ m st', zcf κ a b m → SG st st' → Q m st') : wpS (model prog w) A E s (ziy a b) Q st := by
 have fst : ∀ n, n ≤ 1 → ∀ y ∈ b.toList.take n, ∀ x ∈ a.toList, le κ y x := fun n hn y hy x hx => by
  have hy' : y ∈ b.toList.take 1 := by
   rcases Nat.lt_or_ge n 1 with z | z
   ·rw [show n = 0 by omega] at hy; simp at hy
   ·rwa [show n = 1 by omega] at hy
  have e : b.toList.take 1 = [b[0]] := by
   have := zeg hb
   rwa [List.drop_zero] at this
  rw [e] at hy'
  rw [List.mem_singleton.mp hy']
  exact h0 x hx
 have m0 : MH κ a b #[a[a.size - 1]'(by omega)] (a.size - 1) b.size := by
  have z : MH κ a b #[] a.size b.size := ⟨by
   rw [List.take_of_length_le (by simp), List.take_of_length_le (by simp)]
   simp, by simp, by simp⟩
  have := z.pa sa ha (Nat.le_refl _) (fun y hy => hl y (List.mem_of_mem_take hy))
  simpa using this
 refine wpS_bind (zda ?_)
 dsimp only
 refine wpS_bind (zaP (show a.size - 1 < a.size by omega) ?_)
 by_cases e1 : a.size - 1 = 0
 ·rw [if_pos (by simpa using e1)]
  exact wpS_pure (h _ _ (m0.done sb e1) (SG.refl st))
 rw [if_neg (by simpa using e1)]
 by_cases e2 : b.size = 1
 ·rw [if_pos (by simpa using e2)]
  exact wpS_pure (h _ _ (m0.first sa sb (fst _ (by omega))) (SG.refl st))
 rw [if_neg (by simpa using e2)]
 refine wpS_bind (wpS_get ?_)
 refine wpS_bind (wpS_mono (wpS_forRange (I := fun i c st' => SG st st' ∧ ∃ na nb out g, c = (none, na, nb, out, g) ∧ MH κ a b out na nb ∧ 0 < na ∧ na ≤ a.size ∧ 1 < nb ∧ nb ≤ b.size ∧ i + 1 + (na + nb) ≤ a.size + b.size)
  (Q := fun c st' => SG st st' ∧ ∃ m r, c = (some m, r) ∧ zcf κ a b m) ?step ?fin ⟨SG.refl st, _, _, _, _, rfl, m0, by omega, by omega, by omega, by omega, by omega⟩) ?post)
 case post =>
  rintro c st' ⟨g, m, r, rfl, hm⟩
  exact wpS_pure (h m st' hm g)
 case fin =>
  rintro c st' ⟨g, na, nb, out, gg, rfl, hm, q1, q2, q3, q4, q5⟩
  exact absurd q5 (by omega)
 case step =>
  rintro i c st1 _ hi ⟨g1, na, nb, out, gg, rfl, hm, q1, q2, q3, q4, q5⟩
  dsimp only
  refine wpS_bind (wpS_mono (wpS_forRange (I := fun x c st' => st' = st1 ∧ ∃ na' nb' out' ca cb, c = (none, na', nb', out', ca, cb) ∧ MH κ a b out' na' nb' ∧ 0 < na' ∧ na' ≤ a.size ∧ 1 < nb' ∧ nb' ≤ b.size ∧ x + (na' + nb') ≤ na + nb)
   (Q := fun c st' => st' = st1 ∧ ((∃ m r, c = (some m, r) ∧ zcf κ a b m) ∨ ∃ na' nb' out' ca cb, c = (none, na', nb', out', ca, cb) ∧ MH κ a b out' na' nb' ∧ 0 < na' ∧ na' ≤ a.size ∧ 1 < nb' ∧ nb' ≤ b.size ∧ 1 + (na' + nb') ≤ na + nb)) ?istep ?ifin ⟨rfl, na, nb, out, 0, 0, rfl, hm, q1, q2, q3, q4, by omega⟩) ?ipost)
  case ifin =>
   rintro c st' ⟨rfl, na', nb', out', ca, cb, rfl, hm', r1, r2, r3, r4, r5⟩
   exact ⟨rfl, .inr ⟨_, _, _, ca, cb, rfl, hm', r1, r2, r3, r4, by omega⟩⟩
  case istep =>
   rintro x c st' _ hx ⟨rfl, na', nb', out', ca, cb, rfl, hm', r1, r2, r3, r4, r5⟩
   dsimp only
   refine wpS_bind (zaP (show nb' - 1 < b.size by omega) (wpS_bind (zaP (show na' - 1 < a.size by omega) (wpS_bind (lt_G hO (by rw [g1.kind]; exact hkd) (kb _ (by simp)) (ka _ (by simp)) ?_)))))
   dsimp only
   cases e : κ.blt (ky κ (b[nb' - 1]'(by omega))) (ky κ (a[na' - 1]'(by omega))) with
   | true =>
    simp only [if_true]
    have hm2 := hm'.pa sa r1 r2 (fun y hy => le_trans (zdc sb (by omega) r4 y hy) (show le κ (b[nb' - 1]'(by omega)) (a[na' - 1]'(by omega)) from KeyOrd.kle_of_klt e))
    refine wpS_bind (zaP (show na' - 1 < a.size by omega) ?_)
    by_cases z : na' - 1 = 0
    ·rw [if_pos (by simpa using z)]
     exact wpS_pure ⟨rfl, .inl ⟨_, _, rfl, hm2.done sb z⟩⟩
    ·rw [if_neg (by simpa using z)]
     split
     ·exact wpS_pure ⟨rfl, .inr ⟨_, _, _, _, _, rfl, hm2, by omega, by omega, by omega, by omega, by omega⟩⟩
     ·exact wpS_pure ⟨rfl, _, _, _, _, _, rfl, hm2, by omega, by omega, by omega, by omega, by omega⟩
   | false =>
    simp only [Bool.false_eq_true, if_false]
    have hm2 := hm'.pb sb (by omega) r4 (fun y hy => le_trans (zdc sa r1 r2 y hy) (show le κ (a[na' - 1]'(by omega)) (b[nb' - 1]'(by omega)) from e))
    refine wpS_bind (zaP (show nb' - 1 < b.size by omega) ?_)
    by_cases z : nb' - 1 = 1
    ·rw [if_pos (by simpa using z)]
     exact wpS_pure ⟨rfl, .inl ⟨_, _, rfl, hm2.first sa sb (fst _ (by omega))⟩⟩
    ·rw [if_neg (by simpa using z)]
     split
     ·exact wpS_pure ⟨rfl, .inr ⟨_, _, _, _, _, rfl, hm2, by omega, by omega, by omega, by omega, by omega⟩⟩
     ·exact wpS_pure ⟨rfl, _, _, _, _, _, rfl, hm2, by omega, by omega, by omega, by omega, by omega⟩
  case ipost =>
   rintro c st' ⟨rfl, ⟨m, r, rfl, hmm⟩ | ⟨na', nb', out, ca, cb, rfl, hm, q1, q2, q3, q4, q6⟩⟩
   ·exact wpS_pure ⟨g1, m, _, rfl, hmm⟩
   dsimp only
   refine wpS_bind (zda ?_)
   refine wpS_bind (wpS_mono (wpS_forRange (I := fun x c st'' => SG st st'' ∧ ∃ na1 nb1 out1 gg ca cb, c = (none, na1, nb1, out1, gg, ca, cb) ∧ MH κ a b out1 na1 nb1 ∧ 0 < na1 ∧ na1 ≤ a.size ∧ 1 < nb1 ∧ nb1 ≤ b.size ∧ 1 + (na1 + nb1) ≤ na + nb)
    (Q := fun c st'' => SG st st'' ∧ ((∃ m r, c = (some m, r) ∧ zcf κ a b m) ∨ ∃ na1 nb1 out1 gg ca cb, c = (none, na1, nb1, out1, gg, ca, cb) ∧ MH κ a b out1 na1 nb1 ∧ 0 < na1 ∧ na1 ≤ a.size ∧ 1 < nb1 ∧ nb1 ≤ b.size ∧ 1 + (na1 + nb1) ≤ na + nb)) ?jstep ?jfin ⟨g1, _, _, _, _, _, _, rfl, hm, q1, q2, q3, q4, q6⟩) ?jpost)
   case jfin =>
    rintro c st'' ⟨g2, na1, nb1, out1, gg1, ca1, cb1, rfl, r⟩
    exact ⟨g2, .inr ⟨_, _, _, _, _, _, rfl, r⟩⟩
   case jpost =>
    rintro c st'' ⟨g2, ⟨m, r, rfl, hmm⟩ | ⟨na1, nb1, out1, gg1, ca1, cb1, rfl, hm1, t1, t2, t3, t4, t5⟩⟩
    ·exact wpS_pure ⟨g2, m, _, rfl, hmm⟩
    ·dsimp only
     exact wpS_bind (zcT g2 fun st3 g3 => wpS_pure ⟨g3, _, _, _, _, rfl, hm1, t1, t2, t3, t4, by omega⟩)
   case jstep =>
    rintro x c st'' _ hx ⟨g2, na1, nb1, out1, gg1, ca1, cb1, rfl, hm1, t1, t2, t3, t4, t5⟩
    dsimp only
    by_cases hg : gg1 > 1
    all_goals
     first | rw [if_pos hg] | rw [if_neg hg]
     refine wpS_bind (zcT g2 fun st3 g3 => ?_)
     refine wpS_bind (zaP (show nb1 - 1 < b.size by omega) (wpS_bind (zb8 hO (by rw [g3.kind]; exact hkd) (kb _ (by simp)) ka (by omega) (by omega) (zez sa _ _ (by omega)) fun at0 k1 k2 k3 => ?_)))
     dsimp only
     have hmk : MH κ a b (out1 ++ (a.extract at0 na1).reverse) at0 nb1 := hm1.goA sa k1 (by
      rw [Array.toList_append, List.reverse_append, Array.toList_reverse, List.reverse_reverse, zhR]) fun x hx y hy => by
      rw [List.drop_take] at hx
      obtain ⟨j, j1, j2, j3⟩ := zdb hx
      have q := k3 (at0 + j) (by omega) (by omega)
      unfold bey at q
      rw [if_neg (by decide), Nat.zero_add, zcr j3, Bool.not_eq_false'] at q
      exact le_trans (zdc sb (by omega) t4 y hy) (show le κ (b[nb1 - 1]'(by omega)) x from KeyOrd.kle_of_klt q)
     have bk : ∀ y ∈ a.toList.take at0, le κ y (b[nb1 - 1]'(by omega)) := fun y hy => by
      have hy' : y ∈ (a.toList.drop 0).take at0 := by rw [List.drop_zero]; exact hy
      obtain ⟨j, j1, j2, j3⟩ := zdb hy'
      have q := k2 j j1
      unfold bey at q
      rw [if_neg (by decide), zcr j3, Bool.not_eq_true'] at q
      exact q
     by_cases hk : na1 - at0 > 0
     ·rw [if_pos hk]
      by_cases z : at0 = 0
      ·rw [if_pos (by simpa using z)]
       exact wpS_pure ⟨g3, .inl ⟨_, _, rfl, hmk.done sb z⟩⟩
      rw [if_neg (by simpa using z)]
      have hm2 := hmk
      have u2 := bk
      refine wpS_bind (zaP (show nb1 - 1 < b.size by omega) ?_)
      have hm3 := hm2.pb sb (by omega) (by omega) u2
      by_cases z2 : nb1 - 1 = 1
      ·rw [if_pos (by simpa using z2)]
       exact wpS_pure ⟨g3, .inl ⟨_, _, rfl, hm3.first sa sb (fst _ (by omega))⟩⟩
      ·rw [if_neg (by simpa using z2)]
       refine wpS_bind (zaP (show at0 - 1 < a.size by omega) (wpS_bind (zb8 hO (by rw [g3.kind]; exact hkd) (ka _ (by simp)) kb (by omega) (by omega) (zez sb _ _ (by omega)) fun at' c1 c2 c3 => ?_)))
       dsimp only
       have lt5 : ∀ hq : 0 < at', le κ (b[at' - 1]'(by omega)) (a[at0 - 1]'(by omega)) := fun hq => by
        have q := c2 (at' - 1) (by omega)
        unfold bey at q
        rw [if_pos rfl, Nat.zero_add, za7 (by omega)] at q
        exact KeyOrd.kle_of_klt q
       have hm4 : MH κ a b ((out1 ++ (a.extract at0 na1).reverse).push (b[nb1 - 1]'(by omega)) ++ (b.extract at' (nb1 - 1)).reverse) at0 at' := hm3.goB sb c1 (by
        rw [Array.toList_append (ys := (b.extract at' (nb1 - 1)).reverse), List.reverse_append, Array.toList_reverse, List.reverse_reverse, zhR]) fun x hx y hy => by
        rw [List.drop_take] at hx
        obtain ⟨j, j1, j2, j3⟩ := zdb hx
        have q := c3 (at' + j) (by omega) (by omega)
        unfold bey at q
        rw [if_pos rfl, Nat.zero_add, zcr j3] at q
        exact le_trans (zdc sa (by omega) (by omega) y hy) (show le κ (a[at0 - 1]'(by omega)) x from q)
       by_cases hk' : nb1 - 1 - at' > 0
       ·rw [if_pos hk']
        by_cases z3 : at' = 1
        ·rw [if_pos (by simpa using z3)]
         exact wpS_pure ⟨g3, .inl ⟨_, _, rfl, hm4.first sa sb (fst _ (by omega))⟩⟩
        rw [if_neg (by simpa using z3)]
        by_cases z3' : at' = 0
        ·rw [if_pos (by simpa using z3')]
         exact wpS_pure ⟨g3, .inl ⟨_, _, rfl, hm4.doneB sa z3'⟩⟩
        rw [if_neg (by simpa using z3')]
        refine wpS_bind (zaP (show at0 - 1 < a.size by omega) ?_)
        have hm5 := hm4.pa sa (by omega) (by omega) fun y hy => le_trans (zdc sb (by omega) (by omega) y hy) (lt5 (by omega))
        by_cases z4 : at0 - 1 = 0
        ·rw [if_pos (by simpa using z4)]
         exact wpS_pure ⟨g3, .inl ⟨_, _, rfl, hm5.done sb z4⟩⟩
        ·rw [if_neg (by simpa using z4)]
         split
         ·exact wpS_pure ⟨g3, .inr ⟨_, _, _, _, _, _, rfl, hm5, by omega, by omega, by omega, by omega, by omega⟩⟩
         ·exact wpS_pure ⟨g3, _, _, _, _, _, _, rfl, hm5, by omega, by omega, by omega, by omega, by omega⟩
       ·rw [if_neg hk']
        have e0 : at' = nb1 - 1 := by omega
        subst e0
        replace hm4 := hm3
        refine wpS_bind (zaP (show at0 - 1 < a.size by omega) ?_)
        have hm5 := hm4.pa sa (by omega) (by omega) fun y hy => le_trans (zdc sb (by omega) (by omega) y hy) (lt5 (by omega))
        by_cases z4 : at0 - 1 = 0
        ·rw [if_pos (by simpa using z4)]
         exact wpS_pure ⟨g3, .inl ⟨_, _, rfl, hm5.done sb z4⟩⟩
        ·rw [if_neg (by simpa using z4)]
         split
         ·exact wpS_pure ⟨g3, .inr ⟨_, _, _, _, _, _, rfl, hm5, by omega, by omega, by omega, by omega, by omega⟩⟩
         ·exact wpS_pure ⟨g3, _, _, _, _, _, _, rfl, hm5, by omega, by omega, by omega, by omega, by omega⟩
     ·rw [if_neg hk]
      have e0 : at0 = na1 := by omega
      subst e0
      have hm2 := hm1
      have u2 := bk
      refine wpS_bind (zaP (show nb1 - 1 < b.size by omega) ?_)
      have hm3 := hm2.pb sb (by omega) (by omega) u2
      by_cases z2 : nb1 - 1 = 1
      ·rw [if_pos (by simpa using z2)]
       exact wpS_pure ⟨g3, .inl ⟨_, _, rfl, hm3.first sa sb (fst _ (by omega))⟩⟩
      ·rw [if_neg (by simpa using z2)]
       refine wpS_bind (zaP (show at0 - 1 < a.size by omega) (wpS_bind (zb8 hO (by rw [g3.kind]; exact hkd) (ka _ (by simp)) kb (by omega) (by omega) (zez sb _ _ (by omega)) fun at' c1 c2 c3 => ?_)))
       dsimp only
       have lt5 : ∀ hq : 0 < at', le κ (b[at' - 1]'(by omega)) (a[at0 - 1]'(by omega)) := fun hq => by
        have q := c2 (at' - 1) (by omega)
        unfold bey at q
        rw [if_pos rfl, Nat.zero_add, za7 (by omega)] at q
        exact KeyOrd.kle_of_klt q
       have hm4 : MH κ a b (out1.push (b[nb1 - 1]'(by omega)) ++ (b.extract at' (nb1 - 1)).reverse) at0 at' := hm3.goB sb c1 (by
        rw [Array.toList_append (ys := (b.extract at' (nb1 - 1)).reverse), List.reverse_append, Array.toList_reverse, List.reverse_reverse, zhR]) fun x hx y hy => by
        rw [List.drop_take] at hx
        obtain ⟨j, j1, j2, j3⟩ := zdb hx
        have q := c3 (at' + j) (by omega) (by omega)
        unfold bey at q
        rw [if_pos rfl, Nat.zero_add, zcr j3] at q
        exact le_trans (zdc sa (by omega) (by omega) y hy) (show le κ (a[at0 - 1]'(by omega)) x from q)
       by_cases hk' : nb1 - 1 - at' > 0
       ·rw [if_pos hk']
        by_cases z3 : at' = 1
        ·rw [if_pos (by simpa using z3)]
         exact wpS_pure ⟨g3, .inl ⟨_, _, rfl, hm4.first sa sb (fst _ (by omega))⟩⟩
        rw [if_neg (by simpa using z3)]
        by_cases z3' : at' = 0
        ·rw [if_pos (by simpa using z3')]
         exact wpS_pure ⟨g3, .inl ⟨_, _, rfl, hm4.doneB sa z3'⟩⟩
        rw [if_neg (by simpa using z3')]
        refine wpS_bind (zaP (show at0 - 1 < a.size by omega) ?_)
        have hm5 := hm4.pa sa (by omega) (by omega) fun y hy => le_trans (zdc sb (by omega) (by omega) y hy) (lt5 (by omega))
        by_cases z4 : at0 - 1 = 0
        ·rw [if_pos (by simpa using z4)]
         exact wpS_pure ⟨g3, .inl ⟨_, _, rfl, hm5.done sb z4⟩⟩
        ·rw [if_neg (by simpa using z4)]
         split
         ·exact wpS_pure ⟨g3, .inr ⟨_, _, _, _, _, _, rfl, hm5, by omega, by omega, by omega, by omega, by omega⟩⟩
         ·exact wpS_pure ⟨g3, _, _, _, _, _, _, rfl, hm5, by omega, by omega, by omega, by omega, by omega⟩
       ·rw [if_neg hk']
        have e0 : at' = nb1 - 1 := by omega
        subst e0
        replace hm4 := hm3
        refine wpS_bind (zaP (show at0 - 1 < a.size by omega) ?_)
        have hm5 := hm4.pa sa (by omega) (by omega) fun y hy => le_trans (zdc sb (by omega) (by omega) y hy) (lt5 (by omega))
        by_cases z4 : at0 - 1 = 0
        ·rw [if_pos (by simpa using z4)]
         exact wpS_pure ⟨g3, .inl ⟨_, _, rfl, hm5.done sb z4⟩⟩
        ·rw [if_neg (by simpa using z4)]
         split
         ·exact wpS_pure ⟨g3, .inr ⟨_, _, _, _, _, _, rfl, hm5, by omega, by omega, by omega, by omega, by omega⟩⟩
         ·exact wpS_pure ⟨g3, _, _, _, _, _, _, rfl, hm5, by omega, by omega, by omega, by omega, by omega⟩
end
end Tim
namespace Tim
open PySem PyProof.Rows
set_option autoImplicit false
section
variable {κ : KeyKind}
def seg (xs : Array Keyed) (lo n : Nat) : List Keyed := (xs.toList.drop lo).take n
theorem zfc {xs : Array Keyed} {lo n i : Nat} (h : lo + n ≤ xs.size) (hi : i < n) : (seg xs lo n)[i]? = xs[lo + i]? := by
 unfold seg
 rw [List.getElem?_take, if_pos hi, List.getElem?_drop, Array.getElem?_toList]
theorem zcu {xs : Array Keyed} {lo n : Nat} (h : lo + n ≤ xs.size) : (seg xs lo n).length = n := by
 unfold seg
 rw [List.length_take, List.length_drop, Array.length_toList]
 omega
theorem seg_up {xs : Array Keyed} {lo n : Nat} (h : lo + n ≤ xs.size) (hU : Up κ xs lo (lo + n)) : SL κ (seg xs lo n) := by
 rw [SL, List.pairwise_iff_getElem]
 intro i j hi hj hij
 have hi' := hi
 have hj' := hj
 rw [zcu h] at hi' hj'
 have e1 : (seg xs lo n)[i] = xs[lo + i]'(by omega) := by
  have := zfc h hi'
  rw [List.getElem?_eq_getElem hi, Array.getElem?_eq_getElem (by omega)] at this
  exact Option.some.inj this
 have e2 : (seg xs lo n)[j] = xs[lo + j]'(by omega) := by
  have := zfc h hj'
  rw [List.getElem?_eq_getElem hj, Array.getElem?_eq_getElem (by omega)] at this
  exact Option.some.inj this
 rw [e1, e2]
 have := hU (lo + i) (lo + j) (by omega) (by omega) (by omega)
 rw [za7 (by omega), za7 (by omega)] at this
 exact this
theorem zi4 {xs : Array Keyed} {lo n m : Nat} : seg xs lo (n + m) = seg xs lo n ++ seg xs (lo + n) m := by
 unfold seg
 rw [List.take_add, List.drop_drop]
theorem zgc {xs : Array Keyed} {lo n : Nat} : (xs.extract lo (lo + n)).toList = seg xs lo n := zdR
theorem zjO {xs : Array Keyed} {lo n : Nat} (h : lo + n ≤ xs.size) : xs.toList = xs.toList.take lo ++ (seg xs lo n ++ xs.toList.drop (lo + n)) := by
 unfold seg
 rw [← List.drop_drop, List.take_append_drop, List.take_append_drop]
def back (xs : Array Keyed) (lo : Nat) (m : Array Keyed) : Array Keyed := m.toList.zipIdx.foldl (fun a (q : Keyed × Nat) => a.setIfInBounds (lo + q.2) q.1) xs
theorem zhZ (lo : Nat) : ∀ (l : List Keyed) (k : Nat) (xs : Array Keyed), lo + k + l.length ≤ xs.size → ∀ i : Nat,
  ((l.zipIdx k).foldl (fun a (q : Keyed × Nat) => a.setIfInBounds (lo + q.2) q.1) xs)[i]? = if lo + k ≤ i ∧ i < lo + k + l.length then l[i - (lo + k)]? else xs[i]?
 | [], k, xs, h, i => by
  rw [if_neg (by simp only [List.length_nil]; omega)]
  rfl
 | x :: l, k, xs, h, i => by
  rw [List.length_cons] at h
  rw [List.zipIdx_cons, List.foldl_cons, zhZ lo l (k + 1) (xs.setIfInBounds (lo + k) x) (by rw [Array.size_setIfInBounds]; omega) i, List.length_cons]
  by_cases h1 : lo + (k + 1) ≤ i ∧ i < lo + (k + 1) + l.length
  ·rw [if_pos h1, if_pos (by omega), show i - (lo + k) = (i - (lo + (k + 1))) + 1 by omega, List.getElem?_cons_succ]
  ·rw [if_neg h1, Array.getElem?_setIfInBounds]
   by_cases h2 : lo + k = i
   ·rw [if_pos h2, if_pos (by omega), if_pos (by omega)]
    subst h2
    simp
   ·rw [if_neg h2, if_neg (by omega)]
theorem back_list {xs m : Array Keyed} {lo : Nat} (h : lo + m.size ≤ xs.size) : (back xs lo m).toList = xs.toList.take lo ++ (m.toList ++ xs.toList.drop (lo + m.size)) := by
 apply List.ext_getElem?
 intro i
 have q := zhZ lo m.toList 0 xs (by rw [Array.length_toList]; omega) i
 unfold back
 rw [Array.getElem?_toList, q, Array.length_toList, Nat.add_zero]
 have l1 : (xs.toList.take lo).length = lo := by rw [List.length_take, Array.length_toList]; omega
 by_cases h1 : i < lo
 ·rw [if_neg (by omega), List.getElem?_append_left (by rw [l1]; exact h1), List.getElem?_take, if_pos h1, Array.getElem?_toList]
 ·rw [List.getElem?_append_right (by rw [l1]; omega), l1]
  by_cases h2 : i < lo + m.size
  ·rw [if_pos (by omega), List.getElem?_append_left (by rw [Array.length_toList]; omega)]
  ·rw [if_neg (by omega), List.getElem?_append_right (by rw [Array.length_toList]; omega), Array.length_toList, List.getElem?_drop, show lo + m.size + (i - lo - m.size) = i by omega, Array.getElem?_toList]
theorem zex {xs m : Array Keyed} {lo : Nat} (h : lo + m.size ≤ xs.size) (i : Nat) : (back xs lo m)[i]? = if lo ≤ i ∧ i < lo + m.size then m[i - lo]? else xs[i]? := by
 have q := zhZ lo m.toList 0 xs (by rw [Array.length_toList]; omega) i
 rw [Array.length_toList, Nat.add_zero, Array.getElem?_toList] at q
 exact q
theorem zgb {xs : Array Keyed} {lo n : Nat} {p : Keyed} (h : lo + n ≤ xs.size) (hp : p ∈ seg xs lo n) : ∃ q, lo ≤ q ∧ q < lo + n ∧ xs[q]? = some p := by
 obtain ⟨i, hi, e⟩ := List.getElem_of_mem hp
 have hi' := hi
 rw [zcu h] at hi'
 refine ⟨lo + i, by omega, by omega, ?_⟩
 rw [← zfc h hi', List.getElem?_eq_getElem hi, e]
theorem zje {xs m : Array Keyed} {sa na nb k nb' : Nat} (hz : sa + na + nb ≤ xs.size) (ua : Up κ xs sa (sa + na)) (ub : Up κ xs (sa + na) (sa + na + nb)) (hk : k < na) (hnb : nb' ≤ nb) (hb0 : 0 < nb')
  (k2 : ∀ i, i < k → κ.kle (kAt κ xs (sa + i)) (kAt κ xs (sa + na))) (c3 : ∀ i, nb' ≤ i → i < nb → κ.kle (kAt κ xs (sa + na - 1)) (kAt κ xs (sa + na + i)))
  (hm : zcf κ (xs.extract (sa + k) (sa + na)) (xs.extract (sa + na) (sa + na + nb')) m) :
  Off xs (back xs (sa + k) m) sa (sa + (na + nb)) ∧ Up κ (back xs (sa + k) m) sa (sa + (na + nb)) := by
 have ex : (xs.extract (sa + k) (sa + na)).toList = seg xs (sa + k) (na - k) := by
  have := zgc (xs := xs) (lo := sa + k) (n := na - k)
  rwa [show sa + k + (na - k) = sa + na by omega] at this
 have ey : (xs.extract (sa + na) (sa + na + nb')).toList = seg xs (sa + na) nb' := zgc
 have hp := hm.perm
 rw [ex, ey] at hp
 have ms : m.size = na - k + nb' := by
  have := hp.length_eq
  rw [Array.length_toList, List.length_append, zcu (by omega), zcu (by omega)] at this
  exact this
 have hzm : sa + k + m.size ≤ xs.size := by omega
 have bl := back_list hzm
 have mid : seg xs (sa + k) m.size = seg xs (sa + k) (na - k) ++ seg xs (sa + na) nb' := by
  rw [ms, zi4, show sa + k + (na - k) = sa + na by omega]
 have perm : (back xs (sa + k) m).toList.Perm xs.toList := by
  have e := zjO hzm
  rw [mid] at e
  refine (List.Perm.of_eq bl).trans (List.Perm.trans ?_ (List.Perm.of_eq e.symm))
  exact List.Perm.append_left _ (List.Perm.append_right _ hp)
 have inm : ∀ i, sa + k ≤ i → i < sa + k + m.size → ∃ q, sa + k ≤ q ∧ q < sa + na + nb' ∧ kAt κ (back xs (sa + k) m) i = kAt κ xs q := by
  intro i h1 h2
  have g := zex hzm i
  rw [if_pos ⟨h1, h2⟩, Array.getElem?_eq_getElem (show i - (sa + k) < m.size by omega)] at g
  have hmem : m[i - (sa + k)]'(by omega) ∈ m.toList := by simp
  rcases List.mem_append.mp (hp.mem_iff.mp hmem) with z | z
  ·obtain ⟨q, q1, q2, e⟩ := zgb (by omega) z
   exact ⟨q, q1, by omega, zbz (g.trans e.symm)⟩
  ·obtain ⟨q, q1, q2, e⟩ := zgb (by omega) z
   exact ⟨q, by omega, q2, zbz (g.trans e.symm)⟩
 have outm : ∀ i, (i < sa + k ∨ sa + k + m.size ≤ i) → kAt κ (back xs (sa + k) m) i = kAt κ xs i := fun i h => zbz (by rw [zex hzm, if_neg (by omega)])
 have am : ∀ i q, sa ≤ i → i < sa + k → sa + k ≤ q → q < sa + na + nb → κ.kle (kAt κ xs i) (kAt κ xs q) := fun i q h1 h2 h3 h4 => by
  by_cases z : q < sa + na
  ·exact ua i q h1 (by omega) z
  ·have t := k2 (i - sa) (by omega)
   rw [show sa + (i - sa) = i by omega] at t
   exact KeyOrd.kle_trans t (ub _ q (Nat.le_refl _) (by omega) h4)
 have mc : ∀ q j, sa + k ≤ q → q < sa + na + nb' → sa + na + nb' ≤ j → j < sa + na + nb → κ.kle (kAt κ xs q) (kAt κ xs j) := fun q j h1 h2 h3 h4 => by
  by_cases z : q < sa + na
  ·have t := c3 (j - (sa + na)) (by omega) (by omega)
   rw [show sa + na + (j - (sa + na)) = j by omega] at t
   exact KeyOrd.kle_trans (ua q (sa + na - 1) (by omega) (by omega) (by omega)) t
  ·exact ub q j (by omega) (by omega) h4
 refine ⟨⟨Array.perm_iff_toList_perm.mpr perm, fun i hi => by rw [zex hzm, if_neg (by omega)]⟩, fun i j h1 h2 h3 => ?_⟩
 by_cases i1 : i < sa + k
 ·rw [outm i (.inl i1)]
  by_cases j1 : j < sa + k
  ·rw [outm j (.inl j1)]; exact ua i j h1 h2 (by omega)
  ·by_cases j2 : j < sa + k + m.size
   ·obtain ⟨q, q1, q2, e⟩ := inm j (by omega) j2
    rw [e]; exact am i q h1 i1 q1 (by omega)
   ·rw [outm j (.inr (by omega))]; exact am i j h1 i1 (by omega) (by omega)
 ·by_cases i2 : i < sa + k + m.size
  ·by_cases j2 : j < sa + k + m.size
   ·by_cases e : i = j
    ·subst e; exact KeyOrd.kle_refl _
    ·have gi := zex hzm i
     have gj := zex hzm j
     rw [if_pos ⟨by omega, i2⟩] at gi
     rw [if_pos ⟨by omega, j2⟩] at gj
     rw [zbz gi, zbz gj, za7 (show i - (sa + k) < m.size by omega), za7 (show j - (sa + k) < m.size by omega)]
     have := List.pairwise_iff_getElem.mp hm.srt (i - (sa + k)) (j - (sa + k)) (by rw [Array.length_toList]; omega) (by rw [Array.length_toList]; omega) (by omega)
     simpa [le] using this
   ·obtain ⟨q, q1, q2, e⟩ := inm i (by omega) i2
    rw [e, outm j (.inr (by omega))]; exact mc q j q1 q2 (by omega) (by omega)
  ·rw [outm i (.inr (by omega)), outm j (.inr (by omega))]; exact ub i j (by omega) h2 (by omega)
theorem zjt {xs : Array Keyed} {sa na nb : Nat} (ua : Up κ xs sa (sa + na)) (ub : Up κ xs (sa + na) (sa + na + nb)) (hna : 0 < na) (hle : κ.kle (kAt κ xs (sa + na - 1)) (kAt κ xs (sa + na))) : Up κ xs sa (sa + (na + nb)) := by
 intro i j h1 h2 h3
 by_cases z : j < sa + na
 ·exact ua i j h1 h2 z
 ·by_cases y : i < sa + na
  ·exact KeyOrd.kle_trans (ua i (sa + na - 1) h1 (by omega) (by omega)) (KeyOrd.kle_trans hle (ub (sa + na) j (Nat.le_refl _) (by omega) (by omega)))
  ·exact ub i j (by omega) h2 (by omega)
end
end Tim
namespace Tim
open PySem PyProof.Rows
set_option autoImplicit false
theorem zhC (i : Nat) : mergeAt' i = (do
 let s ← get
 let (some (sa, na, power), some (sb, nb, _)) := ((pendingOf s)[i]?, (pendingOf s)[i + 1]?) | unsupported "internal:list.sort.pending"
 set (setPending s (((pendingOf s).setIfInBounds i (sa, na + nb, power)).eraseIdxIfInBounds (i + 1)))
 let some k ← zhM false (← elem' (arrOf s) sb) (arrOf s) sa na 0 | return false
 let (sa, na) := (sa + k, na - k)
 if na == 0 then return true
 let some nb ← zhM true (← elem' (arrOf s) (sa + na - 1)) (arrOf s) sb nb (nb - 1) | return false
 if nb == 0 then return true
 let x := (arrOf s).extract sa sb
 let y := (arrOf s).extract sb (sb + nb)
 let merged ← if na ≤ nb then zix x y else ziy x y
 modify fun s => setArr s (merged.toList.zipIdx.foldl (fun a (p, j) => a.setIfInBounds (sa + j) p) (arrOf s))
 return (failedOf (← get)).isNone) := rfl
section
variable {prog : Program} {w : World} {A : Around} {E : Value → Shared → Prop} {s : Shared} {κ : KeyKind} {kd : SortKind}
theorem wpS_set {σ : Type} {x : σ} {Q : PUnit → σ → Prop} {st : σ} (h : Q ⟨⟩ x) : wpS (model prog w) A E s (set x : StateT σ Sem PUnit) Q st := by
 unfold wpS; rw [StateT.run_set]; exact wpAny_pure ⟨rfl, h⟩
set_option maxHeartbeats 4000000 in
theorem ziY {st : SortSt} {N i sa na pa nb pb : Nat} {Q : Bool → SortSt → Prop} (hO : LtG prog w A s κ kd) (hB : TB κ kd N st)
  (h1 : (pendingOf st)[i]? = some (sa, na, pa)) (h2 : (pendingOf st)[i + 1]? = some (sa + na, nb, pb)) (hna : 0 < na) (hnb : 0 < nb) (hz : sa + na + nb ≤ N)
  (ua : Up κ (arrOf st) sa (sa + na)) (ub : Up κ (arrOf st) (sa + na) (sa + na + nb))
  (h : ∀ st', TB κ kd N st' → Off (arrOf st) (arrOf st') sa (sa + (na + nb)) → Up κ (arrOf st') sa (sa + (na + nb)) → pendingOf st' = ((pendingOf st).setIfInBounds i (sa, na + nb, pa)).eraseIdxIfInBounds (i + 1) → Q true st') :
  wpS (model prog w) A E s (mergeAt' i) Q st := by
 have hsz := hB.size
 rw [zhC]
 refine wpS_bind (wpS_get ?_)
 rw [h1, h2]
 dsimp only
 refine wpS_bind (wpS_set ?_)
 generalize hp : ((pendingOf st).setIfInBounds i (sa, na + nb, pa)).eraseIdxIfInBounds (i + 1) = pend at h
 have same : ∀ st', SG (setPending st pend) st' → TB κ kd N st' ∧ arrOf st' = arrOf st ∧ pendingOf st' = pend := fun st' g => by
  have ga : arrOf st' = arrOf st := g.arr
  refine ⟨⟨g.kind.trans hB.kind, by rw [ga]; exact hB.keys, g.failed.trans hB.failed, by rw [ga]; exact hB.size⟩, ga, g.pend⟩
 obtain ⟨B0, _, _⟩ := same _ (SG.refl _)
 have hbz : sa + na < (arrOf st).size := by omega
 refine wpS_bind (zaP hbz ?_)
 refine wpS_bind (zb8 hO B0.kind (hB.keys _ (by simp)) hB.keys (by omega) hna ua fun k k1 k2 k3 => ?_)
 dsimp only
 have kk : kAt κ (arrOf st) (sa + na) = ky κ (arrOf st)[sa + na] := za7 hbz
 have k2' : ∀ i, i < k → κ.kle (kAt κ (arrOf st) (sa + i)) (kAt κ (arrOf st) (sa + na)) := fun i hi => by
  have := k2 i hi
  unfold bey at this
  simp only [Bool.false_eq_true, if_false, Bool.not_eq_true'] at this
  rw [kk]
  exact this
 have k3' : ∀ i, k ≤ i → i < na → κ.klt (kAt κ (arrOf st) (sa + na)) (kAt κ (arrOf st) (sa + i)) := fun i hi hj => by
  have := k3 i hi hj
  unfold bey at this
  simp only [Bool.false_eq_true, if_false, Bool.not_eq_false'] at this
  rw [kk]
  exact this
 by_cases e1 : na - k = 0
 ·rw [if_pos (by simpa using e1)]
  obtain ⟨b1, b2, b3⟩ := same _ (SG.refl _)
  refine wpS_pure (h _ b1 (by rw [b2]; exact Off.refl _ _ _) ?_ b3)
  rw [b2]
  refine zjt ua ub hna ?_
  have := k2' (na - 1) (by omega)
  rwa [show sa + (na - 1) = sa + na - 1 by omega] at this
 rw [if_neg (by simpa using e1)]
 have e2 : sa + k + (na - k) - 1 = sa + na - 1 := by omega
 have hlz : sa + k + (na - k) - 1 < (arrOf st).size := by omega
 refine wpS_bind (zaP hlz ?_)
 refine wpS_bind (zb8 hO B0.kind (hB.keys _ (by simp)) hB.keys (by omega) (by omega) ub fun c c1 c2 c3 => ?_)
 dsimp only
 have ck : ky κ ((arrOf st)[sa + k + (na - k) - 1]'hlz) = kAt κ (arrOf st) (sa + na - 1) := by
  rw [← za7 hlz, e2]
 have c2' : ∀ i, i < c → κ.klt (kAt κ (arrOf st) (sa + na + i)) (kAt κ (arrOf st) (sa + na - 1)) := fun i hi => by
  have := c2 i hi
  unfold bey at this
  simp only [if_true] at this
  rw [← ck]
  exact this
 have c3' : ∀ i, c ≤ i → i < nb → κ.kle (kAt κ (arrOf st) (sa + na - 1)) (kAt κ (arrOf st) (sa + na + i)) := fun i hi hj => by
  have := c3 i hi hj
  unfold bey at this
  simp only [if_true] at this
  rw [← ck]
  exact this
 by_cases e3 : c = 0
 ·rw [if_pos (by simpa using e3)]
  obtain ⟨b1, b2, b3⟩ := same _ (SG.refl _)
  refine wpS_pure (h _ b1 (by rw [b2]; exact Off.refl _ _ _) ?_ b3)
  rw [b2]
  exact zjt ua ub hna (c3' 0 (by omega) hnb)
 rw [if_neg (by simpa using e3)]
 generalize hX : (arrOf st).extract (sa + k) (sa + na) = X
 generalize hY : (arrOf st).extract (sa + na) (sa + na + c) = Y
 have xl : X.toList = seg (arrOf st) (sa + k) (na - k) := by
  have := zgc (xs := arrOf st) (lo := sa + k) (n := na - k)
  rw [← hX]
  rwa [show sa + k + (na - k) = sa + na by omega] at this
 have yl : Y.toList = seg (arrOf st) (sa + na) c := by rw [← hY]; exact zgc
 have xz : X.size = na - k := by
  have := congrArg List.length xl
  rwa [Array.length_toList, zcu (by omega)] at this
 have yz : Y.size = c := by
  have := congrArg List.length yl
  rwa [Array.length_toList, zcu (by omega)] at this
 have xg : ∀ i (hi : i < X.size), X[i] = (arrOf st)[sa + k + i]'(by omega) := fun i hi => by
  have e : X[i]? = (arrOf st)[sa + k + i]? := by
   rw [← Array.getElem?_toList, xl]
   exact zfc (by omega) (by omega)
  rw [Array.getElem?_eq_getElem hi, Array.getElem?_eq_getElem (by omega)] at e
  exact Option.some.inj e
 have yg : ∀ i (hi : i < Y.size), Y[i] = (arrOf st)[sa + na + i]'(by omega) := fun i hi => by
  have e : Y[i]? = (arrOf st)[sa + na + i]? := by
   rw [← Array.getElem?_toList, yl]
   exact zfc (by omega) (by omega)
  rw [Array.getElem?_eq_getElem hi, Array.getElem?_eq_getElem (by omega)] at e
  exact Option.some.inj e
 have xm : ∀ q ∈ X.toList, ∃ i, k ≤ i ∧ i < na ∧ ky κ q = kAt κ (arrOf st) (sa + i) ∧ q ∈ (arrOf st).toList := fun q hq => by
  rw [xl] at hq
  obtain ⟨j, j1, j2, e⟩ := zgb (by omega) hq
  refine ⟨j - sa, by omega, by omega, ?_, ?_⟩
  ·rw [show sa + (j - sa) = j by omega, zcr e]
  ·rw [← Array.getElem?_toList] at e
   exact List.mem_of_getElem? e
 have ym : ∀ q ∈ Y.toList, ∃ i, i < c ∧ ky κ q = kAt κ (arrOf st) (sa + na + i) ∧ q ∈ (arrOf st).toList := fun q hq => by
  rw [yl] at hq
  obtain ⟨j, j1, j2, e⟩ := zgb (by omega) hq
  refine ⟨j - (sa + na), by omega, ?_, ?_⟩
  ·rw [show sa + na + (j - (sa + na)) = j by omega, zcr e]
  ·rw [← Array.getElem?_toList] at e
   exact List.mem_of_getElem? e
 have kX : ∀ q ∈ X.toList, Keyd κ q := fun q hq => by obtain ⟨_, _, _, _, z⟩ := xm q hq; exact hB.keys q z
 have kY : ∀ q ∈ Y.toList, Keyd κ q := fun q hq => by obtain ⟨_, _, _, z⟩ := ym q hq; exact hB.keys q z
 have sX : SL κ X.toList := by
  rw [xl]
  exact seg_up (by omega) (fun i j q1 q2 q3 => ua i j (by omega) q2 (by omega))
 have sY : SL κ Y.toList := by
  rw [yl]
  exact seg_up (by omega) (fun i j q1 q2 q3 => ub i j q1 q2 (by omega))
 have y0 : ∀ (hb : 0 < Y.size), ky κ Y[0] = kAt κ (arrOf st) (sa + na) := fun hb => by
  rw [yg 0 hb, ← za7]
  rfl
 have lo0 : ∀ (hb : 0 < Y.size), ∀ q ∈ X.toList, le κ Y[0] q := fun hb q hq => by
  obtain ⟨i, i1, i2, e, _⟩ := xm q hq
  unfold le
  rw [y0 hb, e]
  exact KeyOrd.kle_of_klt (k3' i i1 i2)
 have xlast : ∀ (ha : X.size - 1 < X.size), ky κ X[X.size - 1] = kAt κ (arrOf st) (sa + na - 1) := fun ha => by
  rw [xg _ ha, ← za7]
  congr 1
  omega
 have hi0 : ∀ (ha : X.size - 1 < X.size), ∀ q ∈ Y.toList, le κ q X[X.size - 1] := fun ha q hq => by
  obtain ⟨i, i1, e, _⟩ := ym q hq
  unfold le
  rw [xlast ha, e]
  exact KeyOrd.kle_of_klt (c2' i i1)
 have fin : ∀ m st', zcf κ X Y m → SG (setPending st pend) st' → wpS (model prog w) A E s (do
   modify fun s => setArr s (m.toList.zipIdx.foldl (fun a (q : Keyed × Nat) => a.setIfInBounds (sa + k + q.2) q.1) (arrOf s))
   return (failedOf (← get)).isNone) Q st' := fun m st' hm g => by
  obtain ⟨b1, b2, b3⟩ := same _ g
  refine wpS_bind (wpS_modify ?_)
  refine wpS_bind (wpS_get ?_)
  have hf : failedOf (setArr st' (m.toList.zipIdx.foldl (fun a (q : Keyed × Nat) => a.setIfInBounds (sa + k + q.2) q.1) (arrOf st'))) = none := b1.failed
  rw [hf]
  rw [← hX, ← hY] at hm
  obtain ⟨o1, o2⟩ := zje (by omega) ua ub (by omega) c1 (by omega) k2' c3' hm
  refine wpS_pure (h _ ?_ ?_ ?_ b3)
  ·refine b1.off (lo := sa) (hi := sa + (na + nb)) ?_
   rw [b2]
   exact o1
  ·show Off (arrOf st) (back (arrOf st') (sa + k) m) _ _
   rw [b2]
   exact o1
  ·show Up κ (back (arrOf st') (sa + k) m) _ _
   rw [b2]
   exact o2
 by_cases e4 : na - k ≤ c
 ·rw [if_pos e4]
  refine wpS_bind ?_
  refine ziW hO B0.kind kX kY sX sY (by omega) (by omega) (lo0 _) ?_ fun m st' hm g => fin m st' hm g
  intro q hq i hi x hx
  have : x = X[X.size - 1]'(by omega) := by
   rw [show i = X.size - 1 by omega, zeu (by omega), List.drop_eq_nil_of_le (by rw [Array.length_toList]; omega)] at hx
   exact List.mem_singleton.mp hx
  rw [this]
  exact hi0 _ q hq
 ·rw [if_neg e4]
  refine wpS_bind ?_
  exact ziX hO B0.kind kX kY sX sY (by omega) (by omega) (lo0 _) (hi0 (by omega)) fun m st' hm g => fin m st' hm g
end
end Tim
namespace Tim
open PySem PyProof.Rows
set_option autoImplicit false
section
variable {κ : KeyKind} {xs ys : Array Keyed}
def Runs (κ : KeyKind) (xs : Array Keyed) : List (Nat × Nat × Nat) → Nat → Nat → Prop
 | [], a, b => a = b
 | (s, n, _) :: r, a, b => s = a ∧ 0 < n ∧ Up κ xs a (a + n) ∧ Runs κ xs r (a + n) b
theorem Runs.le : ∀ {l : List (Nat × Nat × Nat)} {a b : Nat}, Runs κ xs l a b → a + l.length ≤ b
 | [], _, _, h => by rw [show _ = _ from h]; simp
 | (s, n, p) :: r, a, b, ⟨_, h1, _, h2⟩ => by
  have := Runs.le h2
  rw [List.length_cons]
  omega
theorem Runs.split : ∀ {l m : List (Nat × Nat × Nat)} {a b : Nat}, Runs κ xs (l ++ m) a b → ∃ c, Runs κ xs l a c ∧ Runs κ xs m c b
 | [], m, a, b, h => ⟨a, rfl, h⟩
 | (s, n, p) :: r, m, a, b, ⟨h0, h1, h2, h3⟩ => by
  obtain ⟨c, c1, c2⟩ := Runs.split (l := r) h3
  exact ⟨c, ⟨h0, h1, h2, c1⟩, c2⟩
theorem Runs.glue : ∀ {l m : List (Nat × Nat × Nat)} {a b c : Nat}, Runs κ xs l a c → Runs κ xs m c b → Runs κ xs (l ++ m) a b
 | [], m, a, b, c, h, g => by rw [show a = c from h]; exact g
 | (s, n, p) :: r, m, a, b, c, ⟨h0, h1, h2, h3⟩, g => ⟨h0, h1, h2, Runs.glue h3 g⟩
theorem Up.off {lo hi a b : Nat} (h : Up κ xs a b) (o : Off xs ys lo hi) (d : b ≤ lo ∨ hi ≤ a) : Up κ ys a b := fun i j h1 h2 h3 => by
 rw [zhK o (by omega), zhK o (by omega)]
 exact h i j h1 h2 h3
theorem Runs.off {lo hi : Nat} (o : Off xs ys lo hi) : ∀ {l : List (Nat × Nat × Nat)} {a b : Nat}, Runs κ xs l a b → (b ≤ lo ∨ hi ≤ a) → Runs κ ys l a b
 | [], _, _, h, _ => h
 | (s, n, p) :: r, a, b, ⟨h0, h1, h2, h3⟩, d => by
  have := Runs.le h3
  exact ⟨h0, h1, h2.off o (by omega), Runs.off o h3 (by omega)⟩
theorem zgN {α : Type} {x y v : α} {post : List α} : ∀ pre : List α, ((pre ++ x :: y :: post).set pre.length v).eraseIdx (pre.length + 1) = pre ++ v :: post
 | [] => rfl
 | p :: pre => by
  rw [List.cons_append, List.length_cons, List.set_cons_succ, List.eraseIdx_cons_succ, zgN pre, List.cons_append]
end
section
variable {prog : Program} {w : World} {A : Around} {E : Value → Shared → Prop} {s : Shared} {κ : KeyKind} {kd : SortKind}
structure SI (κ : KeyKind) (kd : SortKind) (a₀ : Array Keyed) (lo : Nat) (st : SortSt) : Prop where
 tb : TB κ kd a₀.size st
 perm : (arrOf st).Perm a₀
 le : lo ≤ a₀.size
 runs : Runs κ (arrOf st) (pendingOf st).toList 0 lo
theorem zdu {a₀ : Array Keyed} {st : SortSt} {lo i : Nat} {Q : Bool → SortSt → Prop} (hO : LtG prog w A s κ kd) (hI : SI κ kd a₀ lo st) (hi : i + 1 < (pendingOf st).size)
  (h : ∀ st', SI κ kd a₀ lo st' → Off (arrOf st) (arrOf st') 0 lo → (pendingOf st').size + 1 = (pendingOf st).size → Q true st') : wpS (model prog w) A E s (mergeAt' i) Q st := by
 have hl : (pendingOf st).toList.length = (pendingOf st).size := Array.length_toList
 obtain ⟨pre, x, y, post, e, hp⟩ : ∃ pre x y post, (pendingOf st).toList = pre ++ x :: y :: post ∧ pre.length = i := by
  refine ⟨(pendingOf st).toList.take i, (pendingOf st).toList[i]'(by omega), (pendingOf st).toList[i + 1]'(by omega), (pendingOf st).toList.drop (i + 2), ?_, ?_⟩
  ·rw [← List.drop_eq_getElem_cons, ← List.drop_eq_getElem_cons, List.take_append_drop]
  ·rw [List.length_take]
   omega
 obtain ⟨sa, na, pa⟩ := x
 obtain ⟨sb, nb, pb⟩ := y
 have hr := hI.runs
 rw [e] at hr
 obtain ⟨c, r1, h0, h1, ua, h2, h3, ub, r2⟩ := hr.split
 subst h0 h2
 have l1 := r2.le
 have l0 := hI.le
 have g1 : (pendingOf st)[i]? = some (sa, na, pa) := by
  rw [← Array.getElem?_toList, e, ← hp]
  simp
 have g2 : (pendingOf st)[i + 1]? = some (sa + na, nb, pb) := by
  rw [← Array.getElem?_toList, e, ← hp, List.getElem?_append_right (by omega), show pre.length + 1 - pre.length = 1 by omega]
  rfl
 refine ziY hO hI.tb g1 g2 h1 h3 (by omega) ua ub fun st' b1 b2 b3 b4 => ?_
 have e' : (pendingOf st').toList = pre ++ (sa, na + nb, pa) :: post := by
  rw [b4, Array.toList_eraseIdxIfInBounds, Array.toList_setIfInBounds, e, ← hp]
  exact zgN pre
 refine h st' ⟨b1, b2.perm.trans hI.perm, hI.le, ?_⟩ (b2.wide (Nat.zero_le _) (by omega)) ?_
 ·rw [e']
  refine (r1.off b2 (.inl (Nat.le_refl _))).glue ⟨rfl, by omega, b3, ?_⟩
  have := r2.off b2 (.inr (by omega))
  rwa [show sa + na + nb = sa + (na + nb) by omega] at this
 ·have z1 := congrArg List.length e
  have z2 := congrArg List.length e'
  rw [Array.length_toList, List.length_append, List.length_cons] at z1 z2
  rw [List.length_cons] at z1
  omega
end
end Tim
namespace Tim
open PySem PyProof.Rows
set_option autoImplicit false
section
variable {prog : Program} {w : World} {A : Around} {E : Value → Shared → Prop} {s : Shared} {κ : KeyKind} {kd : SortKind}
theorem Runs.modify {xs : Array Keyed} {p : Nat} : ∀ {l : List (Nat × Nat × Nat)} {a b : Nat} (i : Nat), Runs κ xs l a b → Runs κ xs (l.modify i fun x => (x.fst, x.2.fst, p)) a b
 | [], _, _, i, h => by
  cases i <;> exact h
 | (s, n, q) :: r, a, b, 0, h => h
 | (s, n, q) :: r, a, b, i + 1, ⟨h0, h1, h2, h3⟩ => ⟨h0, h1, h2, Runs.modify i h3⟩
theorem SI.setp {a₀ : Array Keyed} {lo hi : Nat} {st : SortSt} {p : Array (Nat × Nat × Nat)} (hI : SI κ kd a₀ lo st) (hz : hi ≤ a₀.size) (hr : Runs κ (arrOf st) p.toList 0 hi) : SI κ kd a₀ hi (setPending st p) :=
 ⟨⟨hI.tb.kind, hI.tb.keys, hI.tb.failed, hI.tb.size⟩, hI.perm, hz, hr⟩
theorem SI.pushed {a₀ : Array Keyed} {st : SortSt} {lo n : Nat} (hI : SI κ kd a₀ lo st) (hn : 0 < n) (hz : lo + n ≤ a₀.size) (hU : Up κ (arrOf st) lo (lo + n)) : SI κ kd a₀ (lo + n) (setPending st ((pendingOf st).push (lo, n, 0))) := by
 refine hI.setp hz ?_
 rw [Array.toList_push]
 exact hI.runs.glue ⟨rfl, hn, hU, rfl⟩
theorem SI.marked {a₀ : Array Keyed} {st : SortSt} {lo p : Nat} (hI : SI κ kd a₀ lo st) : SI κ kd a₀ lo (setPending st ((pendingOf st).modify ((pendingOf st).size - 1) fun x => (x.fst, x.2.fst, p))) := by
 refine hI.setp hI.le ?_
 rw [Array.toList_modify]
 exact hI.runs.modify _
theorem two_less {c : Prop} [Decidable c] {n : Nat} (h : 2 ≤ n) : (if c then n - 2 - 1 else n - 2) + 1 < n := by
 split <;> omega
theorem zho {a₀ : Array Keyed} {st : SortSt} {Q : Unit → SortSt → Prop} (hO : LtG prog w A s κ kd) (hI : SI κ kd a₀ 0 st) (h2 : 2 ≤ a₀.size)
  (h : ∀ st', (arrOf st').Perm a₀ → failedOf st' = none → Up κ (arrOf st') 0 a₀.size → Q () st') : wpS (model prog w) A E s sortRuns' Q st := by
 rw [sortRuns'_eq]
 refine wpS_bind (wpS_get ?_)
 dsimp only
 simp only [hI.tb.size]
 generalize minRun' a₀.size a₀.size 0 = mr
 refine wpS_bind (wpS_mono (wpS_forRange (I := fun x c st' => ∃ lo, c = (none, lo) ∧ x ≤ lo ∧ SI κ kd a₀ lo st') (Q := fun c st' => c = (none, a₀.size) ∧ SI κ kd a₀ a₀.size st') ?step ?fin ⟨0, rfl, Nat.le_refl _, hI⟩) ?post)
 case fin =>
  rintro c st' ⟨lo, rfl, hx, hI'⟩
  have e : lo = a₀.size := by
   have := hI'.le
   omega
  subst e
  exact ⟨rfl, hI'⟩
 case step =>
  rintro x c st' _ hx ⟨lo, rfl, hxl, hI'⟩
  have hle := hI'.le
  dsimp only
  by_cases hlo : lo ≥ a₀.size
  ·rw [if_pos hlo]
   have e : lo = a₀.size := by omega
   subst e
   exact wpS_pure ⟨rfl, hI'⟩
  ·rw [if_neg hlo]
   refine wpS_bind (zhp hO hI'.tb (by omega) (by omega) fun r st2 hr => ?_)
   obtain ⟨n, ys, rfl, n1, n2, rfl, ho, hU⟩ := hr
   have hI2 : SI κ kd a₀ lo (setArr st' ys) := ⟨hI'.tb.off ho, ho.perm.trans hI'.perm, hle, hI'.runs.off ho (.inl (Nat.le_refl _))⟩
   dsimp only
   by_cases hmr : n < mr
   ·rw [if_pos hmr]
    refine wpS_bind (zda (wpS_bind (zf5 hO hI2.tb (by omega) (by omega) hU fun zs oz uz => ?_)))
    simp only [Bool.not_true, Bool.false_eq_true, if_false]
    have hI3 : SI κ kd a₀ lo (setArr st' zs) := ⟨hI2.tb.off oz, oz.perm.trans hI2.perm, hle, hI2.runs.off oz (.inl (Nat.le_refl _))⟩
    refine wpS_bind (wpS_get ?_)
    cases hb : (pendingOf (setArr st' zs)).back? with
    | none =>
     dsimp only
     exact wpS_bind (wpS_modify (wpS_pure ⟨_, rfl, by omega, hI3.pushed (by omega) (by omega) uz⟩))
    | some x1 =>
     obtain ⟨s1, n1', p1⟩ := x1
     dsimp only
     refine wpS_bind (wpS_mono (wpS_forRange (I := fun _ c st5 => c = (none, ()) ∧ SI κ kd a₀ lo st5 ∧ Up κ (arrOf st5) lo (lo + (min (a₀.size - lo) mr))) (Q := fun c st5 => c = (none, ()) ∧ SI κ kd a₀ lo st5 ∧ Up κ (arrOf st5) lo (lo + (min (a₀.size - lo) mr))) ?_ (fun _ _ z => z) ⟨rfl, hI3, uz⟩) ?_)
     ·rintro i c st5 _ _ ⟨rfl, hI5, hU5⟩
      refine wpS_bind (wpS_get ?_)
      by_cases h1 : (pendingOf st5).size > 1
      ·rw [if_pos h1, Array.getElem?_eq_getElem (by omega)]
       obtain ⟨q1, q2, q3⟩ := (pendingOf st5)[(pendingOf st5).size - 2]'(by omega)
       dsimp only
       split
       ·exact wpS_pure ⟨rfl, hI5, hU5⟩
       ·refine wpS_bind (zdu hO hI5 (by omega) fun st6 h3 h4 _ => ?_)
        simp only [Bool.not_true, Bool.false_eq_true, if_false]
        exact wpS_pure ⟨rfl, h3, hU5.off h4 (.inr (Nat.le_refl _))⟩
      ·rw [if_neg h1]
       exact wpS_pure ⟨rfl, hI5, hU5⟩
     ·rintro c st5 ⟨rfl, hI5, hU5⟩
      dsimp only
      exact wpS_bind (wpS_modify (wpS_bind (wpS_modify (wpS_pure ⟨_, rfl, by omega, SI.pushed (SI.marked hI5) (by omega) (by omega) hU5⟩))))
   ·rw [if_neg hmr]
    refine wpS_bind (wpS_get ?_)
    cases hb : (pendingOf (setArr st' ys)).back? with
    | none =>
     dsimp only
     exact wpS_bind (wpS_modify (wpS_pure ⟨_, rfl, by omega, hI2.pushed (by omega) (by omega) hU⟩))
    | some x1 =>
     obtain ⟨s1, n1', p1⟩ := x1
     dsimp only
     refine wpS_bind (wpS_mono (wpS_forRange (I := fun _ c st5 => c = (none, ()) ∧ SI κ kd a₀ lo st5 ∧ Up κ (arrOf st5) lo (lo + n)) (Q := fun c st5 => c = (none, ()) ∧ SI κ kd a₀ lo st5 ∧ Up κ (arrOf st5) lo (lo + n)) ?_ (fun _ _ z => z) ⟨rfl, hI2, hU⟩) ?_)
     ·rintro i c st5 _ _ ⟨rfl, hI5, hU5⟩
      refine wpS_bind (wpS_get ?_)
      by_cases h1 : (pendingOf st5).size > 1
      ·rw [if_pos h1, Array.getElem?_eq_getElem (by omega)]
       obtain ⟨q1, q2, q3⟩ := (pendingOf st5)[(pendingOf st5).size - 2]'(by omega)
       dsimp only
       split
       ·exact wpS_pure ⟨rfl, hI5, hU5⟩
       ·refine wpS_bind (zdu hO hI5 (by omega) fun st6 h3 h4 _ => ?_)
        simp only [Bool.not_true, Bool.false_eq_true, if_false]
        exact wpS_pure ⟨rfl, h3, hU5.off h4 (.inr (Nat.le_refl _))⟩
      ·rw [if_neg h1]
       exact wpS_pure ⟨rfl, hI5, hU5⟩
     ·rintro c st5 ⟨rfl, hI5, hU5⟩
      dsimp only
      exact wpS_bind (wpS_modify (wpS_bind (wpS_modify (wpS_pure ⟨_, rfl, by omega, SI.pushed (SI.marked hI5) (by omega) (by omega) hU5⟩))))
 case post =>
  rintro c st' ⟨rfl, hI'⟩
  dsimp only
  refine wpS_bind (wpS_mono (wpS_forRange (I := fun x c st'' => c = (none, ()) ∧ SI κ kd a₀ a₀.size st'' ∧ (pendingOf st'').size + x ≤ a₀.size + 1) (Q := fun c st'' => c = (none, ()) ∧ SI κ kd a₀ a₀.size st'' ∧ (pendingOf st'').size ≤ 1) ?_ ?_ ⟨rfl, hI', ?_⟩) ?_)
  ·rintro x c st'' _ hx ⟨rfl, hJ, hz⟩
   refine wpS_bind (wpS_get ?_)
   by_cases h1 : (pendingOf st'').size ≤ 1
   ·rw [if_pos h1]
    exact wpS_pure ⟨rfl, hJ, h1⟩
   ·rw [if_neg h1]
    refine wpS_bind (zdu hO hJ ?_ fun st3 h3 _ h4 => ?_)
    ·exact two_less (by omega)
    ·simp only [Bool.not_true, Bool.false_eq_true, if_false]
     exact wpS_pure ⟨rfl, h3, by omega⟩
  ·rintro c st'' ⟨rfl, hJ, hz⟩
   exact ⟨rfl, hJ, by omega⟩
  ·have := hI'.runs.le
   rw [Array.length_toList] at this
   omega
  ·rintro c st'' ⟨rfl, hJ, hz⟩
   dsimp only
   refine wpS_pure (h _ hJ.perm hJ.tb.failed ?_)
   have hr := hJ.runs
   rw [← Array.length_toList] at hz
   match e : (pendingOf st'').toList, hz, hr with
   | [], _, hr =>
    have : 0 = a₀.size := hr
    omega
   | [(s1, n1, p1)], _, hr =>
    obtain ⟨_, _, u, z⟩ := hr
    have z : 0 + n1 = a₀.size := z
    rw [z] at u
    exact u
end
end Tim
namespace Tim
open PySem PyProof.Rows
set_option autoImplicit false
section
variable {prog : Program} {w : World} {A : Around} {E : Value → Shared → Prop} {s : Shared} {κ : KeyKind} {kd : SortKind}
def zfx (a : Addr) (h h' : Heap) : Prop := ∀ b o, b ≠ a → h.get? b = some o → h'.get? b = some o
def keyV (κ : KeyKind) (v : Value) : κ.α := (κ.keyOf v).getD κ.dflt
theorem zhm : ∀ vs : List Value, vs.zip vs = vs.map fun v => (v, v)
 | [] => rfl
 | v :: vs => by rw [List.zip_cons_cons, zhm vs, List.map_cons]
theorem zgk {vs : List Value} {p : Keyed} (h : p ∈ (pairsOf vs).toList) : p.1 = p.2 ∧ p.1 ∈ vs := by
 have e : (pairsOf vs).toList = vs.zip vs := by
  unfold pairsOf
  simp
 rw [e] at h
 rw [zhm] at h
 obtain ⟨v, hv, rfl⟩ := List.mem_map.mp h
 exact ⟨rfl, hv⟩
theorem pairs_snd (vs : List Value) : (pairsOf vs).toList.map (·.2) = vs := by
 have e : (pairsOf vs).toList = vs.zip vs := by
  unfold pairsOf
  simp
 rw [e, zhm, List.map_map]
 have z : ((fun x : Keyed => x.2) ∘ fun v : Value => (v, v)) = id := rfl
 first
  | rw [z, List.map_id]
  | exact List.map_id vs
theorem out_of {vs : List Value} {xs : Array Keyed} (hp : xs.Perm (pairsOf vs)) (hU : Up κ xs 0 (pairsOf vs).size) :
  (xs.toList.map (·.2)).Perm vs ∧ (xs.toList.map (·.2)).Pairwise (fun x y => κ.kle (keyV κ x) (keyV κ y)) := by
 have hpl := Array.perm_iff_toList_perm.mp hp
 refine ⟨?_, ?_⟩
 ·have := hpl.map (·.2)
  rwa [pairs_snd] at this
 ·have hs : SL κ xs.toList := list_up (by rw [hp.size_eq]; exact hU)
  refine List.pairwise_map.mpr (hs.imp_of_mem fun {a b} ha hb hab => ?_)
  have ea := (zgk (hpl.mem_iff.mp ha)).1
  have eb := (zgk (hpl.mem_iff.mp hb)).1
  unfold le ky at hab
  unfold keyV
  rw [← ea, ← eb]
  exact hab
theorem sort_G {a : Addr} {vs : List Value} {n : Nat} {P : Fin → Shared → Prop} (ho : s.heap.get? a = some (seqObj "list" vs.toArray n)) (hz : vs.length ≤ sizeLine) (keys : ∀ v ∈ vs, ∃ k, κ.keyOf v = some k)
  (hlt : ∀ h', zfx a s.heap h' → LtG prog w A { s with heap := h' } κ kd)
  (hkd : ∀ (h' : Heap) (E : Value → Shared → Prop) (Q : SortKind → Shared → Prop), zfx a s.heap h' → 2 ≤ vs.length → Q kd { s with heap := h' } → wpAny (model prog w) A (keyKind' vs.toArray) Q E { s with heap := h' })
  (h : ∀ out : List Value, out.Perm vs → out.Pairwise (fun x y => κ.kle (keyV κ x) (keyV κ y)) → P (.done (.ret .none)) { s with heap := sortedHeap s.heap a vs out.toArray }) :
  wpAny (model prog w) A (Builtin.«list.sort» ⟨[.ref a], []⟩) P E s := by
 rw [list_sort_plain]
 have hlt0 : a < s.heap.objs.size := Heap.lt_size ho
 refine wpAny_bind (listItems_at ho rfl ?_)
 refine wpAny_bind (listUpdate_at ho rfl ?_ (by simpa using hz) (Nat.zero_le _))
 obtain ⟨m, ho1⟩ : ∃ m, (s.heap.update a (Obj.mapSeq fun _ => #[])).get? a = some (seqObj "list" #[] m) := ⟨_, get?_update_seq ho (fun _ => #[])⟩
 refine wpAny_bind (seqEpoch_at ho1 rfl ?_)
 refine wpAny_bind (wpAny_newTuple ?_ (by simpa using hz))
 refine wpAny_bind (wpAny_newList ?_)
 refine wpAny_holding ?_
 have z1 : (s.heap.update a (Obj.mapSeq fun _ => #[])).objs.size = s.heap.objs.size := by rw [Heap.size_update]
 have hk : zfx a s.heap (((s.heap.update a (Obj.mapSeq fun _ => #[])).push (seqObj "tuple" vs.toArray 0)).push (seqObj "list" #[] 0)) := fun b o hb e =>
  Heap.get?_push_of_some _ (Heap.get?_push_of_some _ ((Heap.get?_update_other _ _ (Ne.symm hb)).trans e))
 have ho6 : (((s.heap.update a (Obj.mapSeq fun _ => #[])).push (seqObj "tuple" vs.toArray 0)).push (seqObj "list" #[] 0)).get? a = some (seqObj "list" #[] m) := Heap.get?_push_of_some _ (Heap.get?_push_of_some _ ho1)
 show wpAny (model prog w) A _ P E { s with heap := ((s.heap.update a (Obj.mapSeq fun _ => #[])).push (seqObj "tuple" vs.toArray 0)).push (seqObj "list" #[] 0) }
 dsimp only
 have fin : ∀ st' : SortSt, (arrOf st').Perm (pairsOf vs) → failedOf st' = none → Up κ (arrOf st') 0 (pairsOf vs).size → wpAny (model prog w) A (do
   let touched := (← seqEpoch a) != m
   Builtin.List.listUpdate (.ref a) fun _ => (arrOf st').map (·.2)
   if let some e := failedOf st' then rule "list.sort.comparison-raised"; throw e
   if touched then rule "list.sort.modified"; raiseError "ValueError" "list modified during sort"
   ret .none) P E { s with heap := ((s.heap.update a (Obj.mapSeq fun _ => #[])).push (seqObj "tuple" vs.toArray 0)).push (seqObj "list" #[] 0) } := fun st' hp hf hU => by
  refine wpAny_bind (seqEpoch_at ho6 rfl ?_)
  refine wpAny_bind (listUpdate_at ho6 rfl ?_ (Nat.zero_le _) (by
   refine Nat.le_trans (Nat.le_of_eq ((Array.size_map ..).trans (hp.size_eq.trans (pairsOf_size _)))) ?_
   omega))
  rw [hf]
  simp only [bne_self_eq_false, Bool.false_eq_true, if_false]
  obtain ⟨o1, o2⟩ := out_of hp hU
  have := h _ o1 o2
  have e : ((arrOf st').toList.map (·.2)).toArray = (arrOf st').map (·.2) := by rw [← Array.toList_map, Array.toArray_toList]
  rw [e] at this
  exact wpAny_pure this
 by_cases h2 : vs.toArray.size < 2
 ·rw [if_pos h2, if_pos h2]
  refine wpAny_bind (wpAny_pure ?_)
  rw [StateT.run_pure]
  refine wpAny_bind (wpAny_pure ?_)
  refine fin (SortSt.mk' general' (vs.toArray.zip vs.toArray) #[] 7 none) (Array.Perm.refl _) rfl ?_
  intro i j q1 q2 q3
  have : i = j := by
   rw [pairsOf_size] at q3
   simp at h2
   omega
  subst this
  exact KeyOrd.kle_refl _
 ·rw [if_neg h2, if_neg h2]
  have h2' : 2 ≤ vs.length := by
   simp at h2
   omega
  refine wpAny_bind (hkd _ _ _ hk h2' ?_)
  refine wpAny_bind (wpAny_mono (zho (κ := κ) (hlt _ hk) (a₀ := pairsOf vs) (st := SortSt.mk' kd (vs.toArray.zip vs.toArray) #[] 7 none)
   (Q := fun _ st' => (arrOf st').Perm (pairsOf vs) ∧ failedOf st' = none ∧ Up κ (arrOf st') 0 (pairsOf vs).size)
   ⟨⟨rfl, fun p hp => keys _ (zgk hp).2, rfl, rfl⟩, Array.Perm.refl _, Nat.zero_le _, rfl⟩ (by rw [pairsOf_size]; omega) fun st' a1 a2 a3 => ⟨a1, a2, a3⟩) ?_ fun _ _ e => e)
  rintro ⟨⟨⟩, st'⟩ s' ⟨rfl, hp, hf, hs⟩
  exact fin st' hp hf hs
theorem zhJ {h : Heap} {a : Addr} {vs out : List Value} {n : Nat} (ho : h.get? a = some (seqObj "list" vs.toArray n)) : zfx a h (sortedHeap h a vs out.toArray) ∧ ∃ c, (sortedHeap h a vs out.toArray).get? a = some (seqObj "list" out.toArray c) := by
 unfold sortedHeap
 refine ⟨fun b o hb e => (Heap.get?_update_other _ _ (Ne.symm hb)).trans (Heap.get?_push_of_some _ (Heap.get?_push_of_some _ ((Heap.get?_update_other _ _ (Ne.symm hb)).trans e))), ?_⟩
 exact ⟨_, get?_update_seq (Heap.get?_push_of_some _ (Heap.get?_push_of_some _ (get?_update_seq ho (fun _ => #[])))) fun _ => out.toArray⟩
theorem sorted_G {l : Addr} {vs : List Value} {Q : Value → Shared → Prop} (hl : s.heap.IsList l vs.toArray) (hz : vs.length ≤ sizeLine) (keys : ∀ v ∈ vs, ∃ k, κ.keyOf v = some k)
  (hlt : ∀ h', (∀ b o, s.heap.get? b = some o → h'.get? b = some o) → LtG prog w A.in1.in1 { s with heap := h' } κ kd)
  (hkd : ∀ (h' : Heap) (E : Value → Shared → Prop) (Q : SortKind → Shared → Prop), (∀ b o, s.heap.get? b = some o → h'.get? b = some o) → 2 ≤ vs.length → Q kd { s with heap := h' } → wpAny (model prog w) A.in1.in1 (keyKind' vs.toArray) Q E { s with heap := h' })
  (h : ∀ (out : List Value) (h' : Heap) (c : Nat), out.Perm vs → out.Pairwise (fun x y => κ.kle (keyV κ x) (keyV κ y)) → (∀ b o, s.heap.get? b = some o → h'.get? b = some o) →
   h'.get? (s.heap.objs.size + 1) = some (seqObj "list" out.toArray c) → Q (.ref (s.heap.objs.size + 1)) { s with heap := h' }) :
  wpAny (model prog w) A (call (.builtin "sorted") [.ref l]) Q E s := by
 refine Calls.call_function_entry kind_sorted plain_sorted entry_sorted (args_sorted1 _) ?_
 unfold Builtin.«sorted»
 refine wpAny_bind (m := checkCount "sorted" 1 1 _) (wpAny_pure ?_)
 refine wpAny_bind (collect_list hl ?_ hz)
 refine wpAny_bind (wpAny_newList ?_ (by simpa using hz))
 have z1 : ((s.heap.push (seqObj "list" #[] 0)).update s.heap.objs.size (Obj.mapSeq (· ++ vs.toArray))).objs.size = s.heap.objs.size + 1 := by
  rw [Heap.size_update, size_push']
 have hn : (((s.heap.push (seqObj "list" #[] 0)).update s.heap.objs.size (Obj.mapSeq (· ++ vs.toArray))).push (seqObj "list" vs.toArray 0)).get? (s.heap.objs.size + 1) = some (seqObj "list" vs.toArray 0) := by
  rw [← z1]
  exact Heap.get?_push_size _ rfl
 have hk : ∀ b o, s.heap.get? b = some o → (((s.heap.push (seqObj "list" #[] 0)).update s.heap.objs.size (Obj.mapSeq (· ++ vs.toArray))).push (seqObj "list" vs.toArray 0)).get? b = some o := fun b o e =>
  Heap.get?_push_of_some _ ((Heap.get?_update_other _ _ (Nat.ne_of_gt (Heap.lt_size e))).trans (Heap.get?_push_of_some _ e))
 show wpAny _ _ _ _ _ { s with heap := ((s.heap.push (seqObj "list" #[] 0)).update s.heap.objs.size (Obj.mapSeq (· ++ vs.toArray))).push (seqObj "list" vs.toArray 0) }
 rw [z1]
 generalize ((s.heap.push (seqObj "list" #[] 0)).update s.heap.objs.size (Obj.mapSeq (· ++ vs.toArray))).push (seqObj "list" vs.toArray 0) = h1 at hn hk ⊢
 have up : ∀ h', zfx (s.heap.objs.size + 1) h1 h' → ∀ b o, s.heap.get? b = some o → h'.get? b = some o := fun h' kb b o e => kb b o (fun z => by
  have := Heap.lt_size e
  rw [z] at this
  exact absurd this (Nat.not_lt.mpr (Nat.le_succ _))) (hk b o e)
 refine wpAny_bind (wpAny_holding (wpAny_call_entry slot_list_sort ⟨_, hn, rfl⟩ entry_list_sort (sort_G (s := { s with heap := h1 }) hn hz keys (fun h' kb => hlt h' (up h' kb)) (fun h' E Q kb h2 q => hkd h' E Q (up h' kb) h2 q) fun out p1 p2 => ⟨_, rfl, ?_⟩) (args_list_sort _)))
 obtain ⟨kb, c, hc⟩ := zhJ (out := out) hn
 exact wpAny_pure ⟨_, rfl, h out _ c p1 p2 (up _ kb) hc⟩
end
end Tim
namespace Tim
open PySem PySem.Spec PyProof.Rows PySem.W
set_option autoImplicit false
set_option maxRecDepth 100000
def RawD (d : Addr) (es : Array DictEntry) (ep : Nat) (h : Heap) : Prop := ∃ o, h.get? d = some o ∧ o.ExactDict ∧ o.data = .dict es ep
section
variable {prog : Program} {w : World} {A : Around} {E : Value → Shared → Prop} {s : Shared} {d it : Addr} {es : Array DictEntry} {ep : Nat}
theorem RawD.ty (x : RawD d es ep s.heap) : s.TypeIs (.ref d) "dict" := by
 obtain ⟨o, e, c, _⟩ := x
 exact ⟨o, e, c.1⟩
theorem RawD.keep {h h' : Heap} (x : RawD d es ep h) (k : ∀ o, h.get? d = some o → h'.get? d = some o) : RawD d es ep h' := by
 obtain ⟨o, e, r⟩ := x
 exact ⟨o, k o e, r⟩
end
end Tim
namespace Tim
open PySem PySem.Spec PyProof.Rows PySem.W
section
variable {prog : Program} {w : World} {A : Around} {E : Value → Shared → Prop} {s : Shared} {d : Addr} {es : Array DictEntry} {ep : Nat}
end
end Tim
namespace L2
open PySem PySem.Spec PyProof.Rows
structure DF (K : PySem.W.Frag) (mg : Str → Option Value) (x : Str) (st : Stmt) (ps : List Str) : Prop where
 ex : ∃ f fd, Fun K x x st f fd ∧ zh4 K fd ps [] ∧ mg x = some (.ref f)
structure FC (P : Program) (w : World) (K : PySem.W.Frag) (mg : Str → Option Value) (base : Heap) (k : Nat) (x : Str) (ps : List Str) (sp : Sp) : Prop where
 ex : ∃ f fd, FnOk P w K mg base CX0 k f fd ps sp ∧ zh4 K fd ps [] ∧ PySem.W.keepIn K (.ref f) = true ∧ mg x = some (.ref f) ∧ ∃ oc od osl, K.lookup f = some ⟨oc, od, .func fd, osl⟩
theorem FC.at {P : Program} {w : World} {K : PySem.W.Frag} {mg : Str → Option Value} {base : Heap} {k : Nat} {x : Str} {ps : List Str} {sp : Sp} {f : Addr} {fd : FuncData} {oc : Value} {od : Option Addr} {osl : Array (Option Value)} (F : FC P w K mg base k x ps sp) (m : mg x = some (.ref f)) (l : K.lookup f = some ⟨oc, od, .func fd, osl⟩) : FnOk P w K mg base CX0 k f fd ps sp := by
 obtain ⟨f', fd', ok, _, _, m', oc', od', osl', l'⟩ := F.ex
 rw [m] at m'
 cases m'
 rw [l] at l'
 cases l'
 exact ok
theorem DF.ok {P : Program} {w : World} {K : PySem.W.Frag} {mg : Str → Option Value} {base : Heap} {x : Str} {st : Stmt} {N ps : List Str} {k : Nat} {sp : Sp} (D : DF K mg x st ps) (S : zav N ps (zah st)) (len : ∀ vs H Q E, sp vs H Q E → vs.length = ps.length)
  (hbody : ∀ (f : Addr) (cdv : Value) (A : Around) (outer : List Env) (s : Shared) (H : Hp) (vs : List V) (Q : VK) (E : XK), Room k (A.deeper (envOfC x (zah st) s.heap.objs.size f cdv)) → sp vs H Q E →
   ∃ t, PSs (cxOf CX0 P w K mg base N x (zah st) f cdv A outer s H E).nox (zas st) t ∧ t { nx := fun _ H' => Q .non H', rt := Q } (start N vs) H) : FC P w K mg base (k + 1) x ps sp := by
 obtain ⟨f, fd, F, b, m⟩ := D.ex
 exact ⟨f, fd, F.ok S len fun cdv A outer s H vs Q E hr h => hbody f cdv A outer s H vs Q E hr h, b, F.kp, m, by
  obtain ⟨oc, od, kV, doc, pm, an, cdv, ct, osl, rfl, lk, hcd⟩ := F.ex
  exact ⟨oc, od, osl, lk⟩⟩
theorem zaG {X : Cx} {j k : Nat} {x : Str} {ps : List Str} {sp : Sp} {e : Expr} {es : List Expr} {t : TA} {p pos : Pos} (F : FC X.prog X.w X.K X.mg X.base j x ps sp) (hr : Room k X.A) (ha : PA X (e :: es) t) (hjk : j ≤ k := by decide) (hg : Gl X x := by rfl)
  (hdb : (x == ("__debug__" : Str)) = false := by decide) (he : starEach (e :: es) X.env = (false, eval e X.env) :: starEach es X.env := by rfl) (hpl : (backTo pos (starEach es X.env)).any (·.1) = false := by rfl) : PE X (.Call (.Name x p) (e :: es) [] pos) (tCall sp [] E0 t) := by
 obtain ⟨f, fd, ok, b, kp, m, _⟩ := F.ex
 exact pe_call ok (hr.mono hjk) hg m kp b .nil pass0 ha hdb he hpl
def tSeqM (t u : TS) : TS := fun D σ H => ∃ M : St → Hp → Prop, t { D with nx := M } σ H ∧ ∀ σ' H', M σ' H' → u D σ' H'
theorem zbk {X : Cx} {st : Stmt} {rest : List Stmt} {t u : TS} (h1 : PS X st t) (h2 : PSs X rest u) : PSs X (st :: rest) (tSeqM t u) := by
 intro pins s σ H D I h
 obtain ⟨M, h, hM⟩ := h
 refine wpAny_execs_cons (thn (h1 pins s σ H { D with nx := M } I h) fun f s1 q => ?_)
 cases f with
 | next =>
  obtain ⟨σ', H', I', q⟩ := q
  exact h2 pins s1 σ' H' D I' (hM σ' H' q)
 | ret v => exact q
 | brk => exact q
 | cont => exact q
def CDivB (i j : Int) : Prop := 0 < j ∧ j < 2 ^ 4000
section
variable {X : Cx}
def kitO (a b : String) : Option Bool := if (Value.type a == Value.type b) = true then some true else if PySem.W.kitMeta b = true then (PySem.fastBuiltinMro a).map (·.contains (.type b)) else none
theorem kitO_of {K : PySem.W.Frag} {a b : String} : PySem.W.kitOne K (.type a) (.type b) = kitO a b := rfl
def rIsi (K : PySem.W.Frag) : List V → Hp → VK → Prop := fun xs H Q => ∃ x n t b, xs = [x, .ty n] ∧ TyOf K H x (.type t) ∧ kitO t n = some b ∧ Q (.bl b) H
theorem zdU : zey X (.builtin "isinstance") (rIsi X.K) := by
 intro pins s σ H xs us Q I r h
 obtain ⟨x, n, t, b, e, ty, ki, q⟩ := h
 subst e
 obtain ⟨u, w', e, r1, r2⟩ := zhq r
 subst e
 cases r2
 exact isinst_ok I r1 ty (kitO_of.trans ki) fun tk => ⟨.bl b, H, I.tok tk, rfl, q⟩
theorem kit_ii : kitO "int" "int" = some true := by decide +kernel
theorem kit_ib : kitO "int" "bool" = some false := by decide +kernel
theorem kit_ll : kitO "list" "list" = some true := by decide +kernel
def rBitLen : V → List V → Hp → VK → Prop := fun x xs H Q => ∃ i, x = .int i ∧ xs = [] ∧ Q (.int (Builtin.Int.intBits i : Nat)) H
theorem zgo : MtR X "int.bit_length" rBitLen := by
 intro pins s σ H x xs v us Q I rx rv h
 obtain ⟨i, rfl, rfl, q⟩ := h
 obtain ⟨t, rfl⟩ := rx
 cases rv
 exact call_int_bit_length ⟨.int _, H, I.tok _, ⟨_, rfl⟩, q⟩
end
def zdn (L : Addr) (a l : Int) : HO := .dK [(.inr "script", .ref L), (.inr "at", .int a), (.inr "left", .int l)]
def Keep (d : Addr) (H H' : Hp) : Prop := ∀ b o, b ≠ d → H b = some o → H' b = some o
theorem Keep.refl (d : Addr) (H : Hp) : Keep d H H := fun _ _ _ h => h
theorem Keep.trans {d : Addr} {H H1 H2 : Hp} (a : Keep d H H1) (b : Keep d H1 H2) : Keep d H H2 := fun c o n h => b c o n (a c o n h)
theorem Same.keep {d : Addr} {H H' : Hp} (s : Same H H') : Keep d H H' := fun b o _ h => s b o h
structure LS (K : PySem.W.Frag) (L d : Addr) (H : Hp) : Prop where
 ex : ∃ (ns : List Int) (a l : Int), H d = some (zdn L a l) ∧ SqL K H L (ns.map V.int)
theorem zga {K : PySem.W.Frag} {H H' : Hp} {L d : Addr} {xs : List V} {L' : Addr} {a l : Int} (hd : H d = some (zdn L' a l)) (k : Keep d H H') (h : SqL K H L xs) : SqL K H' L xs := by
 have ne : ∀ o, H L = some o → (∀ kvs, o ≠ .dK kvs) → L ≠ d := fun o e n z => by
  rw [z, hd] at e
  cases e
  exact n _ rfl
 rcases h with (h | ⟨o, h⟩) | h
 ·exact .inl (.inl (k L _ (ne _ h (fun _ z => nomatch z)) h))
 ·exact .inl (.inr ⟨o, k L _ (ne _ h (fun _ z => nomatch z)) h⟩)
 ·exact .inr h
theorem LS.set {K : PySem.W.Frag} {d L : Addr} {H : Hp} {ns : List Int} {a l a' l' : Int} (hd : H d = some (zdn L a l)) (h : SqL K H L (ns.map V.int)) : LS K L d (upd H d (zdn L a' l')) ∧ Keep d H (upd H d (zdn L a' l')) := by
 have k : Keep d H (upd H d (zdn L a' l')) := fun b o n e => by rw [zag n]; exact e
 exact ⟨⟨ns, a', l', zac, zga hd k h⟩, k⟩
theorem LS.same {K : PySem.W.Frag} {L d : Addr} {H H' : Hp} (s : LS K L d H) (k : Same H H') : LS K L d H' := by
 obtain ⟨ns, a, l, e, q⟩ := s.ex
 exact ⟨ns, a, l, k _ _ e, k.seq q⟩
theorem zak {H : Hp} {p : Addr} (h : H p = none) (o : HO) : Same H (upd H p o) := fun b u q => by rw [zag (zab q h)]; exact q
theorem LS.put {K : PySem.W.Frag} {L d p : Addr} {H0 H2 : Hp} {o : HO} (s : LS K L d H0) (hp : H0 p = none) (k : ∀ b o, b ≠ d → b ≠ p → H0 b = some o → H2 b = some o) (s2 : LS K L d H2) : LS K L d (upd H2 p o) := by
 obtain ⟨ns, a, l, e, q⟩ := s.ex
 obtain ⟨ns2, a2, l2, e2, _⟩ := s2.ex
 have hdp : d ≠ p := zab e hp
 have go : ∀ u, H0 L = some u → (∀ kvs, u ≠ .dK kvs) → upd H2 p o L = some u := fun u hu hn => by
  have h1 : L ≠ p := zab hu hp
  have h2 : L ≠ d := fun z => by
   rw [z, e] at hu
   cases hu
   exact hn _ rfl
  rw [zag h1]
  exact k L u h2 h1 hu
 refine ⟨ns, a2, l2, by rw [zag hdp]; exact e2, ?_⟩
 rcases q with (h | ⟨ob, h⟩) | h
 ·exact .inl (.inl (go _ h (fun _ z => nomatch z)))
 ·exact .inl (.inr ⟨ob, go _ h (fun _ z => nomatch z)⟩)
 ·exact .inr h
section
variable {H : Hp} {d L : Addr} {a l : Int}
theorem zdZ {x y : Str} (h : x ≠ y) : (Sum.inr x : Key) ≠ Sum.inr y := fun z => h (Sum.inr.inj z)
theorem zjh (h : H d = some (zdn L a l)) : DGet H d (.str "script") (some (.ref L)) := .inl ⟨_, .inr "script", .inl h, rfl, by rw [zcg rfl]⟩
theorem get_at (h : H d = some (zdn L a l)) : DGet H d (.str "at") (some (.int a)) := .inl ⟨_, .inr "at", .inl h, rfl, by rw [zbp (zdZ (show ("script" : Str) ≠ "at" by decide +kernel)), zcg rfl]⟩
theorem zgu (h : H d = some (zdn L a l)) : DGet H d (.str "left") (some (.int l)) := .inl ⟨_, .inr "left", .inl h, rfl, by rw [zbp (zdZ (show ("script" : Str) ≠ "left" by decide +kernel)), zbp (zdZ (show ("at" : Str) ≠ "left" by decide +kernel)), zcg rfl]⟩
theorem put_st {k : Key} {v : V} {kvs kvs' : List (Key × V)} (h : H d = some (.dK kvs)) (hl : kvs.length < sizeLine) (e : putK kvs k v = kvs') : DPut H d (kV k) v (upd H d (.dK kvs')) := by
 subst e
 exact DPut.k h hl
theorem put_at {a' : Int} (h : H d = some (zdn L a l)) : DPut H d (.str "at") (.int a') (upd H d (zdn L a' l)) :=
 put_st (k := .inr "at") h (by show 3 < sizeLine; decide) (by
  unfold putK
  rw [if_pos (by simp)]
  simp only [List.map_cons, List.map_nil, if_neg (zdZ (show ("script" : Str) ≠ "at" by decide +kernel)), if_neg (zdZ (show ("left" : Str) ≠ "at" by decide +kernel)), if_true])
theorem zik {l' : Int} (h : H d = some (zdn L a l)) : DPut H d (.str "left") (.int l') (upd H d (zdn L a l')) :=
 put_st (k := .inr "left") h (by show 3 < sizeLine; decide) (by
  unfold putK
  rw [if_pos (by simp)]
  simp only [List.map_cons, List.map_nil, if_neg (zdZ (show ("script" : Str) ≠ "left" by decide +kernel)), if_neg (zdZ (show ("at" : Str) ≠ "left" by decide +kernel)), if_true])
end
def zgI (K : PySem.W.Frag) : Sp := fun vs H Q _ => ∃ (d L : Addr) (m : Int), vs = [.ref d, .int m] ∧ (0 < m ∧ m < 1073741824) ∧ LS K L d H ∧ ∀ (v : Int) (H' : Hp), 0 ≤ v → v < m → Keep d H H' → LS K L d H' → Q (.int v) H'
def zjK : Sp := fun vs H Q _ => ∃ c k : Int, vs = [.int c, .int k] ∧ ∀ v : Int, Q (.int v) H
def zjN (K : PySem.W.Frag) : Sp := fun vs H Q _ => ∃ (L : Addr) (ns : List Int), vs = [.ref L] ∧ SqL K H L (ns.map V.int) ∧ ∀ (d : Addr) (H' : Hp), H d = none → Same H H' → LS K L d H' → Q (.ref d) H'
def zjL (K : PySem.W.Frag) : Sp := fun vs H Q _ => ∃ (a : Addr) (ns : List Int), vs = [.ref a] ∧ SqL K H a (ns.map V.int) ∧ ns.length ≤ 63 ∧ ∀ H', Q (.bl true) H'
theorem at_mod {ns : List Int} {k : Int} (h : 0 < ns.length) : ∃ v : Int, atI (ns.map V.int) (k % (((ns.map V.int).length : Nat) : Int)) = some (.int v) := by
 have e : (ns.map V.int).length = ns.length := List.length_map _
 have h1 : (0 : Int) < (((ns.map V.int).length : Nat) : Int) := by rw [e]; omega
 have z0 := Int.emod_nonneg k (Int.ne_of_gt h1)
 have z1 := Int.emod_lt_of_pos k h1
 generalize hj : k % (((ns.map V.int).length : Nat) : Int) = j at z0 z1
 rw [e] at z1
 have hk : j.toNat < ns.length := by omega
 obtain ⟨n, rfl⟩ : ∃ n : Nat, j = (n : Int) := ⟨j.toNat, by omega⟩
 have hn : n < ns.length := by omega
 exact ⟨ns[n], zed (by rw [List.getElem?_map, List.getElem?_eq_getElem hn]; rfl)⟩
end L2
namespace L2
open PySem PySem.Spec PyProof.Rows PySem.SeqAt
def Ext (H H' : Hp) : Prop := ∀ b o, H b = some o → (∀ kvs, o ≠ .dK kvs) → H' b = some o
theorem Ext.refl (H : Hp) : Ext H H := fun _ _ h _ => h
theorem Ext.trans {H H1 H2 : Hp} (a : Ext H H1) (b : Ext H1 H2) : Ext H H2 := fun c o h n => b c o (a c o h n) n
theorem Same.ext {H H' : Hp} (s : Same H H') : Ext H H' := fun b o h _ => s b o h
theorem Keep.ext {d L : Addr} {a l : Int} {H H' : Hp} (k : Keep d H H') (h : H d = some (zdn L a l)) : Ext H H' := fun b o e n => k b o (fun z => by
 rw [z, h] at e
 cases e
 exact n _ rfl) e
theorem LS.ext {K : PySem.W.Frag} {L d : Addr} {H H' : Hp} (s : LS K L d H) (k : Keep d H H') : Ext H H' := by
 obtain ⟨ns, a, l, e, _⟩ := s.ex
 exact k.ext e
theorem LS.of_new {K : PySem.W.Frag} {L d : Addr} {H : Hp} (s : LS K L d H) {p : Addr} (hp : H p = none) (o : HO) : LS K L d (upd H p o) := s.same (zak hp o)
theorem SqL.ext {K : PySem.W.Frag} {H H' : Hp} {a : Addr} {xs : List V} (e : Ext H H') (h : SqL K H a xs) : SqL K H' a xs := by
 rcases h with (h | ⟨o, h⟩) | h
 ·exact .inl (.inl (e _ _ h (fun _ z => nomatch z)))
 ·exact .inl (.inr ⟨o, e _ _ h (fun _ z => nomatch z)⟩)
 ·exact .inr h
theorem SqT.ext {K : PySem.W.Frag} {H H' : Hp} {a : Addr} {xs : List V} (e : Ext H H') (h : SqT K H a xs) : SqT K H' a xs := by
 rcases h with (h | ⟨o, h⟩) | h
 ·exact .inl (.inl (e _ _ h (fun _ z => nomatch z)))
 ·exact .inl (.inr ⟨o, e _ _ h (fun _ z => nomatch z)⟩)
 ·exact .inr h
class Rep (α : Type) where
 dec : DecidableEq α
 depth : Nat
 has : PySem.W.Frag → Hp → α → V → Prop
 mono : ∀ {K : PySem.W.Frag} {H H' : Hp} {a : α} {v : V}, Ext H H' → has K H a v → has K H' a v
 inj : ∀ {X : Cx} {pins : List (Addr × Obj)} {σ : St} {H : Hp} {s : Shared} {a b : α} {v : V}, Inv X pins σ H s → has X.K H a v → has X.K H b v → a = b
 rc : ∀ {X : Cx} {pins : List (Addr × Obj)} {σ : St} {H : Hp} {s : Shared} {A : Around} {a b : α} {x y : V} {u v : Value}, Inv X pins σ H s → A.units + depth < cLine → has X.K H a x → has X.K H b y → RelV x u → RelV y v → RcAt A s u v (dec a b).decide
 rn : ∀ {X : Cx} {pins : List (Addr × Obj)} {σ : St} {H : Hp} {s : Shared} {A : Around} {a b : α} {x y : V} {u v : Value}, Inv X pins σ H s → A.units + depth < cLine → has X.K H a x → has X.K H b y → RelV x u → RelV y v → RcNeAt A s u v (!(dec a b).decide)
 eq : ∀ {X : Cx} {pins : List (Addr × Obj)} {σ : St} {H : Hp} {s : Shared} {A : Around} {a b : α} {x y : V} {u v : Value}, Inv X pins σ H s → A.units + depth < cLine → has X.K H a x → has X.K H b y → RelV x u → RelV y v → EqAt A s u v (dec a b).decide
instance (priority := low) repDec {α : Type} [Rep α] : DecidableEq α := Rep.dec
theorem zhX {i j : Int} : (i == j) = (Int.instDecidableEq i j).decide := by
 by_cases h : i = j
 ·subst h; simp
 ·rw [beq_eq_false_iff_ne.mpr h]; exact (decide_eq_false h).symm
instance : Rep Int where
 dec := Int.instDecidableEq
 depth := 0
 has := fun _ _ i v => v = .int i
 mono := fun _ h => h
 inj := fun _ h1 h2 => V.int.inj (h1.symm.trans h2)
 rc := fun _ _ h1 h2 r1 r2 => by
  subst h1 h2
  obtain ⟨t, rfl⟩ := r1
  obtain ⟨t', rfl⟩ := r2
  rw [← zhX]
  exact RcAt.int_int _ _ _ _
 rn := fun _ _ h1 h2 r1 r2 => by
  subst h1 h2
  obtain ⟨t, rfl⟩ := r1
  obtain ⟨t', rfl⟩ := r2
  rw [← zhX]
  exact RcNeAt.int_int _ _ _ _
 eq := fun _ _ h1 h2 r1 r2 => by
  subst h1 h2
  obtain ⟨t, rfl⟩ := r1
  obtain ⟨t', rfl⟩ := r2
  rw [← zhX]
  exact EqAt.int_int _ _ _ _
instance : Rep Bool where
 dec := instDecidableEqBool
 depth := 0
 has := fun _ _ i v => v = .bl i
 mono := fun _ h => h
 inj := fun _ h1 h2 => V.bl.inj (h1.symm.trans h2)
 rc := fun {_ _ _ _ _ _ a b _ _ _ _} _ _ h1 h2 r1 r2 => by
  subst h1 h2
  cases r1
  cases r2
  have e : (a == b) = (instDecidableEqBool a b).decide := by cases a <;> cases b <;> rfl
  rw [← e]
  exact RcAt.bool_bool _ _
 rn := fun {_ _ _ _ _ _ a b _ _ _ _} _ _ h1 h2 r1 r2 => by
  subst h1 h2
  cases r1
  cases r2
  have e : (a == b) = (instDecidableEqBool a b).decide := by cases a <;> cases b <;> rfl
  rw [← e]
  exact RcNeAt.bool_bool _ _
 eq := fun {_ _ _ _ _ _ a b _ _ _ _} _ _ h1 h2 r1 r2 => by
  subst h1 h2
  cases r1
  cases r2
  have e : (a == b) = (instDecidableEqBool a b).decide := by cases a <;> cases b <;> rfl
  rw [← e]
  exact EqAt.bool_bool _ _
def zaj {α : Type} [Rep α] (K : PySem.W.Frag) (H : Hp) : List α → List V → Prop := Paired (Rep.has K H)
section
variable {α : Type} [Rep α] {K : PySem.W.Frag} {H H' : Hp}
theorem zaj.mono (e : Ext H H') : ∀ {as : List α} {xs : List V}, zaj K H as xs → zaj K H' as xs
 | _, _, .nil => .nil
 | _, _, .cons h t => .cons (Rep.mono e h) (zaj.mono e t)
theorem zaj.length {as : List α} {xs : List V} (h : zaj K H as xs) : as.length = xs.length := Paired.length h
theorem zaj.get : ∀ {as : List α} {xs : List V} {i : Nat} {x : V}, zaj K H as xs → xs[i]? = some x → ∃ a, as[i]? = some a ∧ Rep.has K H a x
 | _, _, _, _, .nil, e => by simp at e
 | _, _, 0, _, .cons h _, e => by simp at e; subst e; exact ⟨_, rfl, h⟩
 | _, _, i + 1, x, .cons _ t, e => by
  obtain ⟨a, h1, h2⟩ := zaj.get (i := i) (x := x) t (by simpa using e)
  exact ⟨a, by simpa using h1, h2⟩
theorem zaj.get' : ∀ {as : List α} {xs : List V} {i : Nat} {a : α}, zaj K H as xs → as[i]? = some a → ∃ x, xs[i]? = some x ∧ Rep.has K H a x
 | _, _, _, _, .nil, e => by simp at e
 | _, _, 0, _, .cons h _, e => by simp at e; subst e; exact ⟨_, rfl, h⟩
 | _, _, i + 1, a, .cons _ t, e => by
  obtain ⟨x, h1, h2⟩ := zaj.get' (i := i) (a := a) t (by simpa using e)
  exact ⟨x, by simpa using h1, h2⟩
theorem zaj.append : ∀ {as bs : List α} {xs ys : List V}, zaj K H as xs → zaj K H bs ys → zaj K H (as ++ bs) (xs ++ ys)
 | _, _, _, _, .nil, s => s
 | _, _, _, _, .cons r t, s => .cons r (zaj.append t s)
theorem zaj.take : ∀ {as : List α} {xs : List V} (n : Nat), zaj K H as xs → zaj K H (as.take n) (xs.take n)
 | _, _, 0, _ => .nil
 | _, _, _ + 1, .nil => .nil
 | _, _, n + 1, .cons r t => .cons r (zaj.take n t)
theorem zaj.drop : ∀ {as : List α} {xs : List V} (n : Nat), zaj K H as xs → zaj K H (as.drop n) (xs.drop n)
 | _, _, 0, r => r
 | _, _, _ + 1, .nil => .nil
 | _, _, n + 1, .cons _ t => zaj.drop n t
theorem zaj.one {a : α} {x : V} (h : Rep.has K H a x) : zaj K H [a] [x] := .cons h .nil
theorem zaj.ints : ∀ {ns : List Int}, zaj K H ns (ns.map V.int)
 | [] => .nil
 | _ :: _ => .cons rfl zaj.ints
theorem zaj.toInts : ∀ {ns : List Int} {xs : List V}, zaj K H ns xs → xs = ns.map V.int
 | [], _, .nil => rfl
 | n :: ns, _, .cons h t => by
  have e : _ = V.int n := h
  rw [e, zaj.toInts t]
  rfl
theorem zaj.inj {X : Cx} {pins : List (Addr × Obj)} {σ : St} {s : Shared} (I : Inv X pins σ H s) : ∀ {as bs : List α} {xs : List V}, zaj X.K H as xs → zaj X.K H bs xs → as = bs
 | _, _, _, .nil, .nil => rfl
 | _, _, _, .cons h t, .cons h' t' => by rw [Rep.inj I h h', zaj.inj I t t']
end
theorem zeO {α : Type} [DecidableEq α] : ∀ (as bs : List α), as.length = bs.length → ((List.range as.length).all fun j => decide (as[j]? = bs[j]?)) = decide (as = bs) := by
 intro as bs hl
 by_cases h : as = bs
 ·subst h
  simp
 ·rw [decide_eq_false h, List.all_eq_false]
  false_or_by_contra
  rename_i z
  apply h
  apply List.ext_getElem?
  intro i
  by_cases hi : i < as.length
  ·false_or_by_contra
   rename_i q
   exact z ⟨i, List.mem_range.mpr hi, by simpa using q⟩
  ·rw [List.getElem?_eq_none (by omega), List.getElem?_eq_none (by omega)]
section
variable {α : Type} [r : Rep α]
theorem zcd {A : Around} : A.in1.units ≤ A.units + 1 := by
 first
  | exact Nat.le_refl _
  | (unfold Around.in1; simp)
theorem ze6 {X : Cx} {pins : List (Addr × Obj)} {σ : St} {H : Hp} {s : Shared} {A : Around} {as bs : List α} {xs ys : List V} {us vs : List Value} (I : Inv X pins σ H s) (hu : A.units + Rep.depth α < cLine)
  (h1 : zaj X.K H as xs) (h2 : zaj X.K H bs ys) (r1 : Vals xs us) (r2 : Vals ys vs) : ∀ j (q1 : j < us.toArray.size) (q2 : j < vs.toArray.size), EqAt A s us.toArray[j] vs.toArray[j] (decide (as[j]? = bs[j]?)) := by
 intro j q1 q2
 have l1 := r1.length
 have l2 := r2.length
 have m1 := h1.length
 have m2 := h2.length
 have j1 : j < us.length := by simpa using q1
 have j2 : j < vs.length := by simpa using q2
 obtain ⟨a, ea, ha⟩ := h1.get (i := j) (List.getElem?_eq_getElem (by omega))
 obtain ⟨b, eb, hb⟩ := h2.get (i := j) (List.getElem?_eq_getElem (by omega))
 obtain ⟨u, eu, ru⟩ := r1.get (i := j) (List.getElem?_eq_getElem (by omega))
 obtain ⟨v, ev, rv⟩ := r2.get (i := j) (List.getElem?_eq_getElem (by omega))
 have gu : us.toArray[j] = u := by
  have : us[j]? = some us[j] := List.getElem?_eq_getElem j1
  rw [eu] at this
  simpa using (Option.some.inj this).symm
 have gv : vs.toArray[j] = v := by
  have : vs[j]? = some vs[j] := List.getElem?_eq_getElem j2
  rw [ev] at this
  simpa using (Option.some.inj this).symm
 rw [gu, gv, ea, eb]
 have e : decide (some a = some b) = (Rep.dec a b).decide := by
  by_cases z : a = b
  ·subst z; simp
  ·rw [decide_eq_false (fun q => z (Option.some.inj q))]; exact (decide_eq_false z).symm
 rw [e]
 exact Rep.eq I hu ha hb ru rv
end
def hasL {α : Type} [Rep α] (K : PySem.W.Frag) (H : Hp) (as : List α) (v : V) : Prop := ∃ a xs, v = .ref a ∧ SqL K H a xs ∧ zaj K H as xs
section
variable {α : Type} [r : Rep α] {X : Cx} {pins : List (Addr × Obj)} {σ : St} {H : Hp} {s : Shared} {A : Around} {as bs : List α} {x y : V} {u v : Value}
theorem hasL_inj (I : Inv X pins σ H s) (h1 : hasL X.K H as x) (h2 : hasL X.K H bs x) : as = bs := by
 obtain ⟨a, xs, rfl, q1, h1⟩ := h1
 obtain ⟨b, ys, e, q2, h2⟩ := h2
 cases e
 rw [I.list_inj q2 q1] at h2
 exact h1.inj I h2
theorem hasL_rc (I : Inv X pins σ H s) (hu : A.units + (Rep.depth α + 1) < cLine) (h1 : hasL X.K H as x) (h2 : hasL X.K H bs y) (r1 : RelV x u) (r2 : RelV y v) : RcAt A s u v (decide (as = bs)) := by
 obtain ⟨a, xs, rfl, q1, h1⟩ := h1
 obtain ⟨b, ys, rfl, q2, h2⟩ := h2
 cases r1
 cases r2
 obtain ⟨us, ru, pu, _⟩ := I.list q1
 obtain ⟨vs, rv, pv, _⟩ := I.list q2
 have l1 := ru.length
 have l2 := rv.length
 have m1 := h1.length
 have m2 := h2.length
 have hin : A.in1.units + Rep.depth α < cLine := Nat.lt_of_le_of_lt (Nat.add_le_add_right zcd _) (by omega)
 by_cases hl : as.length = bs.length
 ·have e := zeO as bs hl
  rw [← e]
  have z : as.length = us.toArray.size := by simp; omega
  rw [z]
  exact RcAt.lists pu.isList pv.isList (by simp; omega) (by omega) (ze6 I hin h1 h2 ru rv)
 ·rw [decide_eq_false (fun z => hl (by rw [z]))]
  exact RcAt.lists_lengths pu.isList pv.isList (by simp; omega) (by omega)
theorem hasL_rn (I : Inv X pins σ H s) (hu : A.units + (Rep.depth α + 1) < cLine) (h1 : hasL X.K H as x) (h2 : hasL X.K H bs y) (r1 : RelV x u) (r2 : RelV y v) : RcNeAt A s u v (!decide (as = bs)) := by
 obtain ⟨a, xs, rfl, q1, h1⟩ := h1
 obtain ⟨b, ys, rfl, q2, h2⟩ := h2
 cases r1
 cases r2
 obtain ⟨us, ru, pu, _⟩ := I.list q1
 obtain ⟨vs, rv, pv, _⟩ := I.list q2
 have l1 := ru.length
 have l2 := rv.length
 have m1 := h1.length
 have m2 := h2.length
 have hin : A.in1.units + Rep.depth α < cLine := Nat.lt_of_le_of_lt (Nat.add_le_add_right zcd _) (by omega)
 by_cases hl : as.length = bs.length
 ·have e := zeO as bs hl
  rw [← e]
  have z : as.length = us.toArray.size := by simp; omega
  rw [z]
  exact RcNeAt.lists pu.isList pv.isList (by simp; omega) (by omega) (ze6 I hin h1 h2 ru rv)
 ·rw [decide_eq_false (fun z => hl (by rw [z])), Bool.not_false]
  exact RcNeAt.lists_lengths pu.isList pv.isList (by simp; omega) (by omega)
theorem hasL_eq (I : Inv X pins σ H s) (hu : A.units + (Rep.depth α + 1) < cLine) (h1 : hasL X.K H as x) (h2 : hasL X.K H bs y) (r1 : RelV x u) (r2 : RelV y v) : EqAt A s u v (decide (as = bs)) := by
 have rc := hasL_rc (A := A) I hu h1 h2 r1 r2
 obtain ⟨a, xs, rfl, q1, h1⟩ := h1
 obtain ⟨b, ys, rfl, q2, h2⟩ := h2
 cases r1
 cases r2
 by_cases hab : a = b
 ·subst hab
  rw [I.list_inj q2 q1] at h2
  rw [decide_eq_true (h1.inj I h2)]
  exact EqAt.same _
 ·exact EqAt.of_refs hab rc
end
instance {α : Type} [Rep α] : Rep (List α) where
 dec := inferInstance
 depth := Rep.depth α + 1
 has := hasL
 mono := fun e ⟨a, xs, h1, h2, h3⟩ => ⟨a, xs, h1, h2.ext e, h3.mono e⟩
 inj := fun I h1 h2 => hasL_inj I h1 h2
 rc := fun I hu h1 h2 r1 r2 => hasL_rc I hu h1 h2 r1 r2
 rn := fun I hu h1 h2 r1 r2 => hasL_rn I hu h1 h2 r1 r2
 eq := fun I hu h1 h2 r1 r2 => hasL_eq I hu h1 h2 r1 r2
def hasP {α β : Type} [Rep α] [Rep β] (K : PySem.W.Frag) (H : Hp) (p : α × β) (v : V) : Prop := ∃ a x y, v = .ref a ∧ H a = some (.tup [x, y]) ∧ Rep.has K H p.1 x ∧ Rep.has K H p.2 y
section
variable {α β : Type} [ra : Rep α] [rb : Rep β] {X : Cx} {pins : List (Addr × Obj)} {σ : St} {H : Hp} {s : Shared} {A : Around} {p q : α × β} {x y : V} {u v : Value}
theorem ziL (I : Inv X pins σ H s) (h1 : hasP X.K H p x) (h2 : hasP X.K H q x) : p = q := by
 obtain ⟨a, x1, x2, rfl, q1, e1, e2⟩ := h1
 obtain ⟨b, y1, y2, e, q2, f1, f2⟩ := h2
 cases e
 have z := I.tuple_inj (SqT.of q2) (SqT.of q1)
 cases z
 have g1 := Rep.inj I e1 f1
 have g2 := Rep.inj I e2 f2
 obtain ⟨p1, p2⟩ := p
 obtain ⟨s1, s2⟩ := q
 cases g1
 cases g2
 rfl
theorem hasP_rc (I : Inv X pins σ H s) (hu : A.units + (Rep.depth α + Rep.depth β + 1) < cLine) (h1 : hasP X.K H p x) (h2 : hasP X.K H q y) (r1 : RelV x u) (r2 : RelV y v) : RcAt A s u v (decide (p = q)) := by
 obtain ⟨a, x1, x2, rfl, q1, e1, e2⟩ := h1
 obtain ⟨b, y1, y2, rfl, q2, f1, f2⟩ := h2
 cases r1
 cases r2
 obtain ⟨us, ru, pu, _⟩ := I.tuple (SqT.of q1)
 obtain ⟨vs, rv, pv, _⟩ := I.tuple (SqT.of q2)
 obtain ⟨u1, u2, rfl, ru1, ru2⟩ := zhq ru
 obtain ⟨v1, v2, rfl, rv1, rv2⟩ := zhq rv
 have hin : ∀ n, n ≤ Rep.depth α + Rep.depth β → A.in1.units + n < cLine := fun n hn => Nat.lt_of_le_of_lt (Nat.add_le_add_right zcd _) (by omega)
 have c1 := Rep.eq (A := A.in1) I (hin _ (by omega)) e1 f1 ru1 rv1
 have c2 := Rep.eq (A := A.in1) I (hin _ (by omega)) e2 f2 ru2 rv2
 have := RcAt.tuples (A := A) (s := s) (l := a) (b := b) (items := #[u1, u2]) (items2 := #[v1, v2]) (e := fun j => if j = 0 then (Rep.dec p.1 q.1).decide else (Rep.dec p.2 q.2).decide) pu pv (by omega) (by
  intro j h1 h2
  have h1' : j < 2 := h1
  have z : j = 0 ∨ j = 1 := by omega
  rcases z with rfl | rfl
  ·exact c1
  ·exact c2)
 have e : ((List.range (min (#[u1, u2] : Array Value).size (#[v1, v2] : Array Value).size)).all (fun j => if j = 0 then (Rep.dec p.1 q.1).decide else (Rep.dec p.2 q.2).decide) && (#[u1, u2] : Array Value).size == (#[v1, v2] : Array Value).size) = decide (p = q) := by
  obtain ⟨p1, p2⟩ := p
  obtain ⟨s1, s2⟩ := q
  show (((List.range 2).all fun j => if j = 0 then (Rep.dec p1 s1).decide else (Rep.dec p2 s2).decide) && true) = _
  rw [show List.range 2 = [0, 1] from rfl]
  simp only [List.all_cons, List.all_nil, Bool.and_true, if_true]
  rw [if_neg (by decide)]
  by_cases z1 : p1 = s1
  ·by_cases z2 : p2 = s2
   ·subst z1 z2; simp
   ·subst z1; simp [z2]
  ·simp [z1]
 rw [e] at this
 exact this
theorem hasP_rn (I : Inv X pins σ H s) (hu : A.units + (Rep.depth α + Rep.depth β + 1) < cLine) (h1 : hasP X.K H p x) (h2 : hasP X.K H q y) (r1 : RelV x u) (r2 : RelV y v) : RcNeAt A s u v (!decide (p = q)) := by
 obtain ⟨a, x1, x2, rfl, q1, e1, e2⟩ := h1
 obtain ⟨b, y1, y2, rfl, q2, f1, f2⟩ := h2
 cases r1
 cases r2
 obtain ⟨us, ru, pu, _⟩ := I.tuple (SqT.of q1)
 obtain ⟨vs, rv, pv, _⟩ := I.tuple (SqT.of q2)
 obtain ⟨u1, u2, rfl, ru1, ru2⟩ := zhq ru
 obtain ⟨v1, v2, rfl, rv1, rv2⟩ := zhq rv
 have hin : ∀ n, n ≤ Rep.depth α + Rep.depth β → A.in1.units + n < cLine := fun n hn => Nat.lt_of_le_of_lt (Nat.add_le_add_right zcd _) (by omega)
 have c1 := Rep.eq (A := A.in1) I (hin _ (by omega)) e1 f1 ru1 rv1
 have c2 := Rep.eq (A := A.in1) I (hin _ (by omega)) e2 f2 ru2 rv2
 have := RcNeAt.tuples (A := A) (s := s) (l := a) (b := b) (items := #[u1, u2]) (items2 := #[v1, v2]) (e := fun j => if j = 0 then (Rep.dec p.1 q.1).decide else (Rep.dec p.2 q.2).decide) pu pv (by omega) (by
  intro j h1 h2
  have h1' : j < 2 := h1
  have z : j = 0 ∨ j = 1 := by omega
  rcases z with rfl | rfl
  ·exact c1
  ·exact c2)
 have e : ((List.range (min (#[u1, u2] : Array Value).size (#[v1, v2] : Array Value).size)).all (fun j => if j = 0 then (Rep.dec p.1 q.1).decide else (Rep.dec p.2 q.2).decide) && (#[u1, u2] : Array Value).size == (#[v1, v2] : Array Value).size) = decide (p = q) := by
  obtain ⟨p1, p2⟩ := p
  obtain ⟨s1, s2⟩ := q
  show (((List.range 2).all fun j => if j = 0 then (Rep.dec p1 s1).decide else (Rep.dec p2 s2).decide) && true) = _
  rw [show List.range 2 = [0, 1] from rfl]
  simp only [List.all_cons, List.all_nil, Bool.and_true, if_true]
  rw [if_neg (by decide)]
  by_cases z1 : p1 = s1
  ·by_cases z2 : p2 = s2
   ·subst z1 z2; simp
   ·subst z1; simp [z2]
  ·simp [z1]
 rw [e] at this
 exact this
theorem hasP_eq (I : Inv X pins σ H s) (hu : A.units + (Rep.depth α + Rep.depth β + 1) < cLine) (h1 : hasP X.K H p x) (h2 : hasP X.K H q y) (r1 : RelV x u) (r2 : RelV y v) : EqAt A s u v (decide (p = q)) := by
 have rc := hasP_rc (A := A) I hu h1 h2 r1 r2
 have h1' := id h1
 have h2' := id h2
 obtain ⟨a, x1, x2, rfl, q1, e1, e2⟩ := h1
 obtain ⟨b, y1, y2, rfl, q2, f1, f2⟩ := h2
 cases r1
 cases r2
 by_cases hab : a = b
 ·subst hab
  rw [decide_eq_true (ziL I h1' h2')]
  exact EqAt.same _
 ·exact EqAt.of_refs hab rc
end
instance {α β : Type} [Rep α] [Rep β] : Rep (α × β) where
 dec := inferInstance
 depth := Rep.depth α + Rep.depth β + 1
 has := hasP
 mono := fun e ⟨a, x, y, h1, h2, h3, h4⟩ => ⟨a, x, y, h1, e _ _ h2 (fun _ z => nomatch z), Rep.mono e h3, Rep.mono e h4⟩
 inj := fun I h1 h2 => ziL I h1 h2
 rc := fun I hu h1 h2 r1 r2 => hasP_rc I hu h1 h2 r1 r2
 rn := fun I hu h1 h2 r1 r2 => hasP_rn I hu h1 h2 r1 r2
 eq := fun I hu h1 h2 r1 r2 => hasP_eq I hu h1 h2 r1 r2
theorem huD {A : Around} {k : Nat} {α : Type} [Rep α] (hr : Room k A) (h : Rep.depth α ≤ 64 := by decide) : A.units + Rep.depth α < cLine := Nat.lt_of_le_of_lt (Nat.add_le_add_left h _) hr.units
def rEqD (α : Type) [Rep α] (K : PySem.W.Frag) : R2 := fun x y H Q => ∃ a b : α, Rep.has K H a x ∧ Rep.has K H b y ∧ Q (.bl (decide (a = b))) H
def rNeD (α : Type) [Rep α] (K : PySem.W.Frag) : R2 := fun x y H Q => ∃ a b : α, Rep.has K H a x ∧ Rep.has K H b y ∧ Q (.bl (!decide (a = b))) H
section
variable {X : Cx}
theorem op_eqD (α : Type) [Rep α] (hu : X.A.units + Rep.depth α < cLine) : OpR X (compareOp .Eq) (rEqD α X.K) := by
 intro pins s σ H x y v u Q I rx ry h
 obtain ⟨a, b, ha, hb, q⟩ := h
 refine Rep.rc I hu ha hb rx ry X.prog X.w X.xe _ ⟨.bl _, H, I, rfl, ?_⟩
 have e : (Rep.dec a b).decide = decide (a = b) := rfl
 rw [e]
 exact q
theorem op_neD (α : Type) [Rep α] (hu : X.A.units + Rep.depth α < cLine) : OpR X (compareOp .NotEq) (rNeD α X.K) := by
 intro pins s σ H x y v u Q I rx ry h
 obtain ⟨a, b, ha, hb, q⟩ := h
 refine Rep.rn I hu ha hb rx ry X.prog X.w X.xe _ ⟨.bl _, H, I, rfl, ?_⟩
 have e : (Rep.dec a b).decide = decide (a = b) := rfl
 rw [e]
 exact q
end
end L2
namespace L2
open PySem PySem.Spec PyProof.Rows
section
variable {X : Cx} {pins : List (Addr × Obj)} {σ : St} {H : Hp} {s : Shared} {h' : Heap}
theorem Inv.turnedNew {t' : Nat} {fp : List Addr} {p : Addr} {o : HO} (I : Inv X pins σ H s) (k : ∀ b ob, b ∉ fp → s.heap.get? b = some ob → h'.get? b = some ob) (hf : ∀ b ∈ fp, FpOk X pins H b)
  (hp : s.heap.objs.size ≤ p) (new : zbA X.prog X.w (upd H p o) h' p o) : Inv X pins σ (upd H p o) { s with heap := h', toks := t' } := by
 have hn : H p = none := I.hok.fresh hp
 have nfp : ∀ b u, H b = some u → b ∉ fp := fun b u e z => by rw [(hf b z).1] at e; cases e
 have nep : ∀ b ob, s.heap.get? b = some ob → b ≠ p := fun b ob e => Nat.ne_of_lt (Nat.lt_of_lt_of_le (Heap.lt_size e) hp)
 refine I.step (g' := s.gens) (d' := s.drawn) (ch := fp) (fun b hb => ?_) (fun b ob _ _ hc e _ => k b ob hc e) (fun b ob _ _ hc e _ => ⟨ob.slots, k b ob hc e⟩) (fun b ob _ e n => by rw [zag (nep b ob e)]; exact n)
  (fun b ob hc e => ⟨ob, k b ob hc e⟩) (fun b xs e => by rw [zag (zab e hn)]; exact e) (fun b ob u e => by rw [zag (zab e hn)]; exact e) (fun b ps e => ⟨#[], by rw [zag (zab e hn), e]; simp⟩) (fun m hm => ?_) (fun b u e => ?_) I.bare
 ·obtain ⟨_, h2, _, h4, h5, h6⟩ := hf b hb
  exact ⟨h4, h2, h5, h6⟩
 ·obtain ⟨ob, es, ep, ho, r⟩ := hm
  exact ⟨ob, es, ep, k _ ob (fun z => (hf _ z).2.1 rfl) ho, r⟩
 ·by_cases hb : b = p
  ·subst hb; rw [zac] at e; cases e; exact new
  ·rw [zag hb] at e
   refine (I.hok b u e).stay (fun c v hc q => k c v ?_ q) (fun c q => by rw [zag (zab q hn)]; exact q) fun c xs q => by rw [zag (zab q hn)]; exact q
   rcases hc with z | z
   ·rw [z]; exact nfp b u e
   ·exact nfp c _ z
theorem zjA {P : Program} {w : World} {H : Hp} {h : Heap} {p : Addr} {x y : V} {u v : Value} (rx : RelV x u) (ry : RelV y v) (e : h.get? p = some { cls := .type "tuple", data := .seq #[u, v] }) : zbA P w H h p (.tup [x, y]) :=
 ⟨by show 2 ≤ sizeLine; decide, [u, v], .cons rx (.cons ry .nil), _, e, rfl, 0, rfl⟩
end
def Ite (K : PySem.W.Frag) (a : Addr) : It :=
 ⟨fun i H => ∃ xs x, SqL K H a xs ∧ xs[i]? = some x, fun i H x H' => ∃ p y, x = .ref p ∧ H p = none ∧ (∀ xs, SqL K H a xs → xs[i]? = some y) ∧ H' = upd H p (.tup [.int i, y]), fun i H => ∃ xs, SqL K H a xs ∧ xs.length ≤ i⟩
theorem zjx {P : Program} {w : World} {K : PySem.W.Frag} {es : List Expr} {k0} {pos : Pos} (a it e : Addr) (hne : e ≠ it) : Turn P w K (.Tuple es k0 pos) (Ite K a) [e, it] e (fun i h => (∃ old, IsEnum h e it i old) ∧ h.IsListIter it a i) where
 mem := by simp
 obj := fun i h st b hb => by
  obtain ⟨⟨old, he⟩, o, ho, c, d⟩ := st
  rcases List.mem_cons.mp hb with z | z
  ·subst z
   exact ⟨_, he, fun v z => by cases z⟩
  ·have z := List.mem_singleton.mp z
   subst z
   exact ⟨o, ho, fun v z => by rw [d] at z; cases z⟩
 keep := fun i h h' st k => by
  obtain ⟨⟨old, he⟩, hi⟩ := st
  exact ⟨⟨old, k e (by simp) _ he⟩, hi.at fun o q => k it (by simp) o q⟩
 item := by
  intro X hP hw hK hc i pins s σ H E I hf st hg
  subst hP hw hK
  obtain ⟨⟨old, he⟩, hi⟩ := st
  obtain ⟨xs, x, hq, hx⟩ := hg
  obtain ⟨its, rv, p, hz⟩ := I.list hq
  obtain ⟨u, hu, ru⟩ := rv.get hx
  refine wpAny_pyNext_enum_item he hi p.isList (x := u) (by simpa using hu) hne fun h1 he1 hi1 ht1 _ k1 => ?_
  refine ⟨_, rfl, wpAny_letOwnedTupleGo_enum (s := { s with heap := h1, toks := s.toks + 1 }) he1 fun h2 he2 sb => ?_⟩
  have np : s.heap.objs.size ≠ e := Nat.ne_of_gt (Heap.lt_size he)
  have ht2 : h2.get? s.heap.objs.size = some { cls := .type "tuple", data := .seq #[.int i s.toks, u] } := (sb.2 _ np).trans ht1
  have I2 : Inv X pins σ (upd H s.heap.objs.size (.tup [.int i, x])) { s with heap := h2, toks := s.toks + 1 } :=
   I.turnedNew (fp := [e, it]) (fun b ob hb q => (sb.2 b (fun z => hb (by simp [z]))).trans (k1 b ob (fun z => hb (by simp [z])) (fun z => hb (by simp [z])) q)) hf (Nat.le_refl _) (zjA ⟨_, rfl⟩ ru ht2)
  refine ⟨.ref s.heap.objs.size, _, I2, rfl, ⟨_, x, rfl, I.hok.fresh (Nat.le_refl _), fun ys hy => by rw [I.list_inj hy hq]; exact hx, rfl⟩, ⟨⟨u, ?_⟩, ?_⟩, fun b hb => ?_⟩
  ·have z : IsEnum h2 e it ((i : Int) + 1) u := he2
   exact z
  ·exact hi1.at fun o q => (sb.2 it (Ne.symm hne)).trans q
  ·have z := (hf b hb).1
   rw [zag ?_]
   ·exact z
   ·rcases List.mem_cons.mp hb with q | q
    ·rw [q]; exact Ne.symm np
    ·rw [List.mem_singleton.mp q]
     obtain ⟨o, ho, _⟩ := hi
     exact Nat.ne_of_lt (Heap.lt_size ho)
 done := by
  intro X hP hw hK hc i pins s σ H E I hf st hg
  subst hP hw hK
  obtain ⟨⟨old, he⟩, hi⟩ := st
  obtain ⟨xs, hq, hx⟩ := hg
  obtain ⟨its, rv, p, hz⟩ := I.list hq
  obtain ⟨f0, f1, f2, f3, f4, f5⟩ := hf it (by simp)
  have hl := rv.length
  exact wpAny_pyNext_enum_end (I.ok.hd hc) he hi p.isList (by simp; omega) fun h' eb => ⟨rfl, I.turned (t' := s.toks) (fun b o hb q => eb b o hb q) f0 f1 f3 f4 f5⟩
 self := fun _ _ _ _ _ st h => by
  obtain ⟨⟨old, he⟩, _⟩ := st
  exact wpAny_pyIter_enum he h
def iEnum (K : PySem.W.Frag) (ta : TA) : TI := fun σ H R => ta σ H fun vs H1 => ∃ a, vs = [.ref a] ∧ (∃ xs, SqL K H1 a xs) ∧ R (Ite K a) H1
section
variable {X : Cx}
theorem zdx {es : List Expr} {k0} {tp : Pos} {a : Expr} {ta : TA} {p pos : Pos} (hg : Gl X "enumerate") (hm : X.mg "enumerate" = none) (ha : PA X [a] ta) (hs : starEach [a] X.env = [(false, eval a X.env)] := by rfl) : PI X (.Tuple es k0 tp) (.Call (.Name "enumerate" p) [a] [] pos) (iEnum X.K ta) := by
 intro pins s σ H R I h
 refine Call_ (zeq I hg hm boot_enumerate (PyProof.Rows.callWith_type1 (thn (ha pos pins s σ H _ I h) fun us s1 ⟨vs, H1, I1, r1, q1⟩ => ?_) hs rfl))
 obtain ⟨l, e, ⟨xs, hq⟩, q⟩ := q1
 subst e
 cases r1 with
 | cons r rr =>
  cases rr
  cases r
  obtain ⟨its, rv, pl, hz⟩ := I1.list hq
  refine call_enumerate_list pl.isList fun h' he hi _ hk => ?_
  have I2 : Inv X pins σ H1 { s1 with heap := h' } := I1.kept (t' := s1.toks) hk
  refine wpAny_pyIter_enum (s := { s1 with heap := h' }) he ⟨_, [s1.heap.objs.size + 1, s1.heap.objs.size], _, _, H1, rfl, I2, zjx l s1.heap.objs.size (s1.heap.objs.size + 1) (Nat.succ_ne_self _), ⟨⟨_, he⟩, hi⟩, fun b hb => ?_, q⟩
  have hb' : s1.heap.objs.size ≤ b := by
   rcases List.mem_cons.mp hb with z | z
   ·rw [z]; exact Nat.le_succ _
   ·rw [List.mem_singleton.mp z]; exact Nat.le_refl _
  exact I1.fpOk hb' (I1.hok.fresh hb')
end
theorem zgx {K : PySem.W.Frag} {a : Addr} {xs : List V} {g : TG} {tb : TS} {D : Ends} {σ : St} {H : Hp} (Pv : Nat → St → Hp → Prop) (h0 : Pv 0 σ H) (hl : ∀ i σ H, i ≤ xs.length → Pv i σ H → SqL K H a xs)
  (hs : ∀ i x σ H p, xs[i]? = some x → Pv i σ H → H p = none → g (.ref p) σ (upd H p (.tup [.int i, x])) fun σ2 H2 => tb { D with nx := Pv (i + 1), ct := Pv (i + 1), bk := D.nx } σ2 H2) (hd : ∀ σ H, Pv xs.length σ H → D.nx σ H) :
  ∃ W : Nat → Nat → St → Hp → Prop, (∃ m, W 0 m σ H) ∧ ∀ i m σ H, W i m σ H → ((Ite K a).stop i H ∧ D.nx σ H) ∨ ((Ite K a).go i H ∧ ∃ N : St → Hp → Prop, (∀ σ' H', N σ' H' → ∃ m', m' < m ∧ W (i + 1) m' σ' H') ∧ ∀ x H', (Ite K a).yld i H x H' → g x σ H' fun σ2 H2 => tb { D with nx := N, ct := N, bk := D.nx } σ2 H2) := by
 refine ⟨fun i m σ H => i + m = xs.length ∧ Pv i σ H, ⟨xs.length, by omega, h0⟩, fun i m σ H ⟨e, pv⟩ => ?_⟩
 have hS := hl i σ H (by omega) pv
 by_cases hi : i < xs.length
 ·refine .inr ⟨⟨xs, xs[i], hS, List.getElem?_eq_getElem hi⟩, Pv (i + 1), fun σ' H' q => ⟨m - 1, by omega, by omega, q⟩, fun x H' y => ?_⟩
  obtain ⟨p, z, rfl, hp, hz, rfl⟩ := y
  exact hs i z σ H p (hz xs hS) pv hp
 ·have : i = xs.length := by omega
  subst this
  exact .inl ⟨⟨xs, hS, Nat.le_refl _⟩, hd σ H pv⟩
def Itz (K : PySem.W.Frag) (a b : Addr) : It :=
 ⟨fun i H => ∃ xs ys x y, SqL K H a xs ∧ SqL K H b ys ∧ xs[i]? = some x ∧ ys[i]? = some y, fun i H x H' => ∃ p y z, x = .ref p ∧ H p = none ∧ (∀ xs, SqL K H a xs → xs[i]? = some y) ∧ (∀ xs, SqL K H b xs → xs[i]? = some z) ∧ H' = upd H p (.tup [y, z]), fun i H => ∃ xs ys, SqL K H a xs ∧ SqL K H b ys ∧ (xs.length ≤ i ∨ ys.length ≤ i)⟩
theorem turn_zip {P : Program} {w : World} {K : PySem.W.Frag} {es : List Expr} {k0} {pos : Pos} {a b z TI TO i1 i2 : Addr} (D : ZipApart z TI TO i1 i2 a b) : Turn P w K (.Tuple es k0 pos) (Itz K a b) [z, TI, TO, i1, i2] z
  (fun i h => IsZip h z TI TO .none ∧ IsPair h TI (.ref i1) (.ref i2) ∧ (∃ u v, IsPair h TO u v) ∧ h.IsListIter i1 a i ∧ h.IsListIter i2 b i) where
 mem := by simp
 obj := fun i h st c hc => by
  obtain ⟨hz, hTI, ⟨u, v, hTO⟩, ⟨o1, e1, _, d1⟩, ⟨o2, e2, _, d2⟩⟩ := st
  simp only [List.mem_cons, List.not_mem_nil, or_false] at hc
  rcases hc with rfl | rfl | rfl | rfl | rfl
  ·exact ⟨_, hz, fun v q => by cases q⟩
  ·exact ⟨_, hTI, fun v q => by cases q⟩
  ·exact ⟨_, hTO, fun v q => by cases q⟩
  ·exact ⟨o1, e1, fun v q => by rw [d1] at q; cases q⟩
  ·exact ⟨o2, e2, fun v q => by rw [d2] at q; cases q⟩
 keep := fun i h h' st k => by
  obtain ⟨hz, hTI, ⟨u, v, hTO⟩, h1, h2⟩ := st
  exact ⟨k z (by simp) _ hz, k TI (by simp) _ hTI, ⟨u, v, k TO (by simp) _ hTO⟩, h1.at fun o q => k i1 (by simp) o q, h2.at fun o q => k i2 (by simp) o q⟩
 item := by
  intro X hP hw hK hc i pins s σ H E I hf st hg
  subst hP hw hK
  obtain ⟨hz, hTI, ⟨u0, v0, hTO⟩, h1, h2⟩ := st
  obtain ⟨xs, ys, x, y, hqa, hqb, hx, hy⟩ := hg
  obtain ⟨its, rv, p, _⟩ := I.list hqa
  obtain ⟨jts, rw', p', _⟩ := I.list hqb
  obtain ⟨u, hu, ru⟩ := rv.get hx
  obtain ⟨v, hv, rv'⟩ := rw'.get hy
  refine wpAny_pyNext_zip_item D hz hTI hTO h1 h2 p.isList p'.isList (x := u) (y := v) (by simpa using hu) (by simpa using hv) fun h1' hz1 hTO1 hi1 hi2 ht1 _ k1 => ?_
  refine ⟨_, rfl, wpAny_letOwnedTupleGo_zip (s := { s with heap := h1' }) hz1 fun h2' hz2 sb => ?_⟩
  have np : s.heap.objs.size ≠ z := Nat.ne_of_gt (Heap.lt_size hz)
  have ht2 : h2'.get? s.heap.objs.size = some { cls := .type "tuple", data := .seq #[u, v] } := (sb.2 _ np).trans ht1
  have I2 : Inv X pins σ (upd H s.heap.objs.size (.tup [x, y])) { s with heap := h2', toks := s.toks } :=
   I.turnedNew (fp := [z, TI, TO, i1, i2]) (fun c ob hb q => (sb.2 c (fun r => hb (by simp [r]))).trans (k1 c ob (fun r => hb (by simp [r])) (fun r => hb (by simp [r])) (fun r => hb (by simp [r])) (fun r => hb (by simp [r])) q)) hf (Nat.le_refl _) (zjA ru rv' ht2)
  refine ⟨.ref s.heap.objs.size, _, I2, rfl, ⟨_, x, y, rfl, I.hok.fresh (Nat.le_refl _), fun ys hy' => by rw [I.list_inj hy' hqa]; exact hx, fun ys hy' => by rw [I.list_inj hy' hqb]; exact hy, rfl⟩, ⟨hz2, (sb.2 _ D.TIz).trans (k1 TI _ D.TIz D.TITO D.TIi1 D.TIi2 hTI), ⟨_, _, (sb.2 _ D.TOz).trans hTO1⟩, hi1.at fun o q => (sb.2 i1 D.i1z).trans q, hi2.at fun o q => (sb.2 i2 D.i2z).trans q⟩, fun c hb => ?_⟩
  have zf := (hf c hb).1
  have lt : c < s.heap.objs.size := by
   simp only [List.mem_cons, List.not_mem_nil, or_false] at hb
   obtain ⟨o1, e1, _⟩ := h1
   obtain ⟨o2, e2, _⟩ := h2
   rcases hb with rfl | rfl | rfl | rfl | rfl
   ·exact Heap.lt_size hz
   ·exact Heap.lt_size hTI
   ·exact Heap.lt_size hTO
   ·exact Heap.lt_size e1
   ·exact Heap.lt_size e2
  rw [zag (Nat.ne_of_lt lt)]
  exact zf
 done := by
  intro X hP hw hK hc i pins s σ H E I hf st hg
  subst hP hw hK
  obtain ⟨hz, hTI, ⟨u0, v0, hTO⟩, h1, h2⟩ := st
  obtain ⟨xs, ys, hqa, hqb, hend⟩ := hg
  obtain ⟨its, rv, p, _⟩ := I.list hqa
  obtain ⟨jts, rw', p', _⟩ := I.list hqb
  have l1 := rv.length
  have l2 := rw'.length
  refine wpAny_pyNext_zip_end (I.ok.hd hc) D hz hTI hTO h1 h2 p.isList p'.isList (by
   rcases hend with q | q
   ·left; simp; omega
   ·right; simp; omega) fun h' kk => ⟨rfl, ?_⟩
  refine I.step (g' := s.gens) (d' := s.drawn) (t' := s.toks) (ch := [z, TI, TO, i1, i2]) (fun c hb => ?_) (fun c ob _ _ hn q _ => kk c ob (fun r => hn (by simp [r])) (fun r => hn (by simp [r])) (fun r => hn (by simp [r])) (fun r => hn (by simp [r])) q)
   (fun c ob _ _ hn q _ => ⟨ob.slots, kk c ob (fun r => hn (by simp [r])) (fun r => hn (by simp [r])) (fun r => hn (by simp [r])) (fun r => hn (by simp [r])) q⟩) (fun _ _ _ _ n => n)
   (fun c ob hn q => ⟨ob, kk c ob (fun r => hn (by simp [r])) (fun r => hn (by simp [r])) (fun r => hn (by simp [r])) (fun r => hn (by simp [r])) q⟩) (fun _ _ q => q) (fun _ _ _ q => q) (fun c ps q => ⟨#[], by rw [q]; simp⟩) (fun m hm => ?_) (fun c u e => ?_) I.bare
  ·obtain ⟨_, q2, _, q4, q5, q6⟩ := hf c hb
   exact ⟨q4, q2, q5, q6⟩
  ·obtain ⟨ob, es, ep, ho, r⟩ := hm
   have nL : ∀ c ∈ [z, TI, TO, i1, i2], X.env.locals ≠ c := fun c hc => Ne.symm (hf c hc).2.1
   exact ⟨ob, es, ep, kk _ ob (nL z (by simp)) (nL TO (by simp)) (nL i1 (by simp)) (nL i2 (by simp)) ho, r⟩
  ·have nf : ∀ c' u, H c' = some u → ∀ q ∈ [z, TI, TO, i1, i2], c' ≠ q := fun c' u e q hq r => by rw [r, (hf q hq).1] at e; cases e
   refine (I.hok c u e).stay (fun c' v hc' q => ?_) (fun _ q => q) fun _ _ q => q
   have go : ∀ u', H c' = some u' → h'.get? c' = some v := fun u' e' => kk c' v (nf c' _ e' z (by simp)) (nf c' _ e' TO (by simp)) (nf c' _ e' i1 (by simp)) (nf c' _ e' i2 (by simp)) q
   rcases hc' with r | r
   ·exact go u (by rw [r]; exact e)
   ·exact go _ r
 self := fun _ _ _ _ _ st h => wpAny_pyIter_zip st.1 h
theorem zjm {l l' n : Nat} (hl : l < n) (hl' : l' < n) : ZipApart (n + 4) (n + 2) (n + 3) n (n + 1) l l' := by
 constructor <;> (intro z; have z' : (_ : Nat) = _ := z; omega)
theorem zip_in {n c : Nat} (h : c ∈ [n + 4, n + 2, n + 3, n, n + 1]) : n ≤ c := by
 simp only [List.mem_cons, List.not_mem_nil, or_false] at h
 omega
def iZip (K : PySem.W.Frag) (ta : TA) : TI := fun σ H R => ta σ H fun vs H1 => ∃ a b, vs = [.ref a, .ref b] ∧ (∃ xs, SqL K H1 a xs) ∧ (∃ xs, SqL K H1 b xs) ∧ R (Itz K a b) H1
section
variable {X : Cx}
theorem pi_zip {es : List Expr} {k0} {tp : Pos} {a b : Expr} {ta : TA} {p pos : Pos} (hg : Gl X "zip") (hm : X.mg "zip" = none) (ha : PA X [a, b] ta) (hs : starEach [a, b] X.env = [(false, eval a X.env), (false, eval b X.env)] := by rfl) (hs2 : starEach [b] X.env = [(false, eval b X.env)] := by rfl) : PI X (.Tuple es k0 tp) (.Call (.Name "zip" p) [a, b] [] pos) (iZip X.K ta) := by
 intro pins s σ H R I h
 refine Call_ (zeq I hg hm boot_zip (PyProof.Rows.callWith_type1 (thn (ha pos pins s σ H _ I h) fun us s1 ⟨vs, H1, I1, r1, q1⟩ => ?_) (by rw [hs, hs2]) (by rw [hs2]; rfl)))
 obtain ⟨l, l', e, ⟨xs, hq⟩, ⟨ys, hq'⟩, q⟩ := q1
 subst e
 cases r1 with
 | cons r rr =>
  cases rr with
  | cons r' rr =>
   cases rr
   cases r
   cases r'
   obtain ⟨its, rv, pl, hz⟩ := I1.list hq
   obtain ⟨jts, rv', pl', hz'⟩ := I1.list hq'
   have hl : l < s1.heap.objs.size := by obtain ⟨o, _, e, _⟩ := pl; exact Heap.lt_size e
   have hl' : l' < s1.heap.objs.size := by obtain ⟨o, _, e, _⟩ := pl'; exact Heap.lt_size e
   refine call_zip_2 pl.isList pl'.isList fun h' hz hTI hTO hi hi' _ hk => ?_
   have I2 : Inv X pins σ H1 { s1 with heap := h' } := I1.kept (t' := s1.toks) hk
   refine wpAny_pyIter_zip (s := { s1 with heap := h' }) hz ⟨_, [s1.heap.objs.size + 4, s1.heap.objs.size + 2, s1.heap.objs.size + 3, s1.heap.objs.size, s1.heap.objs.size + 1], _, _, H1, rfl, I2, turn_zip (zjm hl hl'), ⟨hz, hTI, ⟨_, _, hTO⟩, hi, hi'⟩, fun c hb => ?_, q⟩
   have hb' : s1.heap.objs.size ≤ c := zip_in hb
   exact I1.fpOk hb' (I1.hok.fresh hb')
end
theorem for_zip {K : PySem.W.Frag} {a b : Addr} {xs ys : List V} {g : TG} {tb : TS} {D : Ends} {σ : St} {H : Hp} (hlen : xs.length = ys.length) (Pv : Nat → St → Hp → Prop) (h0 : Pv 0 σ H) (hl : ∀ i σ H, i ≤ xs.length → Pv i σ H → SqL K H a xs ∧ SqL K H b ys)
  (hs : ∀ i x y σ H p, xs[i]? = some x → ys[i]? = some y → Pv i σ H → H p = none → g (.ref p) σ (upd H p (.tup [x, y])) fun σ2 H2 => tb { D with nx := Pv (i + 1), ct := Pv (i + 1), bk := D.nx } σ2 H2) (hd : ∀ σ H, Pv xs.length σ H → D.nx σ H) :
  ∃ W : Nat → Nat → St → Hp → Prop, (∃ m, W 0 m σ H) ∧ ∀ i m σ H, W i m σ H → ((Itz K a b).stop i H ∧ D.nx σ H) ∨ ((Itz K a b).go i H ∧ ∃ N : St → Hp → Prop, (∀ σ' H', N σ' H' → ∃ m', m' < m ∧ W (i + 1) m' σ' H') ∧ ∀ x H', (Itz K a b).yld i H x H' → g x σ H' fun σ2 H2 => tb { D with nx := N, ct := N, bk := D.nx } σ2 H2) := by
 refine ⟨fun i m σ H => i + m = xs.length ∧ Pv i σ H, ⟨xs.length, by omega, h0⟩, fun i m σ H ⟨e, pv⟩ => ?_⟩
 obtain ⟨hS, hS'⟩ := hl i σ H (by omega) pv
 by_cases hi : i < xs.length
 ·refine .inr ⟨⟨xs, ys, xs[i], ys[i]'(by omega), hS, hS', List.getElem?_eq_getElem hi, List.getElem?_eq_getElem (by omega)⟩, Pv (i + 1), fun σ' H' q => ⟨m - 1, by omega, by omega, q⟩, fun x H' y => ?_⟩
  obtain ⟨p, z, z', rfl, hp, hz, hz', rfl⟩ := y
  exact hs i z z' σ H p (hz xs hS) (hz' ys hS') pv hp
 ·have : i = xs.length := by omega
  subst this
  exact .inl ⟨⟨xs, ys, hS, hS', .inl (Nat.le_refl _)⟩, hd σ H pv⟩
end L2
namespace L2
open PySem PySem.Spec PyProof.Rows
def zbY (X : Cx) (N : List Str) (scope : Scope) (cl : List (Str × Addr)) (C : Addr) (s₂ : Shared) (H₂ : Hp) (fp : List Addr) : Cx :=
 { X with N := N, s₀ := s₂, H₀ := H₂, env := compEnvC scope cl C X.env, outer := X.stack, stack := X.stack, ex := fp, fn := fun _ => false, xe := fun _ _ => False }
structure zhl (scope : Scope) (env : Env) (cl : List (Str × Addr)) : Prop where
 eq : closureFor scope env = pure cl
 sub : ∀ x c, cl.lookup x = some c → env.cells.lookup x = some c
 has : ∀ x, (x, NameKind.free) ∈ scope.names → ∃ c, cl.lookup x = some c
theorem zfo {env : Env} : ∀ (names : List (Str × NameKind)) (cs : List (Str × Addr)), (∀ x, (x, NameKind.free) ∈ names → ∃ c, env.cells.lookup x = some c) → (∀ x c, cs.lookup x = some c → env.cells.lookup x = some c) →
  ∃ cl : List (Str × Addr), (forIn names cs (fun (x : Str × NameKind) (r : List (Str × Addr)) => if (x.2 == NameKind.free) = true then (do let c ← cellOf env x.1; pure (ForInStep.yield ((x.1, c) :: r))) else pure (ForInStep.yield r)) : Sem (List (Str × Addr))) = pure cl ∧
   (∀ x c, cl.lookup x = some c → env.cells.lookup x = some c) ∧ (∀ x c, cs.lookup x = some c → ∃ c', cl.lookup x = some c') ∧ ∀ x, (x, NameKind.free) ∈ names → ∃ c, cl.lookup x = some c
 | [], cs, _, h2 => ⟨cs, by rw [List.forIn_nil], h2, fun x c e => ⟨c, e⟩, fun _ z => nomatch z⟩
 | (n, k) :: r, cs, h1, h2 => by
  by_cases hk : k = .free
  ·subst hk
   obtain ⟨c, hc⟩ := h1 n List.mem_cons_self
   have hn : ∀ x c', ((n, c) :: cs).lookup x = some c' → env.cells.lookup x = some c' := fun x c' e => by
    rw [List.lookup_cons] at e
    cases hx : x == n with
    | true =>
     rw [hx] at e
     cases e
     rw [eq_of_beq hx]
     exact hc
    | false =>
     rw [hx] at e
     exact h2 x c' e
   obtain ⟨cl, e, s1, s2, s3⟩ := zfo r ((n, c) :: cs) (fun x hx => h1 x (List.mem_cons_of_mem _ hx)) hn
   have here : ∃ c', cl.lookup n = some c' := s2 n c (by rw [List.lookup_cons, beq_self_eq_true])
   refine ⟨cl, ?_, s1, fun x c' q => ?_, fun x hx => ?_⟩
   ·rw [List.forIn_cons, if_pos (by rfl)]
    have q : cellOf env n = pure c := by unfold cellOf; rw [hc]
    rw [q]
    simp only [pure_bind]
    exact e
   ·cases hxn : x == n with
    | true => rw [eq_of_beq hxn]; exact here
    | false => exact s2 x c' (by rw [List.lookup_cons, hxn]; exact q)
   ·rcases List.mem_cons.mp hx with z | z
    ·cases z; exact here
    ·exact s3 x z
  ·obtain ⟨cl, e, s1, s2, s3⟩ := zfo r cs (fun x hx => h1 x (List.mem_cons_of_mem _ hx)) h2
   refine ⟨cl, ?_, s1, s2, fun x hx => ?_⟩
   ·have hb : (k == NameKind.free) = false := by simpa using hk
    rw [List.forIn_cons, if_neg (by rw [hb]; exact Bool.false_ne_true)]
    simp only [pure_bind]
    exact e
   ·rcases List.mem_cons.mp hx with z | z
    ·cases z; exact absurd rfl hk
    ·exact s3 x z
theorem zfn {scope : Scope} {env : Env} (h : ∀ x, (x, NameKind.free) ∈ scope.names → ∃ c, env.cells.lookup x = some c) : ∃ cl, zhl scope env cl := by
 obtain ⟨cl, e, s1, _, s3⟩ := zfo scope.names [] h (fun _ _ z => nomatch z)
 refine ⟨cl, ?_, s1, s3⟩
 unfold closureFor
 exact (by simpa using e)
theorem zbF {env : Env} : ∀ {names : List (Str × NameKind)} {x : Str}, names.lookup x = some .free →
  (names.map fun (n, k) => if (k == NameKind.free && env.scope.kind == .function && env.kindOf n == some .cell) then (n, NameKind.cell) else (n, k)).lookup x = some .cell ∨
  (names.map fun (n, k) => if (k == NameKind.free && env.scope.kind == .function && env.kindOf n == some .cell) then (n, NameKind.cell) else (n, k)).lookup x = some .free
 | [], _, h => by simp at h
 | (n, k) :: r, x, h => by
  have ih := @zbF env r x
  show List.lookup x ((if (k == NameKind.free && env.scope.kind == .function && env.kindOf n == some .cell) = true then (n, NameKind.cell) else (n, k)) :: _) = _ ∨ List.lookup x ((if (k == NameKind.free && env.scope.kind == .function && env.kindOf n == some .cell) = true then (n, NameKind.cell) else (n, k)) :: _) = _
  cases hx : x == n with
  | true =>
   simp only [List.lookup_cons, hx] at h
   cases h
   by_cases hc : (NameKind.free == NameKind.free && env.scope.kind == .function && env.kindOf n == some .cell) = true
   ·rw [if_pos hc]; left; simp only [List.lookup_cons, hx]
   ·rw [if_neg hc]; right; simp only [List.lookup_cons, hx]
  | false =>
   simp only [List.lookup_cons, hx] at h
   by_cases hc : (k == NameKind.free && env.scope.kind == .function && env.kindOf n == some .cell) = true
   ·rw [if_pos hc]; simp only [List.lookup_cons, hx]; exact ih h
   ·rw [if_neg hc]; simp only [List.lookup_cons, hx]; exact ih h
theorem zd0 {env : Env} : ∀ {names : List (Str × NameKind)} {x : Str} {k' : NameKind}, (names.map fun (n, k) => if (k == NameKind.free && env.scope.kind == .function && env.kindOf n == some .cell) then (n, NameKind.cell) else (n, k)).lookup x = some k' → k' = .cell ∨ k' = .free →
  (∀ y ∈ names, y.2 ≠ .cell) → (x, NameKind.free) ∈ names
 | [], _, _, h, _, _ => by simp at h
 | (n, k) :: r, x, k', h, hk, hc => by
  have ih := @zd0 env r x k'
  have h' : List.lookup x ((if (k == NameKind.free && env.scope.kind == .function && env.kindOf n == some .cell) = true then (n, NameKind.cell) else (n, k)) :: r.map fun (n, k) => if (k == NameKind.free && env.scope.kind == .function && env.kindOf n == some .cell) then (n, NameKind.cell) else (n, k)) = some k' := h
  cases hx : x == n with
  | true =>
   have e := eq_of_beq hx
   subst e
   by_cases hf : k = .free
   ·subst hf; exact List.mem_cons_self
   ·have hb : (k == NameKind.free) = false := by simpa using hf
    rw [if_neg (by rw [hb]; simp), List.lookup_cons, hx] at h'
    cases h'
    rcases hk with z | z
    ·exact absurd z (hc (x, k) List.mem_cons_self)
    ·exact absurd z hf
  | false =>
   refine List.mem_cons_of_mem _ (ih ?_ hk fun y hy => hc y (List.mem_cons_of_mem _ hy))
   by_cases hcd : (k == NameKind.free && env.scope.kind == .function && env.kindOf n == some .cell) = true
   ·rw [if_pos hcd, List.lookup_cons, hx] at h'; exact h'
   ·rw [if_neg hcd, List.lookup_cons, hx] at h'; exact h'
def zcL (own : Nat) (cap : List Nat) (σ : St) : St := List.replicate own none ++ cap.map fun i => (σ[i]?).getD none
structure ziV (X : Cx) (scope : Scope) (N : List Str) (own : Nat) (cap : List Nat) : Prop where
 kind : scope.kind = .function
 nocell : (scope.names.all fun y => y.2 != .cell) = true
 locs : (scope.names.all fun y => y.2 != .local || scope.names.lookup y.1 == some .local) = true
 frees : (scope.names.all fun y => y.2 != .free || (X.env.kindOf y.1 == some .cell || X.env.kindOf y.1 == some .free)) = true
 len : N.length = own + cap.length
 caps : ((List.range cap.length).all fun j => (N[own + j]? == X.N[cap[j]!]?) && (match N[own + j]? with | some x => scope.names.lookup x == some .free && (X.env.kindOf x == some .cell || X.env.kindOf x == some .free) | none => false)) = true
section
variable {prog : Program} {w : World} {A : Around} {R : Result → Shared → Prop} {s : Shared}
theorem zfl {elt target iter : Expr} {ifs : List Expr} {scope : Scope} {pos : Pos} {it acc : Value} {env : Env} (I : Nat → Shared → Prop)
  (turn : ∀ n s, I n s → wpAny (model prog w) A (pyNext it) (fun r s₁ => match r with
   | none => R (.ok .next) s₁
   | some v => wpAny (model prog w) A (letOwnedTupleGo target it v) (fun _ s₁' => wpAny (model prog w) A (assign target env v) (fun _ s₂ =>
     wpAny (model prog w) A (forIn ifs true fun c r => if r = true then do let ok ← isTrue c env (eval c env); pure (ForInStep.yield ok) else pure (ForInStep.yield r)) (fun ok s₃ =>
      if ok = true then wpAny (model prog w) A (eval elt env) (fun x s₄ =>
       wpAny (model prog w) A (call (.builtin "list.append") [acc, x]) (fun _ s₅ => ∃ m, m < n ∧ I m s₅) (fun _ _ => False) s₄) (fun _ _ => False) s₃
      else ∃ m, m < n ∧ I m s₃) (fun _ _ => False) s₂) (fun _ _ => False) s₁') (fun _ _ => False) s₁) (fun _ _ => False) s)
  (n : Nat) (h : I n s) :
  codeAny (model prog w) A (.compLoop (.ListComp elt [⟨target, iter, ifs, 0⟩] scope pos) 0 it acc env) R s := by
 refine codeAny_loop rfl I (fun n s hI => ?_) n h
 show wpAny _ A ((compTurn (.ListComp elt [⟨target, iter, ifs, 0⟩] scope pos) 0 it acc env).onRaise (fun x => do noteFrame x env; theTreesLotGoes x)) _ _ s
 refine wpAny_noted ?_
 rw [compTurn_list]
 refine wpAny_bind (wpAny_standAt (wpAny_bind (wpAny_mono (turn n s hI) (fun r s₁ h₁ => ?_) fun _ _ h' => h'.elim)))
 cases r with
 | none => exact wpAny_pure h₁
 | some v =>
  refine wpAny_bind (wpAny_mono h₁ (fun _ s₁' h₁' => ?_) fun _ _ h' => h'.elim)
  refine wpAny_bind (wpAny_mono h₁' (fun _ s₂ h₂ => wpAny_bind (wpAny_mono h₂ (fun ok s₃ h₃ => ?_) fun _ _ h' => h'.elim)) fun _ _ h' => h'.elim)
  cases ok with
  | true =>
   simp only [if_true] at h₃ ⊢
   exact wpAny_bind (wpAny_bind (wpAny_mono h₃ (fun x s₄ h₄ => wpAny_bind (wpAny_mono h₄ (fun _ s₅ h₅ => wpAny_pure (wpAny_pure ⟨rfl, h₅⟩)) fun _ _ h' => h'.elim)) fun _ _ h' => h'.elim))
  | false =>
   simp only [Bool.false_eq_true, if_false] at h₃ ⊢
   exact wpAny_pure ⟨rfl, h₃⟩
end
section
variable {X : Cx}
def PTs (X : Cx) (ifs : List Expr) (t : TT) : Prop :=
 ∀ (pins : List (Addr × Obj)) (s : Shared) (σ : St) (H : Hp) (Q : Bool → Hp → Prop), Inv X pins σ H s → t σ H Q →
  wpAny (model X.prog X.w) X.A (forIn ifs true fun c r => if r = true then do let ok ← isTrue c X.env (eval c X.env); pure (ForInStep.yield ok) else pure (ForInStep.yield r)) (TP X pins σ Q) X.xe s
def tYes : TT := fun _ H Q => Q true H
theorem zcM : PTs X [] tYes := fun _ _ _ H _ I h => wpAny_tests_nil ⟨H, I, h⟩
theorem zeF {c : Expr} {t : TT} (h : PT X c t) : PTs X [c] t := fun pins s σ H Q I q => wpAny_tests_one (h pins s σ H Q I q)
theorem inv_comp {pins : List (Addr × Obj)} {σ : St} {H : Hp} {s : Shared} {N : List Str} {own : Nat} {cap : List Nat} {scope : Scope} {cl : List (Str × Addr)} {C : Addr} {fp : List Addr} {h₁ : Heap} {tk : Nat} {D : Addr}
  (I : Inv X pins σ H s) (c : ziV X scope N own cap) (hcl : zhl scope X.env cl) (f : ∀ b ∈ fp, FpOk X pins H b) (hD : s.heap.objs.size ≤ D) (hC : s.heap.objs.size ≤ C) (hCD : D ≠ C)
  (kp : ∀ b o, s.heap.get? b = some o → h₁.get? b = some o) (hnew : h₁.get? D = some { cls := .type "list", data := .seq #[] }) (hns : ∃ m, h₁.Ns C m) (hfp : ∀ b ∈ fp, b < s.heap.objs.size) (hcalm : X.calm = true) :
  Inv (zbY X N scope cl C s H fp) pins (zcL own cap σ) (upd H D (.lst [])) { s with heap := h₁, toks := tk } := by
 have hfr : H D = none := I.hok.fresh hD
 have hfrC : H C = none := I.hok.fresh hC
 have sz : ∀ b o, s.heap.get? b = some o → b ≠ D ∧ b ≠ C := fun b o e => ⟨Nat.ne_of_lt (Nat.lt_of_lt_of_le (Heap.lt_size e) hD), Nat.ne_of_lt (Nat.lt_of_lt_of_le (Heap.lt_size e) hC)⟩
 have cells : ∀ x cc, cl.lookup x = some cc → ∃ v, s.heap.IsCell cc v := fun x cc e => I.cell x cc (hcl.sub x cc e)
 have cellne : ∀ x cc, cl.lookup x = some cc → cc ≠ D ∧ cc ≠ C := fun x cc e => by
  obtain ⟨v, o, ho, _⟩ := cells x cc e
  exact sz cc o ho
 have ok : (zbY X N scope cl C s H fp).Ok := by
  refine ⟨I.ok.mod, c.kind, I.ok.glob, I.ok.blt, hC, fun x y cc e1 e2 => I.ok.inj x y cc (hcl.sub x cc e1) (hcl.sub y cc e2), fun x hx => ?_, (fun x cc z _ => nomatch z), I.ok.hd, I.ok.frames, .inl rfl, fun b hb => ?_, fun b o e => I.bs b o e, ?_, fun b o e hb => ?_, fun b hb z => ?_, I.stack, fun b hb => I.stkFree b hb⟩
  ·have hm : (x, NameKind.free) ∈ scope.names := by
    rcases hx with z | z
    ·exact zd0 (env := X.env) (names := scope.names) (x := x) (k' := .cell) z (.inl rfl) fun y hy q => by
      have := List.all_eq_true.mp c.nocell y hy
      rw [q] at this
      exact absurd this (by decide)
    ·exact zd0 (env := X.env) (names := scope.names) (x := x) (k' := .free) z (.inr rfl) fun y hy q => by
      have := List.all_eq_true.mp c.nocell y hy
      rw [q] at this
      exact absurd this (by decide)
   exact hcl.has x hm
  ·exact ⟨Nat.ne_of_lt (Nat.lt_of_lt_of_le (hfp b hb) hC), fun x cc e z => (f b hb).2.2.2.2.1 x cc (hcl.sub x cc e) z⟩
  ·exact Nat.le_trans I.ok.bsz I.sz
  ·obtain ⟨_, _, _, h4, _⟩ := f b hb
   rcases h4 with z | z
   ·exact I.ok.noex b o e z
   ·exact absurd (Nat.lt_of_lt_of_le (Heap.lt_size e) (Nat.le_trans I.ok.bsz z)) (Nat.lt_irrefl _)
  ·obtain ⟨_, h2, h3, _⟩ := f b hb
   rcases List.mem_cons.mp (I.stkSub b z) with q | q
   ·exact h2 q
   ·exact h3 q
 have hokN : zbA X.prog X.w (upd H D (.lst [])) h₁ D (.lst []) := ⟨Nat.zero_le _, [], 0, .nil, hnew⟩
 refine ⟨ok, I.os.symm ▸ rfl, I.bare, Un.laid kp hD hfr, ?_, fun x cc e => ?_, ?_, fun x cc e => ?_, fun p hp => ?_, I.hok.laid kp hD hokN, ?_⟩
 ·obtain ⟨m, hm⟩ := hns
  refine ⟨m, hm, fun i x v e1 e2 e3 => ?_⟩
  have hi : own ≤ i := by
   false_or_by_contra
   rename_i z
   unfold zcL at e2
   rw [List.getElem?_append_left (by rw [List.length_replicate]; omega), List.getElem?_replicate] at e2
   split at e2 <;> cases e2
  obtain ⟨j, rfl⟩ : ∃ j, i = own + j := ⟨i - own, by omega⟩
  have hj : j < cap.length := by
   have := (List.getElem?_eq_some_iff.mp e1).1
   have z := c.len
   have this' : own + j < N.length := this
   omega
  have hc := List.all_eq_true.mp c.caps j (List.mem_range.mpr hj)
  have e1' : N[own + j]? = some x := e1
  rw [e1'] at hc
  simp only [Bool.and_eq_true, beq_iff_eq, Bool.or_eq_true] at hc
  obtain ⟨hN, hf, hk⟩ := hc
  have e2' : σ[cap[j]!]? = some (some v) := by
   unfold zcL at e2
   rw [List.getElem?_append_right (by rw [List.length_replicate]; omega), List.length_replicate, show own + j - own = j by omega, List.getElem?_map] at e2
   have g : cap[j]! = cap[j] := by simp [hj]
   rw [List.getElem?_eq_getElem hj, Option.map_some] at e2
   rw [g]
   have e2 := Option.some.inj e2
   cases q : σ[cap[j]]? with
   | none => rw [q] at e2; cases e2
   | some z => rw [q] at e2; exact congrArg some e2
  obtain ⟨m0, _, hl⟩ := I.loc
  obtain ⟨u, ru, lk⟩ := hl (cap[j]!) x v hN.symm e2' (by
   rcases hk with z | z
   ·exact .inr (.inl z)
   ·exact .inr (.inr z))
  refine ⟨u, ru, .inr ⟨zbF (env := X.env) hf, ?_⟩⟩
  rcases lk with ⟨z, _⟩ | ⟨_, cc, ec, ic⟩
  ·rcases hk with q | q
   ·rw [q] at z; cases z
   ·rw [q] at z; cases z
  ·obtain ⟨c', hc'⟩ := hcl.has x (by
    have : (x, NameKind.free) ∈ scope.names := by
     have hlk := hf
     obtain ⟨l1, l2, hs, hno⟩ := List.lookup_eq_some_iff.mp hlk
     rw [hs]
     exact List.mem_append_right _ List.mem_cons_self
    exact this)
   have := hcl.sub x c' hc'
   rw [ec] at this
   cases this
   obtain ⟨o, ho, hd⟩ := ic
   exact ⟨cc, hc', o, kp cc o ho, hd⟩
 ·obtain ⟨v, o, ho, hd⟩ := cells x cc e
  exact ⟨v, o, kp cc o ho, hd⟩
 ·show upd H D (.lst []) C = none
  rw [zag (Ne.symm hCD)]
  exact hfrC
 ·show upd H D (.lst []) cc = none
  rw [zag (cellne x cc e).1]
  exact I.freeC x cc (hcl.sub x cc e)
 ·obtain ⟨e, n, ne, nf, d⟩ := I.pin p hp
  refine ⟨kp _ _ e, ?_, (sz _ _ e).2, fun z => ?_, d⟩
  ·show upd H D (.lst []) p.1 = none
   rw [zag (sz _ _ e).1]
   exact n
  ·rcases List.mem_cons.mp (I.stkSub p.1 z) with q | q
   ·exact ne q
   ·exact nf q
 ·show (zcL own cap σ).length = N.length
  unfold zcL
  rw [List.length_append, List.length_replicate, List.length_map, c.len]
def tComp (own : Nat) (cap : List Nat) (wi : TI) (g : TG) (ts : TT) (te : TE) : TE := fun σ H Q => wi σ H fun J H1 => ∀ D, H1 D = none → ∃ W : Nat → Nat → St → Hp → Prop, (∃ m, W 0 m (zcL own cap σ) (upd H1 D (.lst []))) ∧ ∀ i m σ H, W i m σ H →
 (J.stop i H ∧ Q (.ref D) H) ∨ (J.go i H ∧ ∀ x H', J.yld i H x H' → g x σ H' fun σ2 H2 => ts σ2 H2 fun b H3 => if b = true then te σ2 H3 fun y H4 => ∃ xs, H4 D = some (.lst xs) ∧ xs.length < sizeLine ∧ ∃ m', m' < m ∧ W (i + 1) m' σ2 (upd H4 D (.lst (xs ++ [y]))) else ∃ m', m' < m ∧ W (i + 1) m' σ2 H3)
theorem zha {pins : List (Addr × Obj)} {σ : St} {H2 : Hp} {s2 : Shared} {N : List Str} {own : Nat} {cap : List Nat} {scope : Scope} {cl : List (Str × Addr)} {fp : List Addr} {tg elt iter : Expr} {ifs : List Expr} {pos : Pos} {J : It} {it : Addr} {tn : Nat → Heap → Prop} {g : TG} {ts : TT} {te : TE} {Q : VK}
  {E : Value → Shared → Prop} {RR : Value → Addr → Result → Shared → Prop}
  (hcalm : X.calm = true) (c : ziV X scope N own cap) (hcl : zhl scope X.env cl)
  (hg : ∀ cl C s₂ H₂ fp, PG (zbY X N scope cl C s₂ H₂ fp) tg g) (hts : ∀ cl C s₂ H₂ fp, PTs (zbY X N scope cl C s₂ H₂ fp) ifs ts) (he : ∀ cl C s₂ H₂ fp, PE (zbY X N scope cl C s₂ H₂ fp) elt te)
  (I2 : Inv X pins σ H2 s2) (T : Turn X.prog X.w X.K tg J fp it tn) (st2 : tn 0 s2.heap) (f2 : ∀ b ∈ fp, FpOk X pins H2 b)
  (rd : ∀ D, H2 D = none → ∃ W : Nat → Nat → St → Hp → Prop, (∃ m, W 0 m (zcL own cap σ) (upd H2 D (.lst []))) ∧ ∀ i m σ H, W i m σ H →
   (J.stop i H ∧ Q (.ref D) H) ∨ (J.go i H ∧ ∀ x H', J.yld i H x H' → g x σ H' fun σ2 H2 => ts σ2 H2 fun b H3 => if b = true then te σ2 H3 fun y H4 => ∃ xs, H4 D = some (.lst xs) ∧ xs.length < sizeLine ∧ ∃ m', m' < m ∧ W (i + 1) m' σ2 (upd H4 D (.lst (xs ++ [y]))) else ∃ m', m' < m ∧ W (i + 1) m' σ2 H3))
  (hRR : ∀ D C s' H', Inv X pins σ H' s' → (∃ m, s'.heap.Ns C m) → FpOk X pins H' C → Q (.ref D) H' → RR (.ref D) C (.ok .next) s') :
  wpAny (model X.prog X.w) X.A (newList []) (fun acc s₃ => wpAny (model X.prog X.w) X.A (newFunctionEnv scope X.env.globals cl [] X.env.qual none .none (some X.env)) (fun cenv s₄ =>
   codeAny (model X.prog X.w) X.A (.compStart (.ListComp elt [⟨tg, iter, ifs, 0⟩] scope pos) 0 (.ref it) acc { cenv with scope := relabel scope X.env }) (RR acc cenv.locals) s₄) E s₃) E s2 := by
 have hcell : ∀ y ∈ scope.names, y.2 ≠ .cell := fun y hy q => by
  have := List.all_eq_true.mp c.nocell y hy
  rw [q] at this
  exact absurd this (by decide)
 have hfp : ∀ b ∈ fp, b < s2.heap.objs.size := fun b hb => by
  obtain ⟨o, e, _⟩ := T.obj 0 _ st2 b hb
  exact Heap.lt_size e
 refine wpAny_newObj_type (wpAny_newFunctionEnv hcell (by intro y hy; simp at hy) (fun h₁ hns₁ hsb₁ => ?_) c.kind)
 dsimp only at hns₁ hsb₁ ⊢
 generalize hHH : s2.heap.push { cls := .type "list", dict := none, data := .seq ([] : List Value).toArray } = HH at hns₁ hsb₁ ⊢
 have hC : HH.objs.size = s2.heap.objs.size + 1 := by rw [← hHH, Heap.size_push]
 have hDC : s2.heap.objs.size ≠ HH.objs.size := by rw [hC]; exact Nat.ne_of_lt (Nat.lt_succ_self _)
 have hCle : s2.heap.objs.size ≤ HH.objs.size := by rw [hC]; exact Nat.le_succ _
 have old : ∀ b o, s2.heap.get? b = some o → h₁.get? b = some o := fun b o e => hsb₁.extBut b o (Nat.ne_of_lt (by rw [hC]; exact Nat.lt_succ_of_lt (Heap.lt_size e))) (Heap.get?_push_of_some _ (hHH ▸ Heap.get?_push_of_some _ e))
 have hnew : h₁.get? s2.heap.objs.size = some { cls := .type "list", data := .seq #[] } := hsb₁.extBut _ _ hDC (Heap.get?_push_of_some _ (hHH ▸ Heap.get?_push_size _ rfl))
 have I3 : ∀ tk, Inv (zbY X N scope cl HH.objs.size s2 H2 fp) pins (zcL own cap σ) (upd H2 s2.heap.objs.size (.lst [])) { s2 with heap := h₁, toks := tk } := fun tk =>
  inv_comp I2 c hcl f2 (Nat.le_refl _) hCle hDC old hnew ⟨_, hns₁⟩ hfp hcalm
 obtain ⟨W, ⟨m0, w0⟩, turn⟩ := rd s2.heap.objs.size (I2.hok.fresh (Nat.le_refl _))
 have st3 : tn 0 h₁ := T.keep _ _ _ st2 fun b _ o e => old b o e
 have fr3 : ∀ b ∈ fp, upd H2 s2.heap.objs.size (.lst []) b = none := fun b hb => by rw [zag (Nat.ne_of_lt (hfp b hb))]; exact (f2 b hb).1
 have stat : ∀ {H' : Hp}, (∀ b ∈ fp, H' b = none) → ∀ b ∈ fp, FpOk (zbY X N scope cl HH.objs.size s2 H2 fp) pins H' b := fun hn b hb => by
  obtain ⟨_, h2, h3, _, h5, h6⟩ := f2 b hb
  refine ⟨hn b hb, Nat.ne_of_lt (Nat.lt_of_lt_of_le (hfp b hb) hCle), fun z => ?_, .inl hb, fun x cc e => h5 x cc (hcl.sub x cc e), h6⟩
  rcases List.mem_cons.mp (I2.stkSub b z) with q | q
  ·exact h2 q
  ·exact h3 q
 have loop : ∀ s₃ : Shared, s₃ = { s2 with heap := h₁, toks := s2.toks + ([] : List (Str × Value)).length } →
   codeAny (model X.prog X.w) X.A (.compLoop (.ListComp elt [⟨tg, iter, ifs, 0⟩] scope pos) 0 (.ref it) (.ref s2.heap.objs.size) (compEnvC scope cl HH.objs.size X.env)) (RR (.ref s2.heap.objs.size) HH.objs.size) s₃ := by
  rintro s₃ rfl
  refine zfl (fun n s' => ∃ i σ' H', Inv (zbY X N scope cl HH.objs.size s2 H2 fp) pins σ' H' s' ∧ tn i s'.heap ∧ (∀ b ∈ fp, H' b = none) ∧ W i n σ' H') ?_ m0 ⟨0, _, _, I3 _, st3, fr3, w0⟩
  rintro n s3 ⟨i, σ3, H3, J3, t3, fr, w3⟩
  rcases turn i n σ3 H3 w3 with ⟨stop, qn⟩ | ⟨go, step⟩
  ·refine thn (T.done (zbY X N scope cl HH.objs.size s2 H2 fp) rfl rfl rfl hcalm i pins s3 σ3 H3 (fun _ _ => False) J3 (stat fr) t3 stop) fun r s4 ⟨hr, I4⟩ => ?_
   subst hr
   obtain ⟨mm, hmm, _⟩ := I4.loc
   refine hRR _ _ s4 H3 (I2.call' I4.os I4.base I4.hok I4.bare fun b hb => ?_) ⟨mm, hmm⟩ (I2.fpOk hCle I4.free) qn
   obtain ⟨_, h2, _, h4, h5, h6⟩ := f2 b hb
   exact ⟨h4, h2, h5, h6⟩
  ·refine thn (T.item (zbY X N scope cl HH.objs.size s2 H2 fp) rfl rfl rfl hcalm i pins s3 σ3 H3 (fun _ _ => False) J3 (stat fr) t3 go) fun r s4 ⟨u, hr, h4⟩ => ?_
   subst hr
   refine thn h4 fun _ s5 ⟨x, H5, I5, r5, y5, st5, fr5⟩ => ?_
   have I5' := I5.pinned (stat fr5) (T.obj _ _ st5)
   have back : ∀ {σ7 : St} {H7 : Hp} {s7 : Shared} {m' : Nat}, Inv (zbY X N scope cl HH.objs.size s2 H2 fp) (pins ++ zfM fp s5.heap) σ7 H7 s7 → W (i + 1) m' σ7 H7 → ∃ i σ' H', Inv (zbY X N scope cl HH.objs.size s2 H2 fp) pins σ' H' s7 ∧ tn i s7.heap ∧ (∀ b ∈ fp, H' b = none) ∧ W i m' σ' H' := fun {σ7 H7 s7 m'} I7 w7 => by
    refine ⟨i + 1, σ7, H7, I7.unpinned, T.keep _ _ _ st5 fun b hb o e => (I7.pin (b, o) (List.mem_append_right _ (List.mem_append_right _ (zcF hb e)))).1, fun b hb => ?_, w7⟩
    obtain ⟨o, e, d⟩ := T.obj _ _ st5 b hb
    exact (I7.pin (b, o) (List.mem_append_right _ (List.mem_append_right _ (zcF hb e)))).2.1
   refine thn (hg cl HH.objs.size s2 H2 fp _ s5 σ3 H5 x u _ I5' r5 (step x H5 y5)) fun _ s6 ⟨σ6, H6, I6, q6⟩ => ?_
   refine thn (hts cl HH.objs.size s2 H2 fp _ s6 σ6 H6 _ I6 q6) fun b s7 ⟨H7, I7, q7⟩ => ?_
   cases b with
   | false =>
    rw [if_neg Bool.false_ne_true] at q7 ⊢
    obtain ⟨m', hm, w7⟩ := q7
    exact ⟨m', hm, back I7 w7⟩
   | true =>
    rw [if_pos rfl] at q7 ⊢
    refine thn (he cl HH.objs.size s2 H2 fp _ s7 σ6 H7 _ I7 q7) fun v s8 ⟨y, H8, I8, r8, q8⟩ => ?_
    obtain ⟨xs, hx, hz, m', hm, w8⟩ := q8
    refine thn (zaD (X := zbY X N scope cl HH.objs.size s2 H2 fp) _ s8 σ6 H8 (.ref s2.heap.objs.size) [y] (.ref s2.heap.objs.size) [v] (fun _ H9 => H9 = upd H8 s2.heap.objs.size (.lst (xs ++ [y]))) I8 rfl (.cons r8 .nil) ⟨_, xs, y, rfl, rfl, hx, hz, rfl⟩) fun _ s9 ⟨_, H9, I9, _, e9⟩ => ?_
    subst e9
    exact ⟨m', hm, back I9 w8⟩
 refine codeAny_compStart_list (loop _ rfl) ?_
 exact T.self _ 0 _ _ _ st3 (loop _ rfl)
theorem zdh {N : List Str} {own : Nat} {cap : List Nat} {scope : Scope} {tg elt iter : Expr} {ifs : List Expr} {pos : Pos} {wi : TI} {g : TG} {ts : TT} {te : TE} (hcalm : X.calm = true) (hi : PI X tg iter wi) (c : ziV X scope N own cap)
  (hg : ∀ cl C s₂ H₂ fp, PG (zbY X N scope cl C s₂ H₂ fp) tg g) (hts : ∀ cl C s₂ H₂ fp, PTs (zbY X N scope cl C s₂ H₂ fp) ifs ts) (he : ∀ cl C s₂ H₂ fp, PE (zbY X N scope cl C s₂ H₂ fp) elt te)
  (hs : ∀ x, foldedSetIterable iter X.env x = pure x := by intro _; rfl) : PE X (.ListComp elt [⟨tg, iter, ifs, 0⟩] scope pos) (tComp own cap wi g ts te) := by
 intro pins s σ H Q I h
 obtain ⟨cl, hcl⟩ := zfn (scope := scope) (env := X.env) fun x hx => I.ok.has x (by
  have := List.all_eq_true.mp c.frees _ hx
  simpa using this)
 rw [eval_ListComp]
 refine wpAny_comprehension_free (use := none) rfl hs hcl.eq c.kind (fun x hx hl => by
  have := List.all_eq_true.mp c.locs x hx
  rw [hl] at this
  simpa using this) (thn (hi pins s σ H _ I h) fun v s1 h1 => thn h1 fun itv s2 h2 => ?_)
 obtain ⟨it, fp, tn, J, H2, e, I2, T, st2, f2, rd⟩ := h2
 subst e
 refine zha (RR := fun acc C => compPost (model X.prog X.w) X.A X.xe none (EP X pins σ Q) acc C) hcalm c hcl hg hts he I2 T st2 f2 rd ?_
 intro D C s' H' I' hm fC q
 obtain ⟨m, hm⟩ := hm
 obtain ⟨f0, f1, f2, f3, f4, f5⟩ := fC
 exact ⟨m, hm, fun h' hsb => ⟨.ref D, H', I'.turned (t' := s'.toks) (fun b o hb e => (hsb.2 b hb).trans e) f0 f1 f3 f4 f5, rfl, q⟩⟩
theorem zd1 {i : Nat} {x : Str} {N : List Str} {own : Nat} {cap : List Nat} {scope : Scope} {tg elt iter : Expr} {ifs : List Expr} {pos pos' spos : Pos} {wi : TI} {g : TG} {ts : TT} {te : TE} (hN : X.N.Nodup) (hxi : X.N[i]? = some x) (hx : X.env.scope.names.lookup x = some .local) (hcalm : X.calm = true) (hi : PI X tg iter wi) (c : ziV X scope N own cap)
  (hg : ∀ cl C s₂ H₂ fp, PG (zbY X N scope cl C s₂ H₂ fp) tg g) (hts : ∀ cl C s₂ H₂ fp, PTs (zbY X N scope cl C s₂ H₂ fp) ifs ts) (he : ∀ cl C s₂ H₂ fp, PE (zbY X N scope cl C s₂ H₂ fp) elt te)
  (hsw : swapsWith (.ListComp elt [⟨tg, iter, ifs, 0⟩] scope pos) (some (.Name x pos')) spos.line X.env = pure true := by rfl)
  (hs : ∀ x, foldedSetIterable iter X.env x = pure x := by intro _; rfl) : PS X (.Assign [.Name x pos'] (.ListComp elt [⟨tg, iter, ifs, 0⟩] scope pos) spos) (tAsg (tComp own cap wi g ts te) (zhN i)) := by
 intro pins s σ H D I h
 obtain ⟨cl, hcl⟩ := zfn (scope := scope) (env := X.env) fun x hx => I.ok.has x (by
  have := List.all_eq_true.mp c.frees _ hx
  simpa using this)
 rw [exec_Assign_Name_used _ _ _ _ hsw]
 refine wpAny_bind (wpAny_standAt (wpAny_bind ?_))
 show wpAny _ X.A (do let _ ← comprehension (.ListComp elt [⟨tg, iter, ifs, 0⟩] scope pos) scope X.env _ (newList []) false (eval iter X.env) (some (assign (.Name x pos') X.env))) _ _ s
 refine wpAny_bind (wpAny_mono (wpAny_comprehension_free (use := some (assign (.Name x pos') X.env)) (Q := fun _ s' => SP X pins D .next s') rfl hs hcl.eq c.kind (fun x hx hl => by
  have := List.all_eq_true.mp c.locs x hx
  rw [hl] at this
  simpa using this) (thn (hi pins s σ H _ I h) fun v s1 h1 => thn h1 fun itv s2 h2 => ?_)) (fun _ s' hq => wpAny_pure (wpAny_pure hq)) fun _ _ e => e)
 obtain ⟨it, fp, tn, J, H2, e, I2, T, st2, f2, rd⟩ := h2
 subst e
 refine zha (RR := fun acc C => compPost (model X.prog X.w) X.A X.xe (some (assign (.Name x pos') X.env)) (fun _ s' => SP X pins D .next s') acc C) (Q := fun x H1 => zhN i x σ H1 D.nx) hcalm c hcl hg hts he I2 T st2 f2 rd ?_
 intro Dd C s' H' I' hm fC q
 obtain ⟨m, hm⟩ := hm
 have hne : ∀ a, (a = X.env.locals ∨ X.env.cells.lookup x = some a) → a ≠ C := fun a z => by
  obtain ⟨f0, f1, f2, f3, f4, f5⟩ := fC
  rcases z with z | z
  ·rw [z]; exact Ne.symm f1
  ·exact f4 x a z
 show wpAny _ X.A (assign (.Name x pos') X.env (.ref Dd)) _ _ _
 refine wpAny_assign_Name (ze9 I' hN hxi (.inl hx) (v := .ref Dd) rfl (fun s'' I'' hch => ?_) (.inr hx))
 obtain ⟨a, hsb, ha⟩ := hch
 refine ⟨m, hm.sameBut hsb (Ne.symm (hne a ha)), fun h' hs' => ?_⟩
 obtain ⟨f0, f1, f2, f3, f4, f5⟩ := fC
 exact ⟨_, H', I''.turned (t' := s''.toks) (fun b o hb e => (hs'.2 b hb).trans e) f0 f1 f3 f4 f5, q⟩
end
end L2
namespace L2
open PySem PySem.Spec PyProof.Rows PySem.SeqAt
theorem Paired.right {α β : Type} {F : α → β → Prop} : ∀ {l : List α} {m : List β} {b : β}, Paired F l m → b ∈ m → ∃ a, a ∈ l ∧ F a b
 | _, _, _, .nil, h => nomatch h
 | _, _, _, .cons r t, h => by
  rcases List.mem_cons.mp h with z | z
  ·subst z
   exact ⟨_, List.mem_cons_self, r⟩
  ·obtain ⟨a, h1, h2⟩ := Paired.right t z
   exact ⟨a, List.mem_cons_of_mem _ h1, h2⟩
class Srt (α : Type) [Rep α] where
 blt : α → α → Bool
 irrefl : ∀ a, blt a a = false
 trans : ∀ a b c, blt a b = true → blt b c = true → blt a c = true
 negTrans : ∀ a b c, blt a c = true → blt a b = true ∨ blt b c = true
 total : ∀ a b, blt a b = false → blt b a = false → a = b
 kd : SortKind
 one : α
 lt : ∀ {X : Cx} {pins : List (Addr × Obj)} {σ : St} {H : Hp} {s : Shared} {A : Around} {a b : α} {x y : V} {u v : Value} {Q : Bool → Shared → Prop} {E : Value → Shared → Prop}, Inv X pins σ H s → Rep.has X.K H a x → Rep.has X.K H b y → RelV x u → RelV y v → Q (blt a b) s → wpAny (model X.prog X.w) A (keyLt' kd u v) Q E s
 kind : ∀ {X : Cx} {pins : List (Addr × Obj)} {σ : St} {H : Hp} {s : Shared} {A : Around} {as : List α} {xs : List V} {us : List Value} {Q : SortKind → Shared → Prop} {E : Value → Shared → Prop}, Inv X pins σ H s → zaj X.K H as xs → Vals xs us → 2 ≤ us.length → Q kd s → wpAny (model X.prog X.w) A (keyKind' us.toArray) Q E s
section
variable {α : Type} [Rep α] [Srt α]
noncomputable def srtKind (α : Type) [Rep α] [Srt α] (K : PySem.W.Frag) (H : Hp) : PyProof.Rows.KeyKind where
 α := α
 blt := Srt.blt
 irrefl := Srt.irrefl
 trans := Srt.trans
 negTrans := Srt.negTrans
 total := Srt.total
 keyOf := fun u => open Classical in if h : ∃ a : α, ∃ x, RelV x u ∧ Rep.has K H a x then some (Classical.choose h) else none
 dflt := Srt.one
theorem keyOf_is {X : Cx} {pins : List (Addr × Obj)} {σ : St} {H : Hp} {s : Shared} {a : α} {x : V} {u : Value} (I : Inv X pins σ H s) (r : RelV x u) (h : Rep.has X.K H a x) : (srtKind α X.K H).keyOf u = some a := by
 have e : ∃ a : α, ∃ x, RelV x u ∧ Rep.has X.K H a x := ⟨a, x, r, h⟩
 unfold srtKind
 dsimp only
 rw [dif_pos e]
 obtain ⟨y, ry, hy⟩ := Classical.choose_spec e
 have z := ry.inj r
 subst z
 exact congrArg some (Rep.inj I hy h)
theorem zfS {K : PySem.W.Frag} {H : Hp} {a : α} {u : Value} (h : (srtKind α K H).keyOf u = some a) : ∃ x, RelV x u ∧ Rep.has K H a x := by
 unfold srtKind at h
 dsimp only at h
 split at h
 ·rename_i e
  cases h
  exact Classical.choose_spec e
 ·cases h
def zdt (as : List α) : List α := as.mergeSort fun a b => !Srt.blt b a
theorem zct (as : List α) : (zdt as).Perm as := List.mergeSort_perm _ _
theorem zei {as : List α} {a : α} : a ∈ zdt as ↔ a ∈ as := (zct as).mem_iff
theorem zcV (as : List α) : (zdt as).length = as.length := (zct as).length_eq
theorem blt_asymm {a b : α} (h : Srt.blt a b = true) : Srt.blt b a = false := by
 cases e : Srt.blt b a with
 | false => rfl
 | true =>
  have := Srt.trans _ _ _ h e
  rw [Srt.irrefl] at this
  cases this
theorem zih (as : List α) : (zdt as).Pairwise fun a b => Srt.blt b a = false := by
 have h := List.pairwise_mergeSort (le := fun a b : α => !Srt.blt b a) (fun a b c h1 h2 => by
  simp only [Bool.not_eq_true'] at h1 h2 ⊢
  cases e : Srt.blt c a with
  | false => rfl
  | true =>
   rcases Srt.negTrans c b a e with z | z
   ·rw [h2] at z; cases z
   ·rw [h1] at z; cases z) (fun a b => by
  cases e : Srt.blt b a with
  | false => rfl
  | true => rw [blt_asymm e]; rfl) as
 exact h.imp fun {a b} z => by simpa using z
theorem sortD_is {as bs : List α} (hp : bs.Perm as) (hs : bs.Pairwise fun a b => Srt.blt b a = false) : bs = zdt as :=
 List.Perm.eq_of_pairwise (fun a b _ _ h1 h2 => Srt.total a b h2 h1) hs (zih as) (hp.trans (zct as).symm)
theorem zeD {as : List α} (hn : as.Nodup) : (zdt as).Pairwise fun a b => Srt.blt a b = true := by
 have h1 := zih as
 have h2 : (zdt as).Nodup := (zct as).nodup_iff.mpr hn
 refine (h1.and h2).imp fun {a b} z => ?_
 cases e : Srt.blt a b with
 | true => rfl
 | false => exact absurd (Srt.total a b e z.1) z.2
theorem zg0 {K : PySem.W.Frag} {H : Hp} : ∀ {out : List Value}, (∀ v ∈ out, ∃ a : α, ∃ x, RelV x v ∧ Rep.has K H a x ∧ (srtKind α K H).keyOf v = some a) →
  ∃ (ws : List V) (bs : List α), Vals ws out ∧ zaj K H bs ws ∧ bs = out.map (Tim.keyV (srtKind α K H))
 | [], _ => ⟨[], [], .nil, .nil, rfl⟩
 | v :: out, h => by
  obtain ⟨ws, bs, h1, h2, h3⟩ := zg0 (out := out) fun u hu => h u (List.mem_cons_of_mem _ hu)
  obtain ⟨a, x, r, e, k⟩ := h v List.mem_cons_self
  refine ⟨x :: ws, a :: bs, .cons r h1, .cons e h2, ?_⟩
  rw [List.map_cons, ← h3]
  have z : Tim.keyV (srtKind α K H) v = a := by
   unfold Tim.keyV
   rw [k]
   rfl
  rw [z]
  rfl
theorem keys_of {X : Cx} {pins : List (Addr × Obj)} {σ : St} {H : Hp} {s : Shared} (I : Inv X pins σ H s) : ∀ {as : List α} {xs : List V} {us : List Value}, zaj X.K H as xs → Vals xs us → us.map (Tim.keyV (srtKind α X.K H)) = as ∧ ∀ v ∈ us, ∃ a : α, ∃ x, RelV x v ∧ Rep.has X.K H a x ∧ (srtKind α X.K H).keyOf v = some a
 | _, _, _, .nil, .nil => ⟨rfl, fun _ z => nomatch z⟩
 | _, _, _, .cons e t, .cons r q => by
  obtain ⟨h1, h2⟩ := keys_of I t q
  have k := keyOf_is I r e
  refine ⟨?_, fun v hv => ?_⟩
  ·rw [List.map_cons, h1]
   unfold Tim.keyV
   rw [k]
   rfl
  ·rcases List.mem_cons.mp hv with z | z
   ·subst z
    exact ⟨_, _, r, e, k⟩
   ·exact h2 v z
end
def rSortD (α : Type) [Rep α] [Srt α] (K : PySem.W.Frag) : List V → Hp → VK → Prop := fun xs H Q => ∃ (p : Addr) (vs : List V) (as : List α), xs = [.ref p] ∧ SqL K H p vs ∧ zaj K H as vs ∧
 ∀ l ws, H l = none → zaj K H (zdt as) ws → Q (.ref l) (upd H l (.lst ws))
section
variable {X : Cx}
theorem zdT (α : Type) [Rep α] [Srt α] : zey X (.builtin "sorted") (rSortD α X.K) := by
 intro pins s σ H xs us Q I r h
 obtain ⟨p, vs, as, rfl, hq, ha, q⟩ := h
 obtain ⟨u, rfl, rx⟩ := zfz r
 cases rx
 obtain ⟨its, rv, pl, hz⟩ := I.list hq
 have hlen := rv.length
 obtain ⟨km, kk⟩ := keys_of I ha rv
 refine Tim.sorted_G (κ := srtKind α X.K H) (kd := Srt.kd α) pl.isList (by omega) (fun v hv => ?_) (fun h' k E x y a b Q hx hy q => ?_) (fun h' E Q k h2 q => Srt.kind (Inv.kept (t' := s.toks) I k) ha rv h2 q) fun out h' c p1 p2 k hc => ?_
 ·obtain ⟨a, _, _, _, e⟩ := kk v hv
  exact ⟨a, e⟩
 ·obtain ⟨x1, r1, e1⟩ := zfS hx
  obtain ⟨y1, r2, e2⟩ := zfS hy
  exact Srt.lt (Inv.kept (t' := s.toks) I k) e1 e2 r1 r2 q
 ·obtain ⟨ws, bs, w1, w2, w3⟩ := zg0 (α := α) (K := X.K) (H := H) (out := out) fun v hv => kk v (p1.mem_iff.mp hv)
  have eb : bs = zdt as := by
   refine sortD_is ?_ ?_
   ·rw [w3, ← km]
    exact p1.map _
   ·rw [w3]
    exact List.pairwise_map.mpr p2
  rw [eb] at w2
  have hw : ws.length ≤ sizeLine := by
   have := w1.length
   have := p1.length_eq
   omega
  exact ⟨.ref (s.heap.objs.size + 1), _, I.laid (a := s.heap.objs.size + 1) (o := .lst ws) (t' := s.toks) k (Nat.le_succ _) ⟨hw, out, c, w1, hc⟩, rfl, q _ ws (I.hok.fresh (Nat.le_succ _)) w2⟩
end
instance : Srt Int where
 blt := fun a b => decide (a < b)
 irrefl := fun a => by simp
 trans := fun a b c h1 h2 => by
  simp only [decide_eq_true_eq] at *
  omega
 negTrans := fun a b c h => by
  simp only [decide_eq_true_eq] at *
  omega
 total := fun a b h1 h2 => by
  simp only [decide_eq_false_iff_not] at *
  omega
 kd := oneType'
 one := 0
 lt := fun {X pins σ H s A a b x y u v Q E} _ h1 h2 r1 r2 q => by
  have h1 : x = .int a := h1
  have h2 : y = .int b := h2
  subst h1 h2
  obtain ⟨t, rfl⟩ := r1
  obtain ⟨t', rfl⟩ := r2
  exact PySem.W.kat_lt_int q
 kind := fun {X pins σ H s A as xs us Q E} _ h r hl q => by
  have e := zaj.toInts h
  subst e
  have hi : IntsAre us as := by
   clear q hl
   induction as generalizing us with
   | nil => cases r; exact .nil
   | cons a as ih =>
    cases r with
    | cons r1 r2 =>
     obtain ⟨t, rfl⟩ := r1
     exact .cons a t (ih (by first | exact zaj.ints | assumption) r2)
  match us, hl, hi with
  | v₁ :: v₂ :: rest, _, hi =>
   rw [keyKind_ints hi]
   exact wpAny_pure q
def pLt (a b : Int × Int) : Bool := decide (a.1 < b.1) || (decide (a.1 = b.1) && decide (a.2 < b.2))
theorem zdz {a b : Int × Int} : pLt a b = true ↔ a.1 < b.1 ∨ (a.1 = b.1 ∧ a.2 < b.2) := by
 unfold pLt
 simp
theorem zhv {a b : Int × Int} : pLt a b = false ↔ ¬ (a.1 < b.1 ∨ (a.1 = b.1 ∧ a.2 < b.2)) := by
 rw [← zdz]
 simp
theorem zgj {X : Cx} {pins : List (Addr × Obj)} {σ : St} {H : Hp} {s : Shared} {a : Int × Int} {x : V} {u : Value} (I : Inv X pins σ H s) (h : Rep.has X.K H a x) (r : RelV x u) :
  ∃ (p : Addr) (o : Obj) (n : Nat) (t t' : Tok), u = .ref p ∧ s.heap.get? p = some o ∧ o.cls = .type "tuple" ∧ o.data = .seq #[.int a.1 t, .int a.2 t'] n := by
 obtain ⟨p, x1, x2, rfl, q, e1, e2⟩ := (show hasP X.K H a x from h)
 have e1 : x1 = .int a.1 := e1
 have e2 : x2 = .int a.2 := e2
 subst e1 e2
 cases r
 obtain ⟨us, ru, pu, _⟩ := I.tuple (SqT.of q)
 obtain ⟨u1, u2, rfl, ⟨t, rfl⟩, ⟨t', rfl⟩⟩ := zhq ru
 obtain ⟨o, ho, hc, n, hd⟩ := pu
 exact ⟨p, o, n, t, t', rfl, ho, hc, hd⟩
theorem one_lt {prog : Program} {w : World} {A : Around} {E : Value → Shared → Prop} {s : Shared} {x y : Int} {t u : Tok} {Q : Bool → Shared → Prop} (b : Bool) (h : Q (decide (x < y)) s) : wpAny (model prog w) A (oneLt' b (.int x t) (.int y u)) Q E s := by
 cases b with
 | true =>
  rw [← keyLt'_oneType]
  exact PySem.W.kat_lt_int h
 | false => exact PySem.W.kat_one _ _ (lt_int h)
instance : Srt (Int × Int) where
 blt := pLt
 irrefl := fun a => by rw [zhv]; omega
 trans := fun a b c h1 h2 => by
  rw [zdz] at *
  omega
 negTrans := fun a b c h => by
  rw [zdz] at *
  rw [zdz]
  omega
 total := fun a b h1 h2 => by
  rw [zhv] at *
  obtain ⟨a1, a2⟩ := a
  obtain ⟨b1, b2⟩ := b
  have : a1 = b1 ∧ a2 = b2 := by dsimp only at *; omega
  rw [this.1, this.2]
 kd := tuples' true
 one := (0, 0)
 lt := fun {X pins σ H s A a b x y u v Q E} I h1 h2 r1 r2 q => by
  obtain ⟨p, o, n, t1, t2, rfl, ho, hc, hd⟩ := zgj I h1 r1
  obtain ⟨p', o', n', t3, t4, rfl, ho', hc', hd'⟩ := zgj I h2 r2
  refine PySem.W.kat_lt ho hd ho' hd' ?_
  show PySem.W.KatLex X.prog X.w A true _ Q [(.int a.1 t1, .int b.1 t3), (.int a.2 t2, .int b.2 t4)] 0 s
  refine PySem.W.kat_cons (EqAt.int_int a.1 t1 b.1 t3 _ _ _ _ (PySem.W.kat_go (fun e => PySem.W.kat_yes ?_) (fun e => PySem.W.kat_no ?_)))
  ·have e1 : a.1 = b.1 := eq_of_beq e
   refine PySem.W.kat_cons (EqAt.int_int a.2 t2 b.2 t4 _ _ _ _ (PySem.W.kat_go (fun e => PySem.W.kat_yes (PySem.W.kat_nil ?_)) (fun e => PySem.W.kat_no (one_lt _ ?_))))
   ·have e2 : a.2 = b.2 := eq_of_beq e
    have z : pLt a b = false := by rw [zhv]; omega
    rw [z] at q
    exact q
   ·have z : pLt a b = decide (a.2 < b.2) := by
     unfold pLt
     rw [decide_eq_false (by omega : ¬ a.1 < b.1), decide_eq_true e1]
     rfl
    rw [z] at q
    exact q
  ·have e1 : ¬ a.1 = b.1 := fun z => by rw [z] at e; simp at e
   refine one_lt _ ?_
   have z : pLt a b = decide (a.1 < b.1) := by
    unfold pLt
    rw [decide_eq_false e1]
    simp
   rw [z] at q
   exact q
 kind := fun {X pins σ H s A as xs us Q E} I h r hl q => by
  have go : ∀ {as : List (Int × Int)} {xs : List V} {us : List Value}, zaj X.K H as xs → Vals xs us → ∃ fs, PySem.W.KatTups s.heap us fs ∧ fs.length = us.length ∧ ∀ v ∈ fs, ∃ i t, v = Value.int i t := by
   intro as
   induction as with
   | nil =>
    intro xs us h r
    cases h
    cases r
    exact ⟨[], .nil, rfl, fun _ z => nomatch z⟩
   | cons a as ih =>
    intro xs us h r
    cases h with
    | cons h1 h2 =>
     cases r with
     | cons r1 r2 =>
      obtain ⟨fs, f1, f2, f3⟩ := ih h2 r2
      obtain ⟨p, o, n, t, t', rfl, ho, hc, hd⟩ := zgj I h1 r1
      refine ⟨.int a.1 t :: fs, PySem.W.KatTups.cons ho hc hd rfl f1, by rw [List.length_cons, List.length_cons, f2], fun v hv => ?_⟩
      rcases List.mem_cons.mp hv with z | z
      ·exact ⟨_, _, z⟩
      ·exact f3 v z
  obtain ⟨fs, f1, f2, f3⟩ := go h r
  refine PySem.W.kat_kind (T := .type "int") f1 (by omega) (fun v hv => ?_) (by decide) ?_
  ·obtain ⟨i, t, rfl⟩ := f3 v hv
   exact PySem.W.Looks.of_pure rfl
  ·exact q
def rListD (K : PySem.W.Frag) : List V → Hp → VK → Prop := fun xs H Q => ∃ (p : Addr) (kvs : List (List Key × V)), xs = [.ref p] ∧ Rd H p (.dT kvs) ∧
 ∀ l bs, H l = none → Paired (fun (kv : List Key × V) (b : Addr) => H b = some (.tup (kv.1.map kV))) kvs bs → Q (.ref l) (upd H l (.lst (bs.map V.ref)))
section
variable {X : Cx}
end
end L2
namespace L2
open PySem PySem.Spec PyProof.Rows
section
variable {X : Cx}
theorem zim {x : Str} {i : Int} {pos : Pos} (hg : Gl X x) (hm : ∃ t, X.mg x = some (.int i t)) (hd : (x == ("__debug__" : Str)) = false := by decide) : PE X (.Name x pos) (tC (.int i)) := by
 obtain ⟨t, e⟩ := hm
 exact pe_glob hg e ⟨t, rfl⟩ hd
end
theorem zcS {K : PySem.W.Frag} {a D : Addr} {xs : List V} {g : TG} {ts : TT} {te : TE} {σ : St} {H : Hp} {Q : Hp → Prop} (Pv : Nat → St → Hp → Prop) (h0 : Pv 0 σ H) (hl : ∀ i σ H, i ≤ xs.length → Pv i σ H → SqL K H a xs)
  (hs : ∀ i m x σ H, xs[i]? = some x → i + m = xs.length → Pv i σ H → g x σ H fun σ2 H2 => ts σ2 H2 fun b H3 => if b = true then te σ2 H3 fun y H4 => ∃ zs, H4 D = some (.lst zs) ∧ zs.length < sizeLine ∧ ∃ m', m' < m ∧ (i + 1 + m' = xs.length ∧ Pv (i + 1) σ2 (upd H4 D (.lst (zs ++ [y])))) else ∃ m', m' < m ∧ (i + 1 + m' = xs.length ∧ Pv (i + 1) σ2 H3))
  (hd : ∀ σ H, Pv xs.length σ H → Q H) :
  ∃ W : Nat → Nat → St → Hp → Prop, (∃ m, W 0 m σ H) ∧ ∀ i m σ H, W i m σ H → ((Itl K a).stop i H ∧ Q H) ∨ ((Itl K a).go i H ∧ ∀ x H', (Itl K a).yld i H x H' → g x σ H' fun σ2 H2 => ts σ2 H2 fun b H3 => if b = true then te σ2 H3 fun y H4 => ∃ xs, H4 D = some (.lst xs) ∧ xs.length < sizeLine ∧ ∃ m', m' < m ∧ W (i + 1) m' σ2 (upd H4 D (.lst (xs ++ [y]))) else ∃ m', m' < m ∧ W (i + 1) m' σ2 H3) := by
 refine ⟨fun i m σ H => i + m = xs.length ∧ Pv i σ H, ⟨xs.length, by omega, h0⟩, fun i m σ H ⟨e, pv⟩ => ?_⟩
 have hS := hl i σ H (by omega) pv
 by_cases hi : i < xs.length
 ·refine .inr ⟨⟨xs, xs[i], hS, List.getElem?_eq_getElem hi⟩, fun x H' y => ?_⟩
  obtain ⟨e1, y⟩ := y
  subst e1
  exact hs i m x σ _ (y xs hS) e pv
 ·have : i = xs.length := by omega
  subst this
  exact .inl ⟨⟨xs, hS, Nat.le_refl _⟩, hd σ H pv⟩
theorem zcG {lo : Int} {n : Nat} {D : Addr} {g : TG} {ts : TT} {te : TE} {σ : St} {H : Hp} {Q : Hp → Prop} (Pv : Nat → St → Hp → Prop) (h0 : Pv 0 σ H)
  (hs : ∀ i m σ H, i + m = n → i < n → Pv i σ H → g (.int (lo + i)) σ H fun σ2 H2 => ts σ2 H2 fun b H3 => if b = true then te σ2 H3 fun y H4 => ∃ zs, H4 D = some (.lst zs) ∧ zs.length < sizeLine ∧ ∃ m', m' < m ∧ (i + 1 + m' = n ∧ Pv (i + 1) σ2 (upd H4 D (.lst (zs ++ [y])))) else ∃ m', m' < m ∧ (i + 1 + m' = n ∧ Pv (i + 1) σ2 H3))
  (hd : ∀ σ H, Pv n σ H → Q H) :
  ∃ W : Nat → Nat → St → Hp → Prop, (∃ m, W 0 m σ H) ∧ ∀ i m σ H, W i m σ H → ((Itr lo n).stop i H ∧ Q H) ∨ ((Itr lo n).go i H ∧ ∀ x H', (Itr lo n).yld i H x H' → g x σ H' fun σ2 H2 => ts σ2 H2 fun b H3 => if b = true then te σ2 H3 fun y H4 => ∃ xs, H4 D = some (.lst xs) ∧ xs.length < sizeLine ∧ ∃ m', m' < m ∧ W (i + 1) m' σ2 (upd H4 D (.lst (xs ++ [y]))) else ∃ m', m' < m ∧ W (i + 1) m' σ2 H3) := by
 refine ⟨fun i m σ H => i + m = n ∧ Pv i σ H, ⟨n, by omega, h0⟩, fun i m σ H ⟨e, pv⟩ => ?_⟩
 by_cases hi : i < n
 ·refine .inr ⟨hi, fun x H' y => ?_⟩
  obtain ⟨e1, y⟩ := y
  subst e1 y
  exact hs i m σ _ e hi pv
 ·have : i = n := by omega
  subst this
  exact .inl ⟨Nat.le_refl _, hd σ H pv⟩
end L2
namespace L2
open PySem PySem.Spec PyProof.Rows
def metI (ns : List Int) : List Int := firstMet (fun i => ns.getD i 0) ns.length
theorem zeR : ∀ {ns : List Int} {us : List Value}, Vals (ns.map V.int) us → IntsAre us ns
 | [], _, .nil => .nil
 | n :: _, _, .cons ⟨t, e⟩ q => by
  subst e
  exact .cons n t (zeR q)
def rSetI (K : PySem.W.Frag) : List V → Hp → VK → Prop := fun xs H Q => ∃ (p : Addr) (ns : List Int), xs = [.ref p] ∧ SqL K H p (ns.map V.int) ∧ ns.length ≤ 1000 ∧
 ∀ l, H l = none → Q (.ref l) (upd H l (.set (fun k => (metI ns).any (· == k)) (metI ns).length))
section
variable {X : Cx}
end
end L2
namespace L2
open PySem PySem.Spec PyProof.Rows
section
variable {X : Cx}
end
theorem kit_tt : kitO "tuple" "tuple" = some true := by decide +kernel
end L2
namespace L2
theorem zdC {i : Nat} {x : V} {σ : St} {H : Hp} {A B : St → Hp → Prop} (h : A (σ.set i (some x)) H) : zhN i x σ H fun σ2 H2 => tYes σ2 H2 fun b H3 => if b = true then A σ2 H3 else B σ2 H3 := by
 show (if true = true then A (σ.set i (some x)) H else B (σ.set i (some x)) H)
 rw [if_pos rfl]
 exact h
end L2
namespace L2
open PySem PySem.Spec PyProof.Rows
theorem zfF : ∀ {bs : List Bool} {us : List Value}, Vals (bs.map V.bl) us → us = bs.map Value.bool
 | [], _, .nil => rfl
 | b :: _, _, .cons e q => by
  have e : _ = Value.bool b := e
  rw [e, zfF q]
  rfl
section
variable {X : Cx}
theorem call_allB (hc : X.calm = true) : zey X (.builtin "all") (fun xs H Q => ∃ (p : Addr) (bs : List Bool), xs = [.ref p] ∧ SqL X.K H p (bs.map V.bl) ∧ Q (.bl (bs.all id)) H) := by
 intro pins s σ H xs us Q I r h
 obtain ⟨p, bs, rfl, hq, q⟩ := h
 obtain ⟨u, rfl, rx⟩ := zfz r
 cases rx
 obtain ⟨its, rv, pl, _⟩ := I.list hq
 have e := zfF rv
 subst e
 have hl := pl.isList
 have hlt : p < s.heap.objs.size := by obtain ⟨_, e, _⟩ := hl; exact Heap.lt_size e
 refine call_all_walk (wpAny_pyIter_list hl ?_)
 refine ⟨s.heap.objs.size, [s.heap.objs.size, p], [s.heap.objs.size], (bs.map Value.bool).toArray.size, _, _, fun i => (bs[i]?).getD true, rfl, Walks.list (A := X.A.in1) (I.ok.hd hc) _ p (Nat.ne_of_lt hlt) _,
  ⟨⟨_, Heap.get?_push_size _ rfl, rfl, rfl⟩, hl.push _⟩, fun i v s' Q' E' hP hQ => ?_, fun h' tk hk => ?_⟩
 ·have hP : (bs.map Value.bool)[i]? = some v := by simpa using hP
  rw [List.getElem?_map] at hP
  cases e : bs[i]? with
  | none => rw [e] at hP; cases hP
  | some b =>
   rw [e] at hP
   cases hP
   simp only [e, Option.getD_some] at hQ
   exact wpAny_truthy_bool hQ
 ·have e : ((List.range (bs.map Value.bool).toArray.size).all fun i => (bs[i]?).getD true) = bs.all id := by
   rw [List.size_toArray, List.length_map]
   exact PyProof.Rows.LSm.range_all bs
  rw [e]
  have kk : ∀ b o, s.heap.get? b = some o → h'.get? b = some o := fun b o eb => hk b o (fun hm => by rw [List.mem_singleton.mp hm] at eb; exact Nat.lt_irrefl _ (Heap.lt_size eb)) (Heap.get?_push_of_some _ eb)
  have I' : Inv X pins σ H { s with heap := h', toks := tk } := I.kept (t' := tk) kk
  exact ⟨.bl _, H, I', rfl, q⟩
def tRev (K : PySem.W.Frag) (te : TE) (th : TO) : TE := fun σ H Q => te σ H fun x H1 => th σ H1 fun u H2 => ∃ a xs, x = .ref a ∧ u = some (-1) ∧ SqL K H2 a xs ∧ ∀ p, H2 p = none → Q (.ref p) (upd H2 p (.lst xs.reverse))
theorem Vals.rev : ∀ {xs : List V} {us : List Value}, Vals xs us → Vals xs.reverse us.reverse
 | _, _, .nil => .nil
 | _, _, .cons r t => by
  rw [List.reverse_cons, List.reverse_cons]
  exact Vals.append (Vals.rev t) (.cons r .nil)
end
end L2
namespace L2
open PySem PySem.Spec PyProof.Rows
section
variable {X : Cx} {K : PySem.W.Frag}
theorem zhc (h : X.K = K := by rfl) : zey X (.builtin "isinstance") (rIsi K) := by
 subst h
 exact zdU
theorem ziH (h : X.K = K := by rfl) : IxR X (rIxL K) := by
 subst h
 exact zaE
theorem zhL (h : X.K = K := by rfl) : IxR X (rIxT K) := by
 subst h
 exact zbm
end
end L2
namespace L2
open PySem PySem.Spec PyProof.Rows
section
variable {X : Cx}
def rInsert : V → List V → Hp → VK → Prop := fun x vs H Q => ∃ l xs i y, x = .ref l ∧ vs = [.int i, y] ∧ H l = some (.lst xs) ∧ 0 ≤ i ∧ i < 2 ^ 63 ∧ xs.length < sizeLine ∧ Q .non (upd H l (.lst (xs.take i.toNat ++ y :: xs.drop i.toNat)))
end
def MonoT (c : TT) : Prop := ∀ σ H Q Q', (∀ b H1, Q b H1 → Q' b H1) → c σ H Q → c σ H Q'
section
variable {X : Cx} {K : PySem.W.Frag}
theorem zen (h : X.K = K := by rfl) : OpR X (compareOp .NotIn) (rIn K true) := by
 subst h
 exact zdA
theorem pg_tupC {es : List Expr} {k : Nat} {t : TGs} {n : Nat} {pos : Pos} (hc : X.calm = true) (h : PGs X es t) (hK : X.K = K := by rfl)
  (hn : (assignEach es X.env).length = n := by rfl) (hst : (assignEach es X.env).findIdx? (·.1) = none := by rfl) : PG X (.Tuple es k pos) (gTup K n t) := by
 subst hK
 exact zfe hc h hn hst
end
theorem comp_zip {K : PySem.W.Frag} {a b D : Addr} {xs ys : List V} {g : TG} {ts : TT} {te : TE} {σ : St} {H : Hp} {Q : Hp → Prop} (hlen : xs.length = ys.length) (Pv : Nat → St → Hp → Prop) (h0 : Pv 0 σ H) (hl : ∀ i σ H, i ≤ xs.length → Pv i σ H → SqL K H a xs ∧ SqL K H b ys)
  (hs : ∀ i m x y σ H r, xs[i]? = some x → ys[i]? = some y → i + m = xs.length → Pv i σ H → H r = none → g (.ref r) σ (upd H r (.tup [x, y])) fun σ2 H2 => ts σ2 H2 fun b H3 => if b = true then te σ2 H3 fun y H4 => ∃ zs, H4 D = some (.lst zs) ∧ zs.length < sizeLine ∧ ∃ m', m' < m ∧ (i + 1 + m' = xs.length ∧ Pv (i + 1) σ2 (upd H4 D (.lst (zs ++ [y])))) else ∃ m', m' < m ∧ (i + 1 + m' = xs.length ∧ Pv (i + 1) σ2 H3))
  (hd : ∀ σ H, Pv xs.length σ H → Q H) :
  ∃ W : Nat → Nat → St → Hp → Prop, (∃ m, W 0 m σ H) ∧ ∀ i m σ H, W i m σ H → ((Itz K a b).stop i H ∧ Q H) ∨ ((Itz K a b).go i H ∧ ∀ x H', (Itz K a b).yld i H x H' → g x σ H' fun σ2 H2 => ts σ2 H2 fun b H3 => if b = true then te σ2 H3 fun y H4 => ∃ xs, H4 D = some (.lst xs) ∧ xs.length < sizeLine ∧ ∃ m', m' < m ∧ W (i + 1) m' σ2 (upd H4 D (.lst (xs ++ [y]))) else ∃ m', m' < m ∧ W (i + 1) m' σ2 H3) := by
 refine ⟨fun i m σ H => i + m = xs.length ∧ Pv i σ H, ⟨xs.length, by omega, h0⟩, fun i m σ H ⟨e, pv⟩ => ?_⟩
 obtain ⟨hS, hS'⟩ := hl i σ H (by omega) pv
 by_cases hi : i < xs.length
 ·refine .inr ⟨⟨xs, ys, xs[i], ys[i]'(by omega), hS, hS', List.getElem?_eq_getElem hi, List.getElem?_eq_getElem (by omega)⟩, fun x H' y => ?_⟩
  obtain ⟨p, z, z', rfl, hp, hz, hz', rfl⟩ := y
  exact hs i m z z' σ H p (hz xs hS) (hz' ys hS') e pv hp
 ·have : i = xs.length := by omega
  subst this
  exact .inl ⟨⟨xs, ys, hS, hS', .inl (Nat.le_refl _)⟩, hd σ H pv⟩
end L2
namespace L2
open PySem PySem.Spec PyProof.Rows
section
variable {X : Cx}
theorem call_minL (hc : X.calm = true) : zey X (.builtin "min") (fun xs H Q => ∃ (p : Addr) (ns : List Int), xs = [.ref p] ∧ SqL X.K H p (ns.map V.int) ∧ 0 < ns.length ∧ ∀ M, M ∈ ns → (∀ a, a ∈ ns → M ≤ a) → Q (.int M) H) := by
 intro pins s σ H xs us Q I r h
 obtain ⟨p, ns, rfl, hq, hne, q⟩ := h
 obtain ⟨u, rfl, rx⟩ := zfz r
 cases rx
 obtain ⟨its, rv, pl, _⟩ := I.list hq
 have hi := zeR rv
 obtain ⟨xs, hx⟩ := hi.allInts.items
 have hl' : s.heap.IsList p (intItems xs) := hx ▸ pl.isList
 have e1 : ns = xs.toList.map (·.1) := by
  rw [← nums_intItems, ← hx]
  exact (show numsOf its.toArray.toList = ns from hi.numsOf).symm
 have hsz : 0 < xs.size := by
  rw [e1, List.length_map, Array.length_toList] at hne
  exact hne
 refine min_intList (I.ok.hd hc) hl' hsz fun v h' tk hv hk => ?_
 obtain ⟨t, rfl⟩ := intItems_at hv
 obtain ⟨h1, h2⟩ := argBest_lt (numAt xs) (xs.size - 1)
 refine ⟨.int _, H, Inv.kept (t' := tk) I hk, ⟨t, rfl⟩, q _ ?_ fun a ha => ?_⟩
 ·rw [e1, numAt_eq]
  rw [List.getD_eq_getElem?_getD, List.getElem?_eq_getElem (by rw [List.length_map, Array.length_toList]; omega)]
  exact List.getElem_mem _
 ·rw [e1] at ha
  obtain ⟨j, hj, rfl⟩ := mem_getD ha
  rw [List.length_map, Array.length_toList] at hj
  rw [← numAt_eq]
  exact h2 j (by omega)
end
theorem zgA {K : PySem.W.Frag} {a D : Addr} {xs : List V} {g : TG} {ts : TT} {te : TE} {σ : St} {H : Hp} {Q : Hp → Prop} (Pv : Nat → St → Hp → Prop) (h0 : Pv 0 σ H) (hl : ∀ i σ H, i ≤ xs.length → Pv i σ H → SqT K H a xs)
  (hs : ∀ i m x σ H, xs[i]? = some x → i + m = xs.length → Pv i σ H → g x σ H fun σ2 H2 => ts σ2 H2 fun b H3 => if b = true then te σ2 H3 fun y H4 => ∃ zs, H4 D = some (.lst zs) ∧ zs.length < sizeLine ∧ ∃ m', m' < m ∧ (i + 1 + m' = xs.length ∧ Pv (i + 1) σ2 (upd H4 D (.lst (zs ++ [y])))) else ∃ m', m' < m ∧ (i + 1 + m' = xs.length ∧ Pv (i + 1) σ2 H3))
  (hd : ∀ σ H, Pv xs.length σ H → Q H) :
  ∃ W : Nat → Nat → St → Hp → Prop, (∃ m, W 0 m σ H) ∧ ∀ i m σ H, W i m σ H → ((Itt K a).stop i H ∧ Q H) ∨ ((Itt K a).go i H ∧ ∀ x H', (Itt K a).yld i H x H' → g x σ H' fun σ2 H2 => ts σ2 H2 fun b H3 => if b = true then te σ2 H3 fun y H4 => ∃ xs, H4 D = some (.lst xs) ∧ xs.length < sizeLine ∧ ∃ m', m' < m ∧ W (i + 1) m' σ2 (upd H4 D (.lst (xs ++ [y]))) else ∃ m', m' < m ∧ W (i + 1) m' σ2 H3) := by
 refine ⟨fun i m σ H => i + m = xs.length ∧ Pv i σ H, ⟨xs.length, by omega, h0⟩, fun i m σ H ⟨e, pv⟩ => ?_⟩
 have hS := hl i σ H (by omega) pv
 by_cases hi : i < xs.length
 ·refine .inr ⟨⟨xs, xs[i], hS, List.getElem?_eq_getElem hi⟩, fun x H' y => ?_⟩
  obtain ⟨e1, y⟩ := y
  subst e1
  exact hs i m x σ _ (y xs hS) e pv
 ·have : i = xs.length := by omega
  subst this
  exact .inl ⟨⟨xs, hS, Nat.le_refl _⟩, hd σ H pv⟩
end L2
namespace L2
open PySem PySem.Spec PyProof.Rows
def Itv (K : PySem.W.Frag) (a : Addr) (n : Nat) : It :=
 ⟨fun i H => i < n ∧ ∃ xs, SqL K H a xs ∧ xs.length = n, fun i H x H' => H' = H ∧ ∀ xs, SqL K H a xs → xs.length = n → xs.reverse[i]? = some x, fun i _ => i = n⟩
theorem turn_rev {P : Program} {w : World} {K : PySem.W.Frag} {tg : Expr} (a it : Addr) (n : Nat) : Turn P w K tg (Itv K a n) [it] it (fun i h => h.IsRevIter it a ((n : Int) - 1 - (i : Int))) where
 mem := by simp
 obj := fun i h st b hb => by
  have e : b = it := by simpa using hb
  subst e
  obtain ⟨o, e, c, d⟩ := st
  exact ⟨o, e, fun v z => by rw [d] at z; cases z⟩
 keep := fun i h h' st k => st.at fun o e => k it (by simp) o e
 item := by
  intro X hP hw hK hc i pins s σ H E I hf st hg
  subst hP hw hK
  obtain ⟨hi, xs, hq, hn⟩ := hg
  obtain ⟨its, rv, p, hz⟩ := I.list hq
  have hx : xs[n - 1 - i]? = some (xs[n - 1 - i]'(by omega)) := List.getElem?_eq_getElem (by omega)
  obtain ⟨u, hu, ru⟩ := rv.get hx
  obtain ⟨f0, f1, f2, f3, f4, f5⟩ := hf it (by simp)
  have e1 : (n : Int) - 1 - (i : Int) = ((n - 1 - i : Nat) : Int) := by omega
  rw [e1] at st
  refine wpAny_pyNext_rev_item st p.isList (x := u) (by simpa using hu) fun h' st' sb => ?_
  have e2 : ((n - 1 - i : Nat) : Int) - 1 = (n : Int) - 1 - ((i + 1 : Nat) : Int) := by omega
  rw [e2] at st'
  have I1 : Inv X pins σ H { s with heap := h' } := I.turned (t' := s.toks) (fun b o hb e => (sb.2 b hb).trans e) f0 f1 f3 f4 f5
  obtain ⟨o, e, c, d⟩ := id st'
  refine ⟨u, rfl, go_of (s := { s with heap := h' }) e c d (by decide) ⟨xs[n - 1 - i]'(by omega), H, I1, ru, ⟨rfl, fun ys hy hyn => ?_⟩, st', fun b hb => (hf b hb).1⟩⟩
  rw [I.list_inj hy hq, List.getElem?_reverse (by omega), show xs.length - 1 - i = n - 1 - i by omega]
  exact hx
 done := by
  intro X hP hw hK hc i pins s σ H E I hf st hg
  subst hP hw hK
  have hi : i = n := hg
  subst hi
  obtain ⟨f0, f1, f2, f3, f4, f5⟩ := hf it (by simp)
  have e1 : (i : Int) - 1 - (i : Int) = -1 := by omega
  rw [e1] at st
  exact wpAny_pyNext_rev_end (I.ok.hd hc) st fun h' eb => ⟨rfl, I.turned (t' := s.toks) (fun b o hb e => eb b o hb e) f0 f1 f3 f4 f5⟩
 self := fun _ _ _ _ _ st h => wpAny_pyIter_revIter st h
def iRev (K : PySem.W.Frag) (ta : TA) : TI := fun σ H R => ta σ H fun vs H1 => ∃ a xs, vs = [.ref a] ∧ SqL K H1 a xs ∧ R (Itv K a xs.length) H1
section
variable {X : Cx}
theorem zhu {tg : Expr} {a : Expr} {ta : TA} {p pos : Pos} (hg : Gl X "reversed") (hm : X.mg "reversed" = none) (ha : PA X [a] ta) (hs : starEach [a] X.env = [(false, eval a X.env)] := by rfl) : PI X tg (.Call (.Name "reversed" p) [a] [] pos) (iRev X.K ta) := by
 intro pins s σ H R I h
 refine Call_ (zeq I hg hm boot_reversed (PyProof.Rows.callWith_type1 (thn (ha pos pins s σ H _ I h) fun us s1 ⟨vs, H1, I1, r1, q1⟩ => ?_) hs rfl))
 obtain ⟨l, xs, e, hq, q⟩ := q1
 subst e
 cases r1 with
 | cons r rr =>
  cases rr
  cases r
  obtain ⟨its, rv, pl, hz⟩ := I1.list hq
  have hl := rv.length
  refine call_reversed_list pl.isList ?_
  have I2 : Inv X pins σ H1 { s1 with heap := s1.heap.push (revObj l ((its.toArray.size : Int) - 1)) } := I1.kept (t' := s1.toks) fun b o e => Heap.get?_push_of_some _ e
  have hr : (s1.heap.push (revObj l ((its.toArray.size : Int) - 1))).IsRevIter s1.heap.objs.size l (((xs.length : Nat) : Int) - 1 - ((0 : Nat) : Int)) := by
   refine ⟨_, Heap.get?_push_size _ rfl, rfl, ?_⟩
   have : (its.toArray.size : Int) - 1 = ((xs.length : Nat) : Int) - 1 - ((0 : Nat) : Int) := by
    rw [List.size_toArray, hl]
    omega
   rw [this]
   rfl
  refine wpAny_pyIter_revIter (s := { s1 with heap := s1.heap.push (revObj l ((its.toArray.size : Int) - 1)) }) hr ⟨_, [s1.heap.objs.size], _, _, H1, rfl, I2, turn_rev l s1.heap.objs.size xs.length, hr, fun b hb => ?_, q⟩
  have e : b = s1.heap.objs.size := by simpa using hb
  subst e
  exact I1.fpOk (Nat.le_refl _) (I1.hok.fresh (Nat.le_refl _))
end
theorem for_rev {K : PySem.W.Frag} {a : Addr} {xs : List V} {g : TG} {tb : TS} {D : Ends} {σ : St} {H : Hp} (Pv : Nat → St → Hp → Prop) (h0 : Pv 0 σ H) (hl : ∀ i σ H, i ≤ xs.length → Pv i σ H → SqL K H a xs)
  (hs : ∀ i x σ H, xs.reverse[i]? = some x → Pv i σ H → g x σ H fun σ2 H2 => tb { D with nx := Pv (i + 1), ct := Pv (i + 1), bk := D.nx } σ2 H2) (hd : ∀ σ H, Pv xs.length σ H → D.nx σ H) :
  ∃ W : Nat → Nat → St → Hp → Prop, (∃ m, W 0 m σ H) ∧ ∀ i m σ H, W i m σ H → ((Itv K a xs.length).stop i H ∧ D.nx σ H) ∨ ((Itv K a xs.length).go i H ∧ ∃ N : St → Hp → Prop, (∀ σ' H', N σ' H' → ∃ m', m' < m ∧ W (i + 1) m' σ' H') ∧ ∀ x H', (Itv K a xs.length).yld i H x H' → g x σ H' fun σ2 H2 => tb { D with nx := N, ct := N, bk := D.nx } σ2 H2) := by
 refine ⟨fun i m σ H => i + m = xs.length ∧ Pv i σ H, ⟨xs.length, by omega, h0⟩, fun i m σ H ⟨e, pv⟩ => ?_⟩
 have hS := hl i σ H (by omega) pv
 by_cases hi : i < xs.length
 ·refine .inr ⟨⟨hi, xs, hS, rfl⟩, Pv (i + 1), fun σ' H' q => ⟨m - 1, by omega, by omega, q⟩, fun x H' y => ?_⟩
  obtain ⟨e1, y⟩ := y
  subst e1
  exact hs i x σ _ (y xs hS rfl) pv
 ·have : i = xs.length := by omega
  subst this
  exact .inl ⟨rfl, hd σ H pv⟩
section
variable {prog : Program} {w : World} {A : Around} {E : Value → Shared → Prop} {s : Shared}
end
def tListRev (K : PySem.W.Frag) (ta : TA) : TE := fun σ H Q => ta σ H fun vs H1 => ∃ l xs, vs = [.ref l] ∧ SqL K H1 l xs ∧ ∀ p, H1 p = none → Q (.ref p) (upd H1 p (.lst xs.reverse))
section
variable {X : Cx}
def tListRange (ta : TA) : TE := fun σ H Q => ta σ H fun vs H1 => ∃ n : Nat, vs = [.int n] ∧ n ≤ 1000 ∧ ∀ p, H1 p = none → Q (.ref p) (upd H1 p (.lst ((List.range n).map fun i : Nat => V.int i)))
end
end L2
namespace L2
open PySem PySem.Spec PyProof.Rows
theorem zjQ {P : Program} {w : World} {k : Key} {u : Value} (h : (za4 P w).is k u = true) : RelV (kV k) u := by
 rw [zjd] at h
 rcases za5 h with ⟨i, t, rfl, rfl⟩ | ⟨x, t, rfl, rfl⟩
 ·exact ⟨t, rfl⟩
 ·exact ⟨t, rfl⟩
section
variable {X : Cx}
theorem zjl (hc : X.calm = true) : zey X (.type "list") (fun xs H Q => ∃ (p : Addr) (kvs : List (Key × V)), xs = [.ref p] ∧ H p = some (.dK kvs) ∧ ∀ l, H l = none → Q (.ref l) (upd H l (.lst (kvs.map fun kv => kV kv.1)))) := by
 intro pins s σ H xs us Q I r h
 obtain ⟨p, kvs, rfl, hq, q⟩ := h
 obtain ⟨u, rfl, rx⟩ := zfz r
 cases rx
 obtain ⟨hz, hne, vs, rel, o, es, ep, h1, h2, h3, h4, h5, h6⟩ := dk_of I.hok hq
 have hlen : kvs.length = vs.length := rel.length
 refine PySem.W.kdl_call (PySem.W.kdl_dict (knd := za4 X.prog X.w) (kvs := vs) (ep := ep) hne) (I.ok.hd hc) ⟨o, es, h1, h2, h3, h4, h5, h6⟩ (by omega) fun h' tk acc c k e hi => ?_
 have hv : Vals (kvs.map fun kv => kV kv.1) acc.toList := by
  obtain ⟨g1, g2⟩ := hi
  have key : ∀ (m : Nat) (kvs : List (Key × V)) (vs : List (Key × Value)) (us : List Value), KV kvs vs → us.length = vs.length → (∀ (i : Nat) (v : Value), us[i]? = some v → ∃ k x, vs[i]? = some (k, x) ∧ (za4 X.prog X.w).is k v = true) → Vals (kvs.map fun kv => kV kv.1) us := by
   intro m kvs
   induction kvs with
   | nil =>
    intro vs us r hl _
    cases r
    have : us = [] := List.eq_nil_of_length_eq_zero hl
    subst this
    exact .nil
   | cons kv kvs ih =>
    intro vs us r hl hh
    cases r with
    | cons a b =>
     cases us with
     | nil => cases hl
     | cons v us =>
      refine .cons ?_ (ih _ us b (Nat.succ.inj hl) fun i v e => ?_)
      ·obtain ⟨k, x, e1, e2⟩ := hh 0 v rfl
       cases e1
       have h9 := zjQ e2
       have a1 : kv.1 = k := a.1
       rw [← a1] at h9
       exact h9
      ·have := hh (i + 1) v (by simpa using e)
       simpa using this
  refine key 0 kvs vs acc.toList rel (by rw [Array.length_toList]; exact g1) fun i v e => ?_
  exact g2 i v (by rw [← Array.getElem?_toList]; exact e)
 refine ⟨.ref s.heap.objs.size, _, I.laid (a := s.heap.objs.size) (o := .lst (kvs.map fun kv => kV kv.1)) (t' := tk) k (Nat.le_refl _) ⟨?_, acc.toList, c, hv, by rw [Array.toArray_toList]; exact e⟩, rfl, q _ (I.hok.fresh (Nat.le_refl _))⟩
 rw [List.length_map]
 omega
end
def Itd (a : Addr) : It :=
 ⟨fun i H => ∃ kvs, H a = some (.dK kvs) ∧ i < kvs.length, fun i H x H' => H' = H ∧ ∀ kvs, H a = some (.dK kvs) → (kvs.map fun kv => kV kv.1)[i]? = some x, fun i H => ∃ kvs, H a = some (.dK kvs) ∧ i = kvs.length⟩
end L2
namespace L2
open PySem PySem.Spec PyProof.Rows
def iSeq (K : PySem.W.Frag) (tl : TE) : TI := fun σ H R => tl σ H fun x H1 => ∃ a, x = .ref a ∧ ((∃ xs, SqL K H1 a xs) ∧ R (Itl K a) H1 ∨ (∃ xs, SqT K H1 a xs) ∧ R (Itt K a) H1)
section
variable {X : Cx} {tg : Expr}
end
section
variable {prog : Program} {w : World} {A : Around} {E : Value → Shared → Prop} {s : Shared}
end
end L2
namespace Tim
open PySem PyProof.Rows
section
variable {prog : Program} {w : World} {A : Around} {E : Value → Shared → Prop} {s : Shared} {κ : KeyKind} {kd : SortKind}
end
end Tim
namespace L2
open PySem PySem.Spec PyProof.Rows
section
variable {X : Cx}
def rSortT (α : Type) [Rep α] [Srt α] (K : PySem.W.Frag) : List V → Hp → VK → Prop := fun xs H Q => ∃ (p : Addr) (vs : List V) (as : List α), xs = [.ref p] ∧ SqT K H p vs ∧ zaj K H as vs ∧
 ∀ l ws, H l = none → zaj K H (zdt as) ws → Q (.ref l) (upd H l (.lst ws))
end
section
variable {prog : Program} {w : World} {A : Around} {E : Value → Shared → Prop} {s : Shared}
abbrev nuSet (led : Bool) : Obj := { cls := .type "set", dict := none, data := .set #[] 0 (.fresh 0 0 led) }
end
section
variable {X : Cx}
def rSetT (K : PySem.W.Frag) : List V → Hp → VK → Prop := fun xs H Q => ∃ (p : Addr) (ns : List Int), xs = [.ref p] ∧ SqT K H p (ns.map V.int) ∧ ns.length ≤ 1000 ∧
 ∀ l, H l = none → Q (.ref l) (upd H l (.set (fun k => (metI ns).any (· == k)) (metI ns).length))
end
def Itf (a : Addr) (o : Obj) (kvs : List (Key × V)) : It :=
 ⟨fun i H => H a = some (.frz o (.dK kvs)) ∧ i < kvs.length, fun i H x H' => H' = H ∧ (kvs.map fun kv => kV kv.1)[i]? = some x, fun i H => H a = some (.frz o (.dK kvs)) ∧ i = kvs.length⟩
def iDict (tl : TE) : TI := fun σ H R => tl σ H fun x H1 => ∃ a kvs, x = .ref a ∧ ((H1 a = some (.dK kvs) ∧ ∀ o, R (Itf a o kvs) (upd H1 a (.frz o (.dK kvs)))) ∨ ∃ o, H1 a = some (.frz o (.dK kvs)) ∧ R (Itf a o kvs) H1)
section
variable {X : Cx} {tg : Expr}
end
end L2
namespace HT
open PySem PySem.Spec PyProof.Rows
section
variable {prog : Program} {w : World} {A : Around} {E : Value → Shared → Prop} {s : Shared}
end
end HT
namespace L2
open PySem PySem.Spec PyProof.Rows
section
variable {X : Cx}
def rSlX (K : PySem.W.Frag) : V → Option Int → Option Int → Hp → VK → Prop := fun x lo hi H Q => ∃ a xs, x = .ref a ∧ SqT K H a xs ∧
 ((HT.sIx xs.length 0 lo = 0 ∧ HT.sIx xs.length xs.length hi = xs.length) → Q (.ref a) H) ∧ (¬ (HT.sIx xs.length 0 lo = 0 ∧ HT.sIx xs.length xs.length hi = xs.length) → ∀ p, H p = none → Q (.ref p) (upd H p (.tup (cutV xs lo hi))))
def rCatX (K : PySem.W.Frag) : R2 := fun x y H Q => ∃ a b xs ys, x = .ref a ∧ y = .ref b ∧ SqT K H a xs ∧ SqT K H b ys ∧ ys ≠ [] ∧ xs.length + ys.length ≤ sizeLine ∧
 (xs = [] → Q (.ref b) H) ∧ (xs ≠ [] → ∀ p, H p = none → Q (.ref p) (upd H p (.tup (xs ++ ys))))
end
end L2
namespace L2
open PySem PySem.Spec PyProof.Rows PySem.SeqAt
def hasO (o : Option Int) (v : V) : Prop := match o with
 | none => v = .non
 | some i => v = .int i
instance : Rep (Option Int) where
 dec := inferInstance
 depth := 0
 has := fun _ _ o v => hasO o v
 mono := fun _ h => h
 inj := fun {_ _ _ _ _ a b v} _ h1 h2 => by
  cases a <;> cases b
  ·rfl
  ·have h1 : v = .non := h1
   have h2 : v = .int _ := h2
   rw [h1] at h2
   cases h2
  ·have h1 : v = .int _ := h1
   have h2 : v = .non := h2
   rw [h1] at h2
   cases h2
  ·have h1 : v = .int _ := h1
   have h2 : v = .int _ := h2
   rw [V.int.inj (h1.symm.trans h2)]
 rc := fun {_ _ _ _ _ _ a b x y u v} _ _ h1 h2 r1 r2 => by
  cases a with
  | none =>
   have h1 : x = .non := h1
   subst h1
   obtain rfl : u = .none := r1
   cases b with
   | none =>
    have h2 : y = .non := h2
    subst h2
    obtain rfl : v = .none := r2
    exact RcAt.none_none
   | some j =>
    have h2 : y = .int j := h2
    subst h2
    obtain ⟨t, rfl⟩ := r2
    exact RcAt.none_int _ _
  | some i =>
   have h1 : x = .int i := h1
   subst h1
   obtain ⟨t, rfl⟩ := r1
   cases b with
   | none =>
    have h2 : y = .non := h2
    subst h2
    obtain rfl : v = .none := r2
    exact RcAt.int_none _ _
   | some j =>
    have h2 : y = .int j := h2
    subst h2
    obtain ⟨t', rfl⟩ := r2
    have e : decide (some i = some j) = (i == j) := by
     by_cases z : i = j
     ·subst z; simp
     ·rw [decide_eq_false (fun q => z (Option.some.inj q)), beq_eq_false_iff_ne.mpr z]
    have := RcAt.int_int (A := ‹Around›) (s := ‹Shared›) i t j t'
    rw [← e] at this
    exact this
 rn := fun {_ _ _ _ _ _ a b x y u v} _ _ h1 h2 r1 r2 => by
  cases a with
  | none =>
   have h1 : x = .non := h1
   subst h1
   obtain rfl : u = .none := r1
   cases b with
   | none =>
    have h2 : y = .non := h2
    subst h2
    obtain rfl : v = .none := r2
    exact RcNeAt.none_none
   | some j =>
    have h2 : y = .int j := h2
    subst h2
    obtain ⟨t, rfl⟩ := r2
    exact RcNeAt.none_int _ _
  | some i =>
   have h1 : x = .int i := h1
   subst h1
   obtain ⟨t, rfl⟩ := r1
   cases b with
   | none =>
    have h2 : y = .non := h2
    subst h2
    obtain rfl : v = .none := r2
    exact RcNeAt.int_none _ _
   | some j =>
    have h2 : y = .int j := h2
    subst h2
    obtain ⟨t', rfl⟩ := r2
    have e : decide (some i = some j) = (i == j) := by
     by_cases z : i = j
     ·subst z; simp
     ·rw [decide_eq_false (fun q => z (Option.some.inj q)), beq_eq_false_iff_ne.mpr z]
    have := RcNeAt.int_int (A := ‹Around›) (s := ‹Shared›) i t j t'
    rw [← e] at this
    exact this
 eq := fun {_ _ _ _ _ _ a b x y u v} _ _ h1 h2 r1 r2 => by
  cases a with
  | none =>
   have h1 : x = .non := h1
   subst h1
   obtain rfl : u = .none := r1
   cases b with
   | none =>
    have h2 : y = .non := h2
    subst h2
    obtain rfl : v = .none := r2
    exact EqAt.same _
   | some j =>
    have h2 : y = .int j := h2
    subst h2
    obtain ⟨t, rfl⟩ := r2
    exact EqAt.none_int _ _
  | some i =>
   have h1 : x = .int i := h1
   subst h1
   obtain ⟨t, rfl⟩ := r1
   cases b with
   | none =>
    have h2 : y = .non := h2
    subst h2
    obtain rfl : v = .none := r2
    exact EqAt.int_none _ _
   | some j =>
    have h2 : y = .int j := h2
    subst h2
    obtain ⟨t', rfl⟩ := r2
    have e : decide (some i = some j) = (i == j) := by
     by_cases z : i = j
     ·subst z; simp
     ·rw [decide_eq_false (fun q => z (Option.some.inj q)), beq_eq_false_iff_ne.mpr z]
    have := EqAt.int_int (A := ‹Around›) (s := ‹Shared›) i t j t'
    rw [← e] at this
    exact this
structure Tup (α : Type) where
 l : List α
theorem Tup.ext' {α : Type} {a b : Tup α} (h : a.l = b.l) : a = b := by
 cases a
 cases b
 cases h
 rfl
instance {α : Type} [DecidableEq α] : DecidableEq (Tup α) := fun a b => if h : a.l = b.l then .isTrue (Tup.ext' h) else .isFalse fun z => h (by rw [z])
def hasT {α : Type} [Rep α] (K : PySem.W.Frag) (H : Hp) (t : Tup α) (v : V) : Prop := ∃ a xs, v = .ref a ∧ SqT K H a xs ∧ zaj K H t.l xs
section
variable {α : Type} [r : Rep α] {X : Cx} {pins : List (Addr × Obj)} {σ : St} {H : Hp} {s : Shared} {A : Around} {as bs : Tup α} {x y : V} {u v : Value}
theorem ziK (I : Inv X pins σ H s) (h1 : hasT X.K H as x) (h2 : hasT X.K H bs x) : as = bs := by
 obtain ⟨a, xs, rfl, q1, h1⟩ := h1
 obtain ⟨b, ys, e, q2, h2⟩ := h2
 cases e
 rw [I.tuple_inj q2 q1] at h2
 exact Tup.ext' (h1.inj I h2)
theorem zjz {as bs : List α} (n m : Nat) (hn : as.length = n) (hm : bs.length = m) : ((List.range (min n m)).all (fun j => decide (as[j]? = bs[j]?)) && n == m) = decide (as = bs) := by
 by_cases hl : as.length = bs.length
 ·have e := zeO as bs hl
  have z : min n m = as.length := by omega
  rw [z, e, beq_iff_eq.mpr (by omega : n = m), Bool.and_true]
 ·rw [decide_eq_false (fun z => hl (by rw [z])), beq_eq_false_iff_ne.mpr (by omega : n ≠ m), Bool.and_false]
theorem dec_tup : decide (as = bs) = decide (as.l = bs.l) := by
 by_cases h : as.l = bs.l
 ·rw [decide_eq_true h, decide_eq_true (Tup.ext' h)]
 ·rw [decide_eq_false h, decide_eq_false (fun z => h (by rw [z]))]
theorem hasT_rc (I : Inv X pins σ H s) (hu : A.units + (Rep.depth α + 1) < cLine) (h1 : hasT X.K H as x) (h2 : hasT X.K H bs y) (r1 : RelV x u) (r2 : RelV y v) : RcAt A s u v (decide (as = bs)) := by
 obtain ⟨a, xs, rfl, q1, h1⟩ := h1
 obtain ⟨b, ys, rfl, q2, h2⟩ := h2
 cases r1
 cases r2
 obtain ⟨us, ru, pu, _⟩ := I.tuple q1
 obtain ⟨vs, rv, pv, _⟩ := I.tuple q2
 have l1 := ru.length
 have l2 := rv.length
 have m1 := h1.length
 have m2 := h2.length
 have hin : A.in1.units + Rep.depth α < cLine := Nat.lt_of_le_of_lt (Nat.add_le_add_right zcd _) (by omega)
 have := RcAt.tuples (A := A) (s := s) (l := a) (b := b) (items := us.toArray) (items2 := vs.toArray) (e := fun j => decide (as.l[j]? = bs.l[j]?)) pu pv (by omega) (ze6 I hin h1 h2 ru rv)
 rw [zjz (as := as.l) (bs := bs.l) us.toArray.size vs.toArray.size (by simp; omega) (by simp; omega), ← dec_tup] at this
 exact this
theorem hasT_rn (I : Inv X pins σ H s) (hu : A.units + (Rep.depth α + 1) < cLine) (h1 : hasT X.K H as x) (h2 : hasT X.K H bs y) (r1 : RelV x u) (r2 : RelV y v) : RcNeAt A s u v (!decide (as = bs)) := by
 obtain ⟨a, xs, rfl, q1, h1⟩ := h1
 obtain ⟨b, ys, rfl, q2, h2⟩ := h2
 cases r1
 cases r2
 obtain ⟨us, ru, pu, _⟩ := I.tuple q1
 obtain ⟨vs, rv, pv, _⟩ := I.tuple q2
 have l1 := ru.length
 have l2 := rv.length
 have m1 := h1.length
 have m2 := h2.length
 have hin : A.in1.units + Rep.depth α < cLine := Nat.lt_of_le_of_lt (Nat.add_le_add_right zcd _) (by omega)
 have := RcNeAt.tuples (A := A) (s := s) (l := a) (b := b) (items := us.toArray) (items2 := vs.toArray) (e := fun j => decide (as.l[j]? = bs.l[j]?)) pu pv (by omega) (ze6 I hin h1 h2 ru rv)
 rw [zjz (as := as.l) (bs := bs.l) us.toArray.size vs.toArray.size (by simp; omega) (by simp; omega), ← dec_tup] at this
 exact this
theorem hasT_eq (I : Inv X pins σ H s) (hu : A.units + (Rep.depth α + 1) < cLine) (h1 : hasT X.K H as x) (h2 : hasT X.K H bs y) (r1 : RelV x u) (r2 : RelV y v) : EqAt A s u v (decide (as = bs)) := by
 have rc := hasT_rc (A := A) I hu h1 h2 r1 r2
 have h1' := id h1
 have h2' := id h2
 obtain ⟨a, xs, rfl, q1, h1⟩ := h1
 obtain ⟨b, ys, rfl, q2, h2⟩ := h2
 cases r1
 cases r2
 by_cases hab : a = b
 ·subst hab
  rw [decide_eq_true (ziK I h1' h2')]
  exact EqAt.same _
 ·exact EqAt.of_refs hab rc
end
instance {α : Type} [Rep α] : Rep (Tup α) where
 dec := inferInstance
 depth := Rep.depth α + 1
 has := hasT
 mono := fun e ⟨a, xs, h1, h2, h3⟩ => ⟨a, xs, h1, h2.ext e, h3.mono e⟩
 inj := fun I h1 h2 => ziK I h1 h2
 rc := fun I hu h1 h2 r1 r2 => hasT_rc I hu h1 h2 r1 r2
 rn := fun I hu h1 h2 r1 r2 => hasT_rn I hu h1 h2 r1 r2
 eq := fun I hu h1 h2 r1 r2 => hasT_eq I hu h1 h2 r1 r2
end L2
namespace L2
open PySem PySem.Spec PyProof.Rows
section
variable {X : Cx}
end
end L2
namespace L2
open PySem PySem.Spec PyProof.Rows
section
variable {X : Cx} {K : PySem.W.Frag}
end
end L2
namespace L2
open PySem PySem.Spec PyProof.Rows
section
variable {X : Cx} {K : PySem.W.Frag} {tg : Expr}
theorem pi_tupC {l : Expr} {tl : TE} (hl : PE X l tl) (h : X.K = K := by rfl) : PI X tg l (iTup K tl) := by
 subst h
 exact zfd hl
end
end L2
namespace L2
open PySem PySem.Spec PyProof.Rows
def zby (X : Cx) (N : List Str) (scope : Scope) (z : Str) (cl : List (Str × Addr)) (C : Addr) (s₂ : Shared) (H₂ : Hp) (fp : List Addr) : Cx :=
 { X with N := N, s₀ := s₂, H₀ := H₂, env := compEnvC scope ((z, C + 1) :: cl) C X.env, outer := X.stack, stack := X.stack, ex := fp, fn := fun x => x == z, xe := fun _ _ => False }
theorem zf2 {n : Nat} {h : Heap} : ∀ {names : List (Str × NameKind)} {acc : List (Str × Addr)}, names.filter (fun y => y.2 == .cell) = [] → cellsFrom n names acc = acc ∧ pushCells h names = h
 | [], _, _ => ⟨rfl, rfl⟩
 | (x, k) :: r, acc, e => by
  cases hk : k == NameKind.cell with
  | true =>
   rw [List.filter_cons_of_pos (by exact hk)] at e
   cases e
  | false =>
   rw [List.filter_cons_of_neg (by rw [show ((x, k) : Str × NameKind).2 = k from rfl, hk]; decide)] at e
   unfold cellsFrom pushCells
   rw [hk]
   exact zf2 e
theorem zfp {n : Nat} {h : Heap} {z : Str} : ∀ {names : List (Str × NameKind)} {acc : List (Str × Addr)}, names.filter (fun y => y.2 == .cell) = [(z, .cell)] → cellsFrom n names acc = (z, n) :: acc ∧ pushCells h names = h.push { cls := .type "cell", data := .cell none }
 | [], _, e => by cases e
 | (x, k) :: r, acc, e => by
  cases hk : k == NameKind.cell with
  | true =>
   rw [List.filter_cons_of_pos (by exact hk)] at e
   obtain ⟨e1, e2⟩ := List.cons.inj e
   have e3 : x = z := congrArg Prod.fst e1
   subst e3
   unfold cellsFrom pushCells
   rw [hk]
   exact zf2 e2
  | false =>
   rw [List.filter_cons_of_neg (by rw [show ((x, k) : Str × NameKind).2 = k from rfl, hk]; decide)] at e
   unfold cellsFrom pushCells
   rw [hk]
   exact zfp e
theorem env_one {M : Model} {A : Around} {E : Value → Shared → Prop} {s : Shared} {scope : Scope} {z : Str} {globals : Addr} {closure : List (Str × Addr)} {qual : Str} {env : Env} {Q : Env → Shared → Prop}
  (one : scope.names.filter (fun y => y.2 == .cell) = [(z, .cell)])
  (hQ : Q { scope, locals := s.heap.objs.size, globals, cells := (z, s.heap.objs.size + 1) :: closure, qual, func := none, code := env.code, frame := env.frame, builtins := env.builtins } { s with heap := (s.heap.push { cls := .type "dict", data := .dict #[] }).push { cls := .type "cell", data := .cell none } }) :
  wpAny M A (newFunctionEnv scope globals closure [] qual none .none (some env)) Q E s := by
 simp only [newFunctionEnv, Option.isSome_some, if_true]
 refine wpAny_bind (wpAny_alloc ?_)
 refine wpAny_bind (wpAny_layCells _ (fun name kind cells => by cases hkc : kind == NameKind.cell <;> simp [hkc]) _ _ _ _ ?_)
 rw [show ({ s with heap := s.heap.push { cls := .type "dict", data := .dict #[] } } : Shared).heap.objs.size = s.heap.objs.size + 1 from Heap.size_push ..]
 rw [(zfp (n := s.heap.objs.size + 1) (h := s.heap) one).1, (zfp (n := 0) (h := s.heap.push { cls := .type "dict", data := .dict #[] }) (acc := []) one).2]
 refine wpAny_bind ?_
 rw [List.forIn_nil]
 exact wpAny_pure (wpAny_pure hQ)
theorem zeE {env : Env} : ∀ {names : List (Str × NameKind)} {x : Str} {k' : NameKind}, (names.map fun (n, k) => if (k == NameKind.free && env.scope.kind == .function && env.kindOf n == some .cell) then (n, NameKind.cell) else (n, k)).lookup x = some k' → k' = .cell ∨ k' = .free →
  (x, NameKind.free) ∈ names ∨ (x, NameKind.cell) ∈ names
 | [], _, _, h, _ => by simp at h
 | (n, k) :: r, x, k', h, hk => by
  have ih := @zeE env r x k'
  have h' : List.lookup x ((if (k == NameKind.free && env.scope.kind == .function && env.kindOf n == some .cell) = true then (n, NameKind.cell) else (n, k)) :: r.map fun (n, k) => if (k == NameKind.free && env.scope.kind == .function && env.kindOf n == some .cell) then (n, NameKind.cell) else (n, k)) = some k' := h
  cases hx : x == n with
  | true =>
   have e := eq_of_beq hx
   subst e
   by_cases hf : k = .free
   ·subst hf; exact .inl List.mem_cons_self
   ·have hb : (k == NameKind.free) = false := by simpa using hf
    rw [if_neg (by rw [hb]; simp), List.lookup_cons, hx] at h'
    cases h'
    rcases hk with z | z
    ·subst z; exact .inr List.mem_cons_self
    ·exact absurd z hf
  | false =>
   refine (ih ?_ hk).imp (List.mem_cons_of_mem _) (List.mem_cons_of_mem _)
   by_cases hcd : (k == NameKind.free && env.scope.kind == .function && env.kindOf n == some .cell) = true
   ·rw [if_pos hcd, List.lookup_cons, hx] at h'; exact h'
   ·rw [if_neg hcd, List.lookup_cons, hx] at h'; exact h'
structure zh3 (X : Cx) (scope : Scope) (z : Str) (N : List Str) (own : Nat) (cap : List Nat) : Prop where
 kind : scope.kind = .function
 one : scope.names.filter (fun y => y.2 == .cell) = [(z, .cell)]
 look : scope.names.lookup z = some .cell
 locs : (scope.names.all fun y => y.2 != .local || scope.names.lookup y.1 == some .local) = true
 frees : (scope.names.all fun y => y.2 != .free || (X.env.kindOf y.1 == some .cell || X.env.kindOf y.1 == some .free)) = true
 len : N.length = own + cap.length
 caps : ((List.range cap.length).all fun j => (N[own + j]? == X.N[cap[j]!]?) && (match N[own + j]? with | some x => scope.names.lookup x == some .free && (X.env.kindOf x == some .cell || X.env.kindOf x == some .free) | none => false)) = true
section
variable {X : Cx}
theorem inv_compZ {z : Str} {pins : List (Addr × Obj)} {σ : St} {H : Hp} {s : Shared} {N : List Str} {own : Nat} {cap : List Nat} {scope : Scope} {cl : List (Str × Addr)} {C : Addr} {fp : List Addr} {h₁ : Heap} {tk : Nat} {D : Addr}
  (I : Inv X pins σ H s) (c : zh3 X scope z N own cap) (hcl : zhl scope X.env cl) (f : ∀ b ∈ fp, FpOk X pins H b) (hD : s.heap.objs.size ≤ D) (hC : s.heap.objs.size ≤ C) (hCD : D ≠ C)
  (kp : ∀ b o, s.heap.get? b = some o → h₁.get? b = some o) (hnew : h₁.get? D = some { cls := .type "list", data := .seq #[] }) (hns : ∃ m, h₁.Ns C m) (hcz : h₁.IsCell (C + 1) none) (hDz : D ≠ C + 1) (hfp : ∀ b ∈ fp, b < s.heap.objs.size) (hcalm : X.calm = true) :
  Inv (zby X N scope z cl C s H fp) pins (zcL own cap σ) (upd H D (.lst [])) { s with heap := h₁, toks := tk } := by
 have hfr : H D = none := I.hok.fresh hD
 have hfrC : H C = none := I.hok.fresh hC
 have sz : ∀ b o, s.heap.get? b = some o → b ≠ D ∧ b ≠ C := fun b o e => ⟨Nat.ne_of_lt (Nat.lt_of_lt_of_le (Heap.lt_size e) hD), Nat.ne_of_lt (Nat.lt_of_lt_of_le (Heap.lt_size e) hC)⟩
 have cells : ∀ x cc, cl.lookup x = some cc → ∃ v, s.heap.IsCell cc v := fun x cc e => I.cell x cc (hcl.sub x cc e)
 have cellne : ∀ x cc, cl.lookup x = some cc → cc ≠ D ∧ cc ≠ C := fun x cc e => by
  obtain ⟨v, o, ho, _⟩ := cells x cc e
  exact sz cc o ho
 have czlt : ∀ x cc, cl.lookup x = some cc → cc ≠ C + 1 := fun x cc e q => by
  obtain ⟨v, o, ho, _⟩ := cells x cc e
  exact absurd (show C + 1 < s.heap.objs.size from (by rw [← q]; exact Heap.lt_size ho)) (Nat.not_lt.mpr (Nat.le_trans hC (Nat.le_succ _)))
 have lk : ∀ x cc, ((z, C + 1) :: cl).lookup x = some cc → (x = z ∧ cc = C + 1) ∨ (x ≠ z ∧ cl.lookup x = some cc) := fun x cc e => by
  rw [List.lookup_cons] at e
  cases hx : x == z with
  | true =>
   rw [hx] at e
   exact .inl ⟨eq_of_beq hx, (Option.some.inj e).symm⟩
  | false =>
   rw [hx] at e
   exact .inr ⟨fun q => (by rw [q, beq_self_eq_true] at hx; cases hx), e⟩
 have hfrZ : H (C + 1) = none := I.hok.fresh (Nat.le_trans hC (Nat.le_succ _))
 have ok : (zby X N scope z cl C s H fp).Ok := by
  refine ⟨I.ok.mod, c.kind, I.ok.glob, I.ok.blt, hC, fun x y cc e1 e2 => ?_, fun x hx => ?_, fun x cc e1 e2 => ?_, I.ok.hd, I.ok.frames, .inl rfl, fun b hb => ?_, fun b o e => I.bs b o e, ?_, fun b o e hb => ?_, fun b hb z => ?_, I.stack, fun b hb => I.stkFree b hb⟩
  ·rcases lk x cc e1 with ⟨q1, q2⟩ | ⟨q1, q2⟩ <;> rcases lk y cc e2 with ⟨r1, r2⟩ | ⟨r1, r2⟩
   ·rw [q1, r1]
   ·exact absurd q2 (czlt y cc r2)
   ·exact absurd r2 (czlt x cc q2)
   ·exact I.ok.inj x y cc (hcl.sub x cc q2) (hcl.sub y cc r2)
  ·show ∃ c, ((z, C + 1) :: cl).lookup x = some c
   cases hxz : x == z with
   | true => exact ⟨C + 1, by rw [List.lookup_cons, hxz]⟩
   | false =>
    have hm : (x, NameKind.free) ∈ scope.names := by
     have hor : (x, NameKind.free) ∈ scope.names ∨ (x, NameKind.cell) ∈ scope.names := by
      rcases hx with y | y
      ·exact zeE (env := X.env) (names := scope.names) (x := x) (k' := .cell) y (.inl rfl)
      ·exact zeE (env := X.env) (names := scope.names) (x := x) (k' := .free) y (.inr rfl)
     rcases hor with q | q
     ·exact q
     ·have hf : (x, NameKind.cell) ∈ scope.names.filter (fun y => y.2 == .cell) := List.mem_filter.mpr ⟨q, rfl⟩
      rw [c.one] at hf
      have e := congrArg Prod.fst (List.mem_singleton.mp hf)
      have e : x = z := e
      rw [e, beq_self_eq_true] at hxz
      cases hxz
    obtain ⟨cc, hcc⟩ := hcl.has x hm
    exact ⟨cc, by rw [List.lookup_cons, hxz]; exact hcc⟩
  ·have e1 : (x == z) = true := e1
   rcases lk x cc e2 with ⟨_, q2⟩ | ⟨q1, _⟩
   ·rw [q2]
    exact Nat.le_trans hC (Nat.le_succ _)
   ·exact absurd (eq_of_beq e1) q1
  ·exact ⟨Nat.ne_of_lt (Nat.lt_of_lt_of_le (hfp b hb) hC), fun x cc e q => by
    rcases lk x cc e with ⟨_, q2⟩ | ⟨_, q2⟩
    ·exact absurd (show C + 1 < s.heap.objs.size from (by rw [← q2, q]; exact hfp b hb)) (Nat.not_lt.mpr (Nat.le_trans hC (Nat.le_succ _)))
    ·exact (f b hb).2.2.2.2.1 x cc (hcl.sub x cc q2) q⟩
  ·exact Nat.le_trans I.ok.bsz I.sz
  ·obtain ⟨_, _, _, h4, _⟩ := f b hb
   rcases h4 with z | z
   ·exact I.ok.noex b o e z
   ·exact absurd (Nat.lt_of_lt_of_le (Heap.lt_size e) (Nat.le_trans I.ok.bsz z)) (Nat.lt_irrefl _)
  ·obtain ⟨_, h2, h3, _⟩ := f b hb
   rcases List.mem_cons.mp (I.stkSub b z) with q | q
   ·exact h2 q
   ·exact h3 q
 have hokN : zbA X.prog X.w (upd H D (.lst [])) h₁ D (.lst []) := ⟨Nat.zero_le _, [], 0, .nil, hnew⟩
 refine ⟨ok, I.os.symm ▸ rfl, I.bare, Un.laid kp hD hfr, ?_, fun x cc e => ?_, ?_, fun x cc e => ?_, fun p hp => ?_, I.hok.laid kp hD hokN, ?_⟩
 ·obtain ⟨m, hm⟩ := hns
  refine ⟨m, hm, fun i x v e1 e2 e3 => ?_⟩
  have hi : own ≤ i := by
   false_or_by_contra
   rename_i z
   unfold zcL at e2
   rw [List.getElem?_append_left (by rw [List.length_replicate]; omega), List.getElem?_replicate] at e2
   split at e2 <;> cases e2
  obtain ⟨j, rfl⟩ : ∃ j, i = own + j := ⟨i - own, by omega⟩
  have hj : j < cap.length := by
   have := (List.getElem?_eq_some_iff.mp e1).1
   have z := c.len
   have this' : own + j < N.length := this
   omega
  have hc := List.all_eq_true.mp c.caps j (List.mem_range.mpr hj)
  have e1' : N[own + j]? = some x := e1
  rw [e1'] at hc
  simp only [Bool.and_eq_true, beq_iff_eq, Bool.or_eq_true] at hc
  obtain ⟨hN, hf, hk⟩ := hc
  have e2' : σ[cap[j]!]? = some (some v) := by
   unfold zcL at e2
   rw [List.getElem?_append_right (by rw [List.length_replicate]; omega), List.length_replicate, show own + j - own = j by omega, List.getElem?_map] at e2
   have g : cap[j]! = cap[j] := by simp [hj]
   rw [List.getElem?_eq_getElem hj, Option.map_some] at e2
   rw [g]
   have e2 := Option.some.inj e2
   cases q : σ[cap[j]]? with
   | none => rw [q] at e2; cases e2
   | some z => rw [q] at e2; exact congrArg some e2
  obtain ⟨m0, _, hl⟩ := I.loc
  obtain ⟨u, ru, lk⟩ := hl (cap[j]!) x v hN.symm e2' (by
   rcases hk with z | z
   ·exact .inr (.inl z)
   ·exact .inr (.inr z))
  refine ⟨u, ru, .inr ⟨zbF (env := X.env) hf, ?_⟩⟩
  rcases lk with ⟨z, _⟩ | ⟨_, cc, ec, ic⟩
  ·rcases hk with q | q
   ·rw [q] at z; cases z
   ·rw [q] at z; cases z
  ·obtain ⟨c', hc'⟩ := hcl.has x (by
    have : (x, NameKind.free) ∈ scope.names := by
     have hlk := hf
     obtain ⟨l1, l2, hs, hno⟩ := List.lookup_eq_some_iff.mp hlk
     rw [hs]
     exact List.mem_append_right _ List.mem_cons_self
    exact this)
   have := hcl.sub x c' hc'
   rw [ec] at this
   cases this
   obtain ⟨o, ho, hd⟩ := ic
   refine ⟨cc, ?_, o, kp cc o ho, hd⟩
   show ((z, C + 1) :: cl).lookup x = some cc
   cases hxz : x == z with
   | true =>
    rw [eq_of_beq hxz, c.look] at hf
    cases hf
   | false => rw [List.lookup_cons, hxz]; exact hc'
 ·rcases lk x cc e with ⟨_, q2⟩ | ⟨_, q2⟩
  ·rw [q2]
   exact ⟨_, hcz⟩
  ·obtain ⟨v, o, ho, hd⟩ := cells x cc q2
   exact ⟨v, o, kp cc o ho, hd⟩
 ·show upd H D (.lst []) C = none
  rw [zag (Ne.symm hCD)]
  exact hfrC
 ·show upd H D (.lst []) cc = none
  rcases lk x cc e with ⟨_, q2⟩ | ⟨_, q2⟩
  ·rw [q2, zag (Ne.symm hDz)]
   exact hfrZ
  ·rw [zag (cellne x cc q2).1]
   exact I.freeC x cc (hcl.sub x cc q2)
 ·obtain ⟨e, n, ne, nf, d⟩ := I.pin p hp
  refine ⟨kp _ _ e, ?_, (sz _ _ e).2, fun z => ?_, d⟩
  ·show upd H D (.lst []) p.1 = none
   rw [zag (sz _ _ e).1]
   exact n
  ·rcases List.mem_cons.mp (I.stkSub p.1 z) with q | q
   ·exact ne q
   ·exact nf q
 ·show (zcL own cap σ).length = N.length
  unfold zcL
  rw [List.length_append, List.length_replicate, List.length_map, c.len]
theorem zjk {z : Str} {pins : List (Addr × Obj)} {σ : St} {H2 : Hp} {s2 : Shared} {N : List Str} {own : Nat} {cap : List Nat} {scope : Scope} {cl : List (Str × Addr)} {fp : List Addr} {tg elt iter : Expr} {ifs : List Expr} {pos : Pos} {J : It} {it : Addr} {tn : Nat → Heap → Prop} {g : TG} {ts : TT} {te : TE} {Q : VK}
  {E : Value → Shared → Prop} {RR : Value → Addr → Result → Shared → Prop}
  (hcalm : X.calm = true) (c : zh3 X scope z N own cap) (hcl : zhl scope X.env cl)
  (hg : ∀ cl C s₂ H₂ fp, PG (zby X N scope z cl C s₂ H₂ fp) tg g) (hts : ∀ cl C s₂ H₂ fp, PTs (zby X N scope z cl C s₂ H₂ fp) ifs ts) (he : ∀ cl C s₂ H₂ fp, PE (zby X N scope z cl C s₂ H₂ fp) elt te)
  (I2 : Inv X pins σ H2 s2) (T : Turn X.prog X.w X.K tg J fp it tn) (st2 : tn 0 s2.heap) (f2 : ∀ b ∈ fp, FpOk X pins H2 b)
  (rd : ∀ D, H2 D = none → ∃ W : Nat → Nat → St → Hp → Prop, (∃ m, W 0 m (zcL own cap σ) (upd H2 D (.lst []))) ∧ ∀ i m σ H, W i m σ H →
   (J.stop i H ∧ Q (.ref D) H) ∨ (J.go i H ∧ ∀ x H', J.yld i H x H' → g x σ H' fun σ2 H2 => ts σ2 H2 fun b H3 => if b = true then te σ2 H3 fun y H4 => ∃ xs, H4 D = some (.lst xs) ∧ xs.length < sizeLine ∧ ∃ m', m' < m ∧ W (i + 1) m' σ2 (upd H4 D (.lst (xs ++ [y]))) else ∃ m', m' < m ∧ W (i + 1) m' σ2 H3))
  (hRR : ∀ D C s' H', Inv X pins σ H' s' → (∃ m, s'.heap.Ns C m) → FpOk X pins H' C → Q (.ref D) H' → RR (.ref D) C (.ok .next) s') :
  wpAny (model X.prog X.w) X.A (newList []) (fun acc s₃ => wpAny (model X.prog X.w) X.A (newFunctionEnv scope X.env.globals cl [] X.env.qual none .none (some X.env)) (fun cenv s₄ =>
   codeAny (model X.prog X.w) X.A (.compStart (.ListComp elt [⟨tg, iter, ifs, 0⟩] scope pos) 0 (.ref it) acc { cenv with scope := relabel scope X.env }) (RR acc cenv.locals) s₄) E s₃) E s2 := by
 have hfp : ∀ b ∈ fp, b < s2.heap.objs.size := fun b hb => by
  obtain ⟨o, e, _⟩ := T.obj 0 _ st2 b hb
  exact Heap.lt_size e
 refine wpAny_newObj_type (env_one c.one ?_)
 dsimp only
 generalize hHH : s2.heap.push { cls := .type "list", dict := none, data := .seq ([] : List Value).toArray } = HH
 generalize hh₁ : (HH.push { cls := .type "dict", data := .dict #[] }).push { cls := .type "cell", data := .cell none } = h₁
 have hC : HH.objs.size = s2.heap.objs.size + 1 := by rw [← hHH, Heap.size_push]
 have hDC : s2.heap.objs.size ≠ HH.objs.size := by rw [hC]; exact Nat.ne_of_lt (Nat.lt_succ_self _)
 have hCle : s2.heap.objs.size ≤ HH.objs.size := by rw [hC]; exact Nat.le_succ _
 have kp₁ : ∀ b o, HH.get? b = some o → h₁.get? b = some o := fun b o e => hh₁ ▸ Heap.get?_push_of_some _ (Heap.get?_push_of_some _ e)
 have old : ∀ b o, s2.heap.get? b = some o → h₁.get? b = some o := fun b o e => kp₁ b o (hHH ▸ Heap.get?_push_of_some _ e)
 have hnew : h₁.get? s2.heap.objs.size = some { cls := .type "list", data := .seq #[] } := kp₁ _ _ (hHH ▸ Heap.get?_push_size _ rfl)
 have hns₁ : h₁.Ns HH.objs.size fun _ => none := hh₁ ▸ (Heap.Ns.new HH (.type "dict")).push _
 have hcz : h₁.IsCell (HH.objs.size + 1) none := by
  refine ⟨{ cls := .type "cell", data := .cell none }, ?_, rfl⟩
  rw [← hh₁]
  have e : (HH.push { cls := .type "dict", data := .dict #[] }).objs.size = HH.objs.size + 1 := Heap.size_push ..
  rw [← e]
  exact Heap.get?_push_size _ rfl
 have I3 : ∀ tk, Inv (zby X N scope z cl HH.objs.size s2 H2 fp) pins (zcL own cap σ) (upd H2 s2.heap.objs.size (.lst [])) { s2 with heap := h₁, toks := tk } := fun tk =>
  inv_compZ I2 c hcl f2 (Nat.le_refl _) hCle hDC old hnew ⟨_, hns₁⟩ hcz (by rw [hC]; exact Nat.ne_of_lt (Nat.lt_succ_of_lt (Nat.lt_succ_self _))) hfp hcalm
 obtain ⟨W, ⟨m0, w0⟩, turn⟩ := rd s2.heap.objs.size (I2.hok.fresh (Nat.le_refl _))
 have st3 : tn 0 h₁ := T.keep _ _ _ st2 fun b _ o e => old b o e
 have fr3 : ∀ b ∈ fp, upd H2 s2.heap.objs.size (.lst []) b = none := fun b hb => by rw [zag (Nat.ne_of_lt (hfp b hb))]; exact (f2 b hb).1
 have stat : ∀ {H' : Hp}, (∀ b ∈ fp, H' b = none) → ∀ b ∈ fp, FpOk (zby X N scope z cl HH.objs.size s2 H2 fp) pins H' b := fun hn b hb => by
  obtain ⟨_, h2, h3, _, h5, h6⟩ := f2 b hb
  refine ⟨hn b hb, Nat.ne_of_lt (Nat.lt_of_lt_of_le (hfp b hb) hCle), fun z => ?_, .inl hb, fun x cc e => ?_, h6⟩
  ·rcases List.mem_cons.mp (I2.stkSub b z) with q | q
   ·exact h2 q
   ·exact h3 q
  ·have e : ((_, HH.objs.size + 1) :: cl).lookup x = some cc := e
   rw [List.lookup_cons] at e
   split at e
   ·exact fun q => absurd (show HH.objs.size + 1 < s2.heap.objs.size from (by rw [Option.some.inj e, q]; exact hfp b hb)) (Nat.not_lt.mpr (Nat.le_trans hCle (Nat.le_succ _)))
   ·exact h5 x cc (hcl.sub x cc e)
 have loop : ∀ s₃ : Shared, s₃ = { s2 with heap := h₁ } →
   codeAny (model X.prog X.w) X.A (.compLoop (.ListComp elt [⟨tg, iter, ifs, 0⟩] scope pos) 0 (.ref it) (.ref s2.heap.objs.size) (compEnvC scope ((z, HH.objs.size + 1) :: cl) HH.objs.size X.env)) (RR (.ref s2.heap.objs.size) HH.objs.size) s₃ := by
  rintro s₃ rfl
  refine zfl (fun n s' => ∃ i σ' H', Inv (zby X N scope z cl HH.objs.size s2 H2 fp) pins σ' H' s' ∧ tn i s'.heap ∧ (∀ b ∈ fp, H' b = none) ∧ W i n σ' H') ?_ m0 ⟨0, _, _, I3 _, st3, fr3, w0⟩
  rintro n s3 ⟨i, σ3, H3, J3, t3, fr, w3⟩
  rcases turn i n σ3 H3 w3 with ⟨stop, qn⟩ | ⟨go, step⟩
  ·refine thn (T.done (zby X N scope z cl HH.objs.size s2 H2 fp) rfl rfl rfl hcalm i pins s3 σ3 H3 (fun _ _ => False) J3 (stat fr) t3 stop) fun r s4 ⟨hr, I4⟩ => ?_
   subst hr
   obtain ⟨mm, hmm, _⟩ := I4.loc
   refine hRR _ _ s4 H3 (I2.call' I4.os I4.base I4.hok I4.bare fun b hb => ?_) ⟨mm, hmm⟩ (I2.fpOk hCle I4.free) qn
   obtain ⟨_, h2, _, h4, h5, h6⟩ := f2 b hb
   exact ⟨h4, h2, h5, h6⟩
  ·refine thn (T.item (zby X N scope z cl HH.objs.size s2 H2 fp) rfl rfl rfl hcalm i pins s3 σ3 H3 (fun _ _ => False) J3 (stat fr) t3 go) fun r s4 ⟨u, hr, h4⟩ => ?_
   subst hr
   refine thn h4 fun _ s5 ⟨x, H5, I5, r5, y5, st5, fr5⟩ => ?_
   have I5' := I5.pinned (stat fr5) (T.obj _ _ st5)
   have back : ∀ {σ7 : St} {H7 : Hp} {s7 : Shared} {m' : Nat}, Inv (zby X N scope z cl HH.objs.size s2 H2 fp) (pins ++ zfM fp s5.heap) σ7 H7 s7 → W (i + 1) m' σ7 H7 → ∃ i σ' H', Inv (zby X N scope z cl HH.objs.size s2 H2 fp) pins σ' H' s7 ∧ tn i s7.heap ∧ (∀ b ∈ fp, H' b = none) ∧ W i m' σ' H' := fun {σ7 H7 s7 m'} I7 w7 => by
    refine ⟨i + 1, σ7, H7, I7.unpinned, T.keep _ _ _ st5 fun b hb o e => (I7.pin (b, o) (List.mem_append_right _ (List.mem_append_right _ (zcF hb e)))).1, fun b hb => ?_, w7⟩
    obtain ⟨o, e, d⟩ := T.obj _ _ st5 b hb
    exact (I7.pin (b, o) (List.mem_append_right _ (List.mem_append_right _ (zcF hb e)))).2.1
   refine thn (hg cl HH.objs.size s2 H2 fp _ s5 σ3 H5 x u _ I5' r5 (step x H5 y5)) fun _ s6 ⟨σ6, H6, I6, q6⟩ => ?_
   refine thn (hts cl HH.objs.size s2 H2 fp _ s6 σ6 H6 _ I6 q6) fun b s7 ⟨H7, I7, q7⟩ => ?_
   cases b with
   | false =>
    rw [if_neg Bool.false_ne_true] at q7 ⊢
    obtain ⟨m', hm, w7⟩ := q7
    exact ⟨m', hm, back I7 w7⟩
   | true =>
    rw [if_pos rfl] at q7 ⊢
    refine thn (he cl HH.objs.size s2 H2 fp _ s7 σ6 H7 _ I7 q7) fun v s8 ⟨y, H8, I8, r8, q8⟩ => ?_
    obtain ⟨xs, hx, hz, m', hm, w8⟩ := q8
    refine thn (zaD (X := zby X N scope z cl HH.objs.size s2 H2 fp) _ s8 σ6 H8 (.ref s2.heap.objs.size) [y] (.ref s2.heap.objs.size) [v] (fun _ H9 => H9 = upd H8 s2.heap.objs.size (.lst (xs ++ [y]))) I8 rfl (.cons r8 .nil) ⟨_, xs, y, rfl, rfl, hx, hz, rfl⟩) fun _ s9 ⟨_, H9, I9, _, e9⟩ => ?_
    subst e9
    exact ⟨m', hm, back I9 w8⟩
 refine codeAny_compStart_list (loop _ rfl) ?_
 exact T.self _ 0 _ _ _ st3 (loop _ rfl)
theorem ps_setCZ (z : Str) {i : Nat} {x : Str} {N : List Str} {own : Nat} {cap : List Nat} {scope : Scope} {tg elt iter : Expr} {ifs : List Expr} {pos pos' spos : Pos} {wi : TI} {g : TG} {ts : TT} {te : TE} (hN : X.N.Nodup) (hxi : X.N[i]? = some x) (hx : X.env.scope.names.lookup x = some .local) (hcalm : X.calm = true) (hi : PI X tg iter wi) (c : zh3 X scope z N own cap)
  (hg : ∀ cl C s₂ H₂ fp, PG (zby X N scope z cl C s₂ H₂ fp) tg g) (hts : ∀ cl C s₂ H₂ fp, PTs (zby X N scope z cl C s₂ H₂ fp) ifs ts) (he : ∀ cl C s₂ H₂ fp, PE (zby X N scope z cl C s₂ H₂ fp) elt te)
  (hsw : swapsWith (.ListComp elt [⟨tg, iter, ifs, 0⟩] scope pos) (some (.Name x pos')) spos.line X.env = pure true := by rfl)
  (hs : ∀ x, foldedSetIterable iter X.env x = pure x := by intro _; rfl) : PS X (.Assign [.Name x pos'] (.ListComp elt [⟨tg, iter, ifs, 0⟩] scope pos) spos) (tAsg (tComp own cap wi g ts te) (zhN i)) := by
 intro pins s σ H D I h
 obtain ⟨cl, hcl⟩ := zfn (scope := scope) (env := X.env) fun x hx => I.ok.has x (by
  have := List.all_eq_true.mp c.frees _ hx
  simpa using this)
 rw [exec_Assign_Name_used _ _ _ _ hsw]
 refine wpAny_bind (wpAny_standAt (wpAny_bind ?_))
 show wpAny _ X.A (do let _ ← comprehension (.ListComp elt [⟨tg, iter, ifs, 0⟩] scope pos) scope X.env _ (newList []) false (eval iter X.env) (some (assign (.Name x pos') X.env))) _ _ s
 refine wpAny_bind (wpAny_mono (wpAny_comprehension_free (use := some (assign (.Name x pos') X.env)) (Q := fun _ s' => SP X pins D .next s') rfl hs hcl.eq c.kind (fun x hx hl => by
  have := List.all_eq_true.mp c.locs x hx
  rw [hl] at this
  simpa using this) (thn (hi pins s σ H _ I h) fun v s1 h1 => thn h1 fun itv s2 h2 => ?_)) (fun _ s' hq => wpAny_pure (wpAny_pure hq)) fun _ _ e => e)
 obtain ⟨it, fp, tn, J, H2, e, I2, T, st2, f2, rd⟩ := h2
 subst e
 refine zjk (RR := fun acc C => compPost (model X.prog X.w) X.A X.xe (some (assign (.Name x pos') X.env)) (fun _ s' => SP X pins D .next s') acc C) (Q := fun x H1 => zhN i x σ H1 D.nx) hcalm c hcl hg hts he I2 T st2 f2 rd ?_
 intro Dd C s' H' I' hm fC q
 obtain ⟨m, hm⟩ := hm
 have hne : ∀ a, (a = X.env.locals ∨ X.env.cells.lookup x = some a) → a ≠ C := fun a z => by
  obtain ⟨f0, f1, f2, f3, f4, f5⟩ := fC
  rcases z with z | z
  ·rw [z]; exact Ne.symm f1
  ·exact f4 x a z
 show wpAny _ X.A (assign (.Name x pos') X.env (.ref Dd)) _ _ _
 refine wpAny_assign_Name (ze9 I' hN hxi (.inl hx) (v := .ref Dd) rfl (fun s'' I'' hch => ?_) (.inr hx))
 obtain ⟨a, hsb, ha⟩ := hch
 refine ⟨m, hm.sameBut hsb (Ne.symm (hne a ha)), fun h' hs' => ?_⟩
 obtain ⟨f0, f1, f2, f3, f4, f5⟩ := fC
 exact ⟨_, H', I''.turned (t' := s''.toks) (fun b o hb e => (hs'.2 b hb).trans e) f0 f1 f3 f4 f5, q⟩
end
end L2
namespace L2
open PySem PySem.Spec PyProof.Rows PySem.SeqAt
structure Tri (α β γ : Type) where
 a : α
 b : β
 c : γ
theorem Tri.ext' {α β γ : Type} : ∀ {p q : Tri α β γ}, p.a = q.a → p.b = q.b → p.c = q.c → p = q
 | ⟨_, _, _⟩, ⟨_, _, _⟩, rfl, rfl, rfl => rfl
instance {α β γ : Type} [DecidableEq α] [DecidableEq β] [DecidableEq γ] : DecidableEq (Tri α β γ) := fun p q =>
 if h1 : p.a = q.a then if h2 : p.b = q.b then if h3 : p.c = q.c then .isTrue (Tri.ext' h1 h2 h3) else .isFalse fun z => h3 (by rw [z]) else .isFalse fun z => h2 (by rw [z]) else .isFalse fun z => h1 (by rw [z])
theorem vals3 {x y z : V} {us : List Value} (r : Vals [x, y, z] us) : ∃ u v w, us = [u, v, w] ∧ RelV x u ∧ RelV y v ∧ RelV z w := by
 cases r with
 | cons r1 r =>
  cases r with
  | cons r2 r =>
   cases r with
   | cons r3 r =>
    cases r
    exact ⟨_, _, _, rfl, r1, r2, r3⟩
def has3 {α β γ : Type} [Rep α] [Rep β] [Rep γ] (K : PySem.W.Frag) (H : Hp) (p : Tri α β γ) (v : V) : Prop := ∃ a x y z, v = .ref a ∧ H a = some (.tup [x, y, z]) ∧ Rep.has K H p.a x ∧ Rep.has K H p.b y ∧ Rep.has K H p.c z
section
variable {α β γ : Type} [ra : Rep α] [rb : Rep β] [rc : Rep γ] {X : Cx} {pins : List (Addr × Obj)} {σ : St} {H : Hp} {s : Shared} {A : Around} {p q : Tri α β γ} {x y : V} {u v : Value}
theorem ziM (I : Inv X pins σ H s) (h1 : has3 X.K H p x) (h2 : has3 X.K H q x) : p = q := by
 obtain ⟨a, x1, x2, x3, rfl, q1, e1, e2, e3⟩ := h1
 obtain ⟨b, y1, y2, y3, e, q2, f1, f2, f3⟩ := h2
 cases e
 have z := I.tuple_inj (SqT.of q2) (SqT.of q1)
 cases z
 exact Tri.ext' (Rep.inj I e1 f1) (Rep.inj I e2 f2) (Rep.inj I e3 f3)
theorem zjB {p q : Tri α β γ} : ((List.range (min 3 3)).all (fun j => if j = 0 then (Rep.dec p.a q.a).decide else if j = 1 then (Rep.dec p.b q.b).decide else (Rep.dec p.c q.c).decide) && (3 == 3)) = decide (p = q) := by
 rw [show List.range (min 3 3) = [0, 1, 2] from rfl]
 simp only [List.all_cons, List.all_nil, Bool.and_true, if_true, beq_self_eq_true]
 rw [if_neg (by decide), if_neg (by decide), if_neg (by decide)]
 have e1 : (Rep.dec p.a q.a).decide = decide (p.a = q.a) := rfl
 have e2 : (Rep.dec p.b q.b).decide = decide (p.b = q.b) := rfl
 have e3 : (Rep.dec p.c q.c).decide = decide (p.c = q.c) := rfl
 rw [e1, e2, e3]
 by_cases z1 : p.a = q.a
 ·by_cases z2 : p.b = q.b
  ·by_cases z3 : p.c = q.c
   ·rw [decide_eq_true z1, decide_eq_true z2, decide_eq_true z3, decide_eq_true (Tri.ext' z1 z2 z3)]
    rfl
   ·have n : ¬ p = q := fun z => z3 (by rw [z])
    rw [decide_eq_false z3, decide_eq_false n]
    simp
  ·have n : ¬ p = q := fun z => z2 (by rw [z])
   rw [decide_eq_false z2, decide_eq_false n]
   simp
 ·have n : ¬ p = q := fun z => z1 (by rw [z])
  rw [decide_eq_false z1, decide_eq_false n]
  simp
theorem zgF (I : Inv X pins σ H s) {B : Around} {x1 x2 x3 y1 y2 y3 : V} {u1 u2 u3 v1 v2 v3 : Value} (hin : ∀ n, n ≤ Rep.depth α + Rep.depth β + Rep.depth γ → B.units + n < cLine)
  (e1 : Rep.has X.K H p.a x1) (e2 : Rep.has X.K H p.b x2) (e3 : Rep.has X.K H p.c x3) (f1 : Rep.has X.K H q.a y1) (f2 : Rep.has X.K H q.b y2) (f3 : Rep.has X.K H q.c y3) (r1 : RelV x1 u1) (r2 : RelV x2 u2) (r3 : RelV x3 u3) (t1 : RelV y1 v1) (t2 : RelV y2 v2) (t3 : RelV y3 v3) :
  ∀ j (h1 : j < (#[u1, u2, u3] : Array Value).size) (h2 : j < (#[v1, v2, v3] : Array Value).size), EqAt B s (#[u1, u2, u3] : Array Value)[j] (#[v1, v2, v3] : Array Value)[j] (if j = 0 then (Rep.dec p.a q.a).decide else if j = 1 then (Rep.dec p.b q.b).decide else (Rep.dec p.c q.c).decide) := by
 have c1 := Rep.eq (A := B) I (hin _ (by omega)) e1 f1 r1 t1
 have c2 := Rep.eq (A := B) I (hin _ (by omega)) e2 f2 r2 t2
 have c3 := Rep.eq (A := B) I (hin _ (by omega)) e3 f3 r3 t3
 intro j h1 h2
 have h1' : j < 3 := h1
 have z : j = 0 ∨ j = 1 ∨ j = 2 := by omega
 rcases z with rfl | rfl | rfl
 ·exact c1
 ·exact c2
 ·exact c3
theorem has3_rc (I : Inv X pins σ H s) (hu : A.units + (Rep.depth α + Rep.depth β + Rep.depth γ + 1) < cLine) (h1 : has3 X.K H p x) (h2 : has3 X.K H q y) (r1 : RelV x u) (r2 : RelV y v) : RcAt A s u v (decide (p = q)) := by
 obtain ⟨a, x1, x2, x3, rfl, q1, e1, e2, e3⟩ := h1
 obtain ⟨b, y1, y2, y3, rfl, q2, f1, f2, f3⟩ := h2
 cases r1
 cases r2
 obtain ⟨us, ru, pu, _⟩ := I.tuple (SqT.of q1)
 obtain ⟨vs, rv, pv, _⟩ := I.tuple (SqT.of q2)
 obtain ⟨u1, u2, u3, rfl, ru1, ru2, ru3⟩ := vals3 ru
 obtain ⟨v1, v2, v3, rfl, rv1, rv2, rv3⟩ := vals3 rv
 have hin : ∀ n, n ≤ Rep.depth α + Rep.depth β + Rep.depth γ → A.in1.units + n < cLine := fun n hn => Nat.lt_of_le_of_lt (Nat.add_le_add_right zcd _) (by omega)
 have := RcAt.tuples (A := A) (s := s) (l := a) (b := b) (items := #[u1, u2, u3]) (items2 := #[v1, v2, v3]) pu pv (by omega) (zgF (p := p) (q := q) I hin e1 e2 e3 f1 f2 f3 ru1 ru2 ru3 rv1 rv2 rv3)
 rw [← zjB]
 exact this
theorem has3_rn (I : Inv X pins σ H s) (hu : A.units + (Rep.depth α + Rep.depth β + Rep.depth γ + 1) < cLine) (h1 : has3 X.K H p x) (h2 : has3 X.K H q y) (r1 : RelV x u) (r2 : RelV y v) : RcNeAt A s u v (!decide (p = q)) := by
 obtain ⟨a, x1, x2, x3, rfl, q1, e1, e2, e3⟩ := h1
 obtain ⟨b, y1, y2, y3, rfl, q2, f1, f2, f3⟩ := h2
 cases r1
 cases r2
 obtain ⟨us, ru, pu, _⟩ := I.tuple (SqT.of q1)
 obtain ⟨vs, rv, pv, _⟩ := I.tuple (SqT.of q2)
 obtain ⟨u1, u2, u3, rfl, ru1, ru2, ru3⟩ := vals3 ru
 obtain ⟨v1, v2, v3, rfl, rv1, rv2, rv3⟩ := vals3 rv
 have hin : ∀ n, n ≤ Rep.depth α + Rep.depth β + Rep.depth γ → A.in1.units + n < cLine := fun n hn => Nat.lt_of_le_of_lt (Nat.add_le_add_right zcd _) (by omega)
 have := RcNeAt.tuples (A := A) (s := s) (l := a) (b := b) (items := #[u1, u2, u3]) (items2 := #[v1, v2, v3]) pu pv (by omega) (zgF (p := p) (q := q) I hin e1 e2 e3 f1 f2 f3 ru1 ru2 ru3 rv1 rv2 rv3)
 rw [← zjB]
 exact this
theorem has3_eq (I : Inv X pins σ H s) (hu : A.units + (Rep.depth α + Rep.depth β + Rep.depth γ + 1) < cLine) (h1 : has3 X.K H p x) (h2 : has3 X.K H q y) (r1 : RelV x u) (r2 : RelV y v) : EqAt A s u v (decide (p = q)) := by
 have rc := has3_rc (A := A) I hu h1 h2 r1 r2
 have h1' := id h1
 have h2' := id h2
 obtain ⟨a, x1, x2, x3, rfl, q1, e1, e2, e3⟩ := h1
 obtain ⟨b, y1, y2, y3, rfl, q2, f1, f2, f3⟩ := h2
 cases r1
 cases r2
 by_cases hab : a = b
 ·subst hab
  rw [decide_eq_true (ziM I h1' h2')]
  exact EqAt.same _
 ·exact EqAt.of_refs hab rc
end
instance {α β γ : Type} [Rep α] [Rep β] [Rep γ] : Rep (Tri α β γ) where
 dec := inferInstance
 depth := Rep.depth α + Rep.depth β + Rep.depth γ + 1
 has := has3
 mono := fun e ⟨a, x, y, z, h1, h2, h3, h4, h5⟩ => ⟨a, x, y, z, h1, e _ _ h2 (fun _ z => nomatch z), Rep.mono e h3, Rep.mono e h4, Rep.mono e h5⟩
 inj := fun I h1 h2 => ziM I h1 h2
 rc := fun I hu h1 h2 r1 r2 => has3_rc I hu h1 h2 r1 r2
 rn := fun I hu h1 h2 r1 r2 => has3_rn I hu h1 h2 r1 r2
 eq := fun I hu h1 h2 r1 r2 => has3_eq I hu h1 h2 r1 r2
end L2
namespace L2
open PySem PySem.Spec PyProof.Rows PySem.SeqAt
def rInD (α : Type) [Rep α] (K : PySem.W.Frag) (neg : Bool) : R2 := fun x y H Q => ∃ (p : Addr) (xs : List V) (a : α) (as : List α), y = .ref p ∧ (SqL K H p xs ∨ SqT K H p xs) ∧ Rep.has K H a x ∧ zaj K H as xs ∧ ∀ b : Bool, (b = true ↔ a ∈ as) → Q (.bl (if neg then !b else b)) H
section
variable {X : Cx} {α : Type} [Rep α]
end
end L2
namespace L2
open PySem PySem.Spec PyProof.Rows
def ItF (hi : Int) (n : Nat) : It := ⟨fun i _ => i < n, fun i H x H' => H' = H ∧ x = .int (hi - i), fun i _ => n ≤ i⟩
theorem zjw {P : Program} {w : World} {K : PySem.W.Frag} {tg : Expr} (it : Addr) (hi : Int) (n : Nat) : Turn P w K tg (ItF hi n) [it] it (fun i h => IsRangeIter h it (hi + (i : Nat) * (-1)) ((n : Int) - (i : Nat)) (-1)) where
 mem := by simp
 obj := fun i h st b hb => by
  have e : b = it := by simpa using hb
  subst e
  exact ⟨_, st, fun v z => by
   have z' : Data.fields _ = Data.cell v := z
   cases z'⟩
 keep := fun i h h' st k => k it (by simp) _ st
 item := by
  intro X hP hw hK hc i pins s σ H E I hf st hg
  subst hP hw hK
  obtain ⟨f0, f1, f2, f3, f4, f5⟩ := hf it (by simp)
  have W := Walks.range (prog := X.prog) (w := X.w) (I.ok.hd hc) it hi (-1) n
  refine W.item i s _ _ hg st fun v h' tk hv st' kk => ?_
  obtain ⟨t, rfl⟩ := hv
  have I1 : Inv X pins σ H { s with heap := h', toks := tk } := I.turned (fun b o hb e => kk b o (by simpa using hb) e) f0 f1 f3 f4 f5
  refine ⟨_, rfl, go_of (s := { s with heap := h', toks := tk }) (n := "range_iterator") st' rfl rfl (by decide) ⟨.int (hi - i), H, I1, ⟨t, ?_⟩, ⟨rfl, rfl⟩, st', fun b hb => (hf b hb).1⟩⟩
  rw [show hi + ((i : Nat) : Int) * (-1) = hi - i by omega]
 done := by
  intro X hP hw hK hc i pins s σ H E I hf st hg
  subst hP hw hK
  obtain ⟨f0, f1, f2, f3, f4, f5⟩ := hf it (by simp)
  exact wpAny_pyNext_range_end (I.ok.hd hc) st (by have : n ≤ i := hg; omega) fun h' eb => ⟨rfl, I.turned (t' := s.toks) (fun b o hb e => eb b o hb e) f0 f1 f3 f4 f5⟩
 self := fun _ _ _ _ _ st h => wpAny_pyIter_rangeiter st h
theorem zgM (a b : Int) : Builtin.Range.rangeSize a b (-1) = if a > b then a - b else 0 := by
 unfold Builtin.Range.rangeSize
 rw [if_neg (by decide)]
 split
 ·rw [show -(-1 : Int) = 1 from rfl, Int.ediv_one]
  omega
 ·rfl
theorem zi2 {a b : Int} (ha : -(2 ^ 62) ≤ a) (ha' : a < 2 ^ 62) (hb : -(2 ^ 62) ≤ b) (hb' : b < 2 ^ 62) : Builtin.Range.small a b (-1) = true := by
 unfold Builtin.Range.small
 rw [zgM]
 simp only [Builtin.Range.rangeFitsLong, Bool.and_eq_true, Bool.or_eq_true, decide_eq_true_eq, beq_iff_eq, show ¬ (-1 : Int) > 0 by decide, if_false]
 split <;> omega
section
variable {X : Cx} {tg : Expr}
theorem fall_it {pins : List (Addr × Obj)} {σ : St} {H : Hp} {s : Shared} {R : It → Hp → Prop} {E : Value → Shared → Prop} {hi lo : Int} {t u v : Tok} {tk : Nat} (I : Inv X pins σ H s) (h1 : -(2 ^ 62) ≤ hi) (h2 : hi < 2 ^ 62) (h3 : -(2 ^ 62) ≤ lo) (h4 : lo < 2 ^ 62)
  (q : R (ItF hi (hi - lo).toNat) H) : wpAny (model X.prog X.w) X.A (pyIter (.ref s.heap.objs.size)) (PIE X pins σ tg R) E { s with heap := s.heap.push { cls := .type "range", data := .fields #[.int hi t, .int lo u, .int (-1) v] }, toks := tk } := by
 refine wpAny_pyIter_range (IsRange.new ..) (zi2 h1 h2 h3 h4) ?_
 have I1 : Inv X pins σ H { s with heap := s.heap.push { cls := .type "range", data := .fields #[.int hi t, .int lo u, .int (-1) v] }, toks := tk } := I.kept fun b o e => Heap.get?_push_of_some _ e
 refine ⟨(s.heap.push { cls := .type "range", data := .fields #[.int hi t, .int lo u, .int (-1) v] }).objs.size, [(s.heap.push { cls := .type "range", data := .fields #[.int hi t, .int lo u, .int (-1) v] }).objs.size], _, _, H, rfl,
  I1.kept (t' := tk) fun b o e => Heap.get?_push_of_some _ e, zjw _ hi (hi - lo).toNat, ?_, fun b hb => ?_, q⟩
 ·have e1 : hi + ((0 : Nat) : Int) * (-1) = hi := by simp
  have e2 : (((hi - lo).toNat : Nat) : Int) - ((0 : Nat) : Int) = Builtin.Range.rangeSize hi lo (-1) := by rw [zgM]; split <;> omega
  show IsRangeIter _ _ (hi + ((0 : Nat) : Int) * (-1)) ((((hi - lo).toNat : Nat) : Int) - ((0 : Nat) : Int)) (-1)
  rw [e1, e2]
  exact Heap.get?_push_size _ rfl
 ·have e : b = (s.heap.push { cls := .type "range", data := .fields #[.int hi t, .int lo u, .int (-1) v] }).objs.size := by simpa using hb
  subst e
  exact I1.fpOk (Nat.le_refl _) (I1.hok.fresh (Nat.le_refl _))
def iRng3 (ta : TA) : TI := fun σ H R => ta σ H fun vs H1 => ∃ i j : Int, vs = [.int i, .int j, .int (-1)] ∧ (-(2 ^ 62) ≤ i ∧ i < 2 ^ 62 ∧ -(2 ^ 62) ≤ j ∧ j < 2 ^ 62) ∧ R (ItF i (i - j).toNat) H1
theorem pi_range3 {a b c : Expr} {ta : TA} {p pos : Pos} (hg : Gl X "range") (hm : X.mg "range" = none) (ha : PA X [a, b, c] ta) (hs : starEach [a, b, c] X.env = [(false, eval a X.env), (false, eval b X.env), (false, eval c X.env)] := by rfl) (hs2 : starEach [b, c] X.env = [(false, eval b X.env), (false, eval c X.env)] := by rfl) :
  PI X tg (.Call (.Name "range" p) [a, b, c] [] pos) (iRng3 ta) := by
 intro pins s σ H R I h
 refine Call_ (zeq I hg hm boot_range (PyProof.Rows.callWith_type1 (thn (ha pos pins s σ H _ I h) fun us s1 ⟨vs, H1, I1, r1, q1⟩ => ?_) (by rw [hs, hs2]) (by rw [hs2]; rfl)))
 obtain ⟨i, j, e, ⟨q1, q2, q3, q4⟩, q⟩ := q1
 subst e
 cases r1 with
 | cons r rr =>
  cases rr with
  | cons r' rr =>
   cases rr with
   | cons r2 rr =>
    cases rr
    obtain ⟨t, rfl⟩ := r
    obtain ⟨t', rfl⟩ := r'
    obtain ⟨t2, rfl⟩ := r2
    exact call_range_3 (by decide) (fall_it I1 q1 q2 q3 q4 q) (Or.inl (PyProof.noPylong_small (by decide)))
end
theorem for_fall {hi : Int} {n : Nat} {g : TG} {tb : TS} {D : Ends} {σ : St} {H : Hp} (Pv : Nat → St → Hp → Prop) (h0 : Pv 0 σ H)
  (hs : ∀ i σ H, i < n → Pv i σ H → g (.int (hi - i)) σ H fun σ2 H2 => tb { D with nx := Pv (i + 1), ct := Pv (i + 1), bk := D.nx } σ2 H2) (hd : ∀ σ H, Pv n σ H → D.nx σ H) :
  ∃ W : Nat → Nat → St → Hp → Prop, (∃ m, W 0 m σ H) ∧ ∀ i m σ H, W i m σ H →
   ((ItF hi n).stop i H ∧ D.nx σ H) ∨ ((ItF hi n).go i H ∧ ∃ N : St → Hp → Prop, (∀ σ' H', N σ' H' → ∃ m', m' < m ∧ W (i + 1) m' σ' H') ∧ ∀ x H', (ItF hi n).yld i H x H' → g x σ H' fun σ2 H2 => tb { D with nx := N, ct := N, bk := D.nx } σ2 H2) := by
 refine ⟨fun i m σ H => m = n - i ∧ i ≤ n ∧ Pv i σ H, ⟨n, by simp, Nat.zero_le _, h0⟩, ?_⟩
 rintro i m σ H ⟨rfl, hi, p⟩
 by_cases hlt : i < n
 ·refine .inr ⟨hlt, Pv (i + 1), fun σ' H' p' => ⟨n - (i + 1), by omega, rfl, hlt, p'⟩, fun x H' y => ?_⟩
  obtain ⟨e, y⟩ := y
  subst e y
  exact hs i σ _ hlt p
 ·have e : i = n := by omega
  subst e
  exact .inl ⟨Nat.le_refl _, hd σ H p⟩
end L2
set_option maxHeartbeats 4000000
namespace My
open PySem PySem.Spec PyProof.Rows L2
local macro_rules | `(tactic| walk_at "side") => `(tactic| first | omega | (dsimp only; omega) | (simp only [CDiv, CDivB, CPow, CMul]; omega) | decide)
local macro_rules | `(tactic| walk_at "rd") => `(tactic| repeat (first | (refine ⟨_, rfl, ?_⟩) | (refine ⟨_, _, rfl, rfl, ?_⟩) | (refine ⟨rfl, ?_⟩) | (refine ⟨(by walk_at "side"), ?_⟩)))
def top (i : Nat) : Stmt := PySem.Challenge.pw_bridgefind_k27_bridges_told.main.body.getD i (.Pass ⟨0, 0, 0, 0⟩)
abbrev zej : Stmt := top 2
abbrev zbc : Stmt := top 3
abbrev zaH : Stmt := top 6
abbrev zci : Stmt := top 7
abbrev zcj : Stmt := top 8
abbrev zaW : Stmt := top 10
abbrev zaX : Stmt := top 11
abbrev zbU : Stmt := top 12
abbrev zdd : Stmt := top 13
abbrev zco : Stmt := top 14
abbrev zbs : Stmt := top 16
abbrev zbW : Stmt := top 17
abbrev zaQ : Stmt := top 19
abbrev zay : Stmt := top 20
abbrev zbd : Stmt := top 21
abbrev zbN : Stmt := top 23
abbrev za9 : Stmt := top 24
abbrev zaZ : Stmt := top 25
abbrev zbV : Stmt := top 26
abbrev zbT : Stmt := top 28
abbrev zbQ : Stmt := top 29
abbrev zcl : Stmt := top 30
abbrev zdf : Stmt := top 31
abbrev zck : Stmt := top 32
abbrev zde : Stmt := top 33
abbrev zcm : Stmt := top 34
abbrev zaY : Stmt := top 35
abbrev zcn : Stmt := top 36
abbrev zbq : Stmt := top 37
abbrev zbb : Stmt := top 38
abbrev zbR : Stmt := top 39
abbrev zbS : Stmt := top 40
abbrev zbO : Stmt := top 41
abbrev zbr : Stmt := top 42
abbrev zdg : Stmt := top 43
abbrev zba : Stmt := top 44
abbrev zbP : Stmt := top 45
abbrev ze2 : Stmt := top 46
theorem sc_code : zav ["entry", "key", "z"] ["entry"] (zah zej) := ⟨rfl, rfl, rfl, by decide +kernel, rfl, by decide +kernel, by decide +kernel⟩
theorem sc_joined_up : zav ["lists", "together", "entries"] ["lists"] (zah zbc) := ⟨rfl, rfl, rfl, by decide +kernel, rfl, by decide +kernel, by decide +kernel⟩
theorem sc_lowest_unlike : zav ["one", "other", "unlike"] ["one", "other"] (zah zaH) := ⟨rfl, rfl, rfl, by decide +kernel, rfl, by decide +kernel, by decide +kernel⟩
theorem sc_turned : zav ["numbers", "told", "at", "number", "figure"] ["numbers"] (zah zci) := ⟨rfl, rfl, rfl, by decide +kernel, rfl, by decide +kernel, by decide +kernel⟩
theorem sc_labels : zav ["entries", "numbers", "turn"] ["entries"] (zah zcj) := ⟨rfl, rfl, rfl, by decide +kernel, rfl, by decide +kernel, by decide +kernel⟩
theorem sc_neighbours : zav ["things", "at"] ["things", "at"] (zah zaW) := ⟨rfl, rfl, rfl, by decide +kernel, rfl, by decide +kernel, by decide +kernel⟩
theorem sc_least_free : zav ["taken"] ["taken"] (zah zaX) := ⟨rfl, rfl, rfl, by decide +kernel, rfl, by decide +kernel, by decide +kernel⟩
theorem sc_colours : zav ["numbers", "told", "label", "at"] ["numbers"] (zah zbU) := ⟨rfl, rfl, rfl, by decide +kernel, rfl, by decide +kernel, by decide +kernel⟩
theorem sc_marks : zav ["entries", "tints", "told", "colour", "at"] ["entries"] (zah zdd) := ⟨rfl, rfl, rfl, by decide +kernel, rfl, by decide +kernel, by decide +kernel⟩
theorem sc_handed : zav ["entries"] ["entries"] (zah zco) := ⟨rfl, rfl, rfl, by decide +kernel, rfl, by decide +kernel, by decide +kernel⟩
theorem sc_children : zav ["tree", "knot"] ["tree", "knot"] (zah zbs) := ⟨rfl, rfl, rfl, by decide +kernel, rfl, by decide +kernel, by decide +kernel⟩
theorem sc_beneath : zav ["tree", "knot", "told", "other"] ["tree", "knot"] (zah zbW) := ⟨rfl, rfl, rfl, by decide +kernel, rfl, by decide +kernel, by decide +kernel⟩
theorem sc_own_entries : zav ["stand", "knot"] ["stand", "knot"] (zah zaQ) := ⟨rfl, rfl, rfl, by decide +kernel, rfl, by decide +kernel, by decide +kernel⟩
theorem sc_full_rows_beneath : zav ["stand", "knot", "tree", "told", "at", "parts"] ["stand", "knot"] (zah zay) := ⟨rfl, rfl, rfl, by decide +kernel, rfl, by decide +kernel, by decide +kernel⟩
theorem sc_full_rows : zav ["stand", "told"] ["stand"] (zah zbd) := ⟨rfl, rfl, rfl, by decide +kernel, rfl, by decide +kernel, by decide +kernel⟩
theorem sc_owns_of : zav ["full", "knot", "told", "entry"] ["full", "knot"] (zah zbN) := ⟨rfl, rfl, rfl, by decide +kernel, rfl, by decide +kernel, by decide +kernel⟩
theorem sc_starts_of : zav ["full", "child_full", "behind", "at", "entry", "told"] ["full", "child_full"] (zah za9) := ⟨rfl, rfl, rfl, by decide +kernel, rfl, by decide +kernel, by decide +kernel⟩
theorem sc_bridges_of : zav ["tree", "fulls", "told", "knot", "full", "jumps"] ["tree", "fulls"] (zah zaZ) := ⟨rfl, rfl, rfl, by decide +kernel, rfl, by decide +kernel, by decide +kernel⟩
theorem sc_bridges : zav ["stand"] ["stand"] (zah zbV) := ⟨rfl, rfl, rfl, by decide +kernel, rfl, by decide +kernel, by decide +kernel⟩
theorem sc_l_begin : zav ["_law_script"] ["_law_script"] (zah zbT) := ⟨rfl, rfl, rfl, by decide +kernel, rfl, by decide +kernel, by decide +kernel⟩
theorem sc_l_mixed : zav ["_law_cell", "_law_k", "_law_one", "_law_two"] ["_law_cell", "_law_k"] (zah zbQ) := ⟨rfl, rfl, rfl, by decide +kernel, rfl, by decide +kernel, by decide +kernel⟩
theorem sc_l_take : zav ["_law_state", "_law_most", "_law_k", "_law_script", "_law_cell", "_law_found"] ["_law_state", "_law_most"] (zah zcl) := ⟨rfl, rfl, rfl, by decide +kernel, rfl, by decide +kernel, by decide +kernel⟩
theorem sc_l_key : zav ["_law_state", "_law_way"] ["_law_state"] (zah zdf) := ⟨rfl, rfl, rfl, by decide +kernel, rfl, by decide +kernel, by decide +kernel⟩
theorem sc_l_tree : zav ["_law_state", "_law_most", "_law_way", "_law_parents", "_law_k"] ["_law_state", "_law_most"] (zah zck) := ⟨rfl, rfl, rfl, by decide +kernel, rfl, by decide +kernel, by decide +kernel⟩
theorem sc_l_row : zav ["_law_state", "_law_most", "_law_found", "_law_k"] ["_law_state", "_law_most"] (zah zde) := ⟨rfl, rfl, rfl, by decide +kernel, rfl, by decide +kernel, by decide +kernel⟩
theorem sc_l_rows : zav ["_law_state", "_law_many", "_law_most", "_law_rows_here", "_law_k", "_law_row_here"] ["_law_state", "_law_many", "_law_most"] (zah zcm) := ⟨rfl, rfl, rfl, by decide +kernel, rfl, by decide +kernel, by decide +kernel⟩
theorem sc_l_children : zav ["_law_tree_here", "_law_knot"] ["_law_tree_here", "_law_knot"] (zah zaY) := ⟨rfl, rfl, rfl, by decide +kernel, rfl, by decide +kernel, by decide +kernel⟩
theorem sc_l_code : zav ["_law_entry", "_law_key_here", "_law_knot"] ["_law_entry"] (zah zcn) := ⟨rfl, rfl, rfl, by decide +kernel, rfl, by decide +kernel, by decide +kernel⟩
theorem sc_l_turned : zav ["_law_numbers_here", "_law_found", "_law_k", "_law_one", "_law_other", "_law_b"] ["_law_numbers_here"] (zah zbq) := ⟨rfl, rfl, rfl, by decide +kernel, rfl, by decide +kernel, by decide +kernel⟩
theorem sc_l_colours : zav ["_law_numbers_here", "_law_found", "_law_high", "_law_at", "_law_k", "_law_beside"] ["_law_numbers_here"] (zah zbb) := ⟨rfl, rfl, rfl, by decide +kernel, rfl, by decide +kernel, by decide +kernel⟩
theorem sc_l_marks : zav ["_law_entries", "_law_numbers_here", "_law_k", "_law_shades", "_law_found", "_law_shade"] ["_law_entries"] (zah zbR) := ⟨rfl, rfl, rfl, by decide +kernel, rfl, by decide +kernel, by decide +kernel⟩
theorem sc_l_fulls : zav ["_law_tree_here", "_law_rows_here", "_law_found", "_law_k", "_law_up", "_law_entry", "_law_is_on"] ["_law_tree_here", "_law_rows_here"] (zah zbS) := ⟨rfl, rfl, rfl, by decide +kernel, rfl, by decide +kernel, by decide +kernel⟩
theorem sc_l_stand : zav ["_law_state", "_law_most", "_law_keys", "_law_tree_here"] ["_law_state", "_law_most", "_law_keys"] (zah zbO) := ⟨rfl, rfl, rfl, by decide +kernel, rfl, by decide +kernel, by decide +kernel⟩
theorem sc_l_starts : zav ["_law_entries", "_law_child", "_law_passes", "_law_behind", "_law_at", "_law_found", "_law_entry"] ["_law_entries", "_law_child", "_law_passes"] (zah zbr) := ⟨rfl, rfl, rfl, by decide +kernel, rfl, by decide +kernel, by decide +kernel⟩
theorem sc_l_due : zav ["_law_tree_here", "_law_rows_here", "_law_fulls_here", "_law_found", "_law_knot", "_law_owns", "_law_entry", "_law_jumps", "_law_child"] ["_law_tree_here", "_law_rows_here"] (zah zdg) := ⟨rfl, rfl, rfl, by decide +kernel, rfl, by decide +kernel, by decide +kernel⟩
theorem sc_l_numbers : zav ["_law_some"] ["_law_some"] (zah zba) := ⟨rfl, rfl, rfl, by decide +kernel, rfl, by decide +kernel, by decide +kernel⟩
theorem sc_l_right : zav ["_law_found", "_law_due_here", "_law_one", "_law_jump"] ["_law_found", "_law_due_here"] (zah zbP) := ⟨rfl, rfl, rfl, by decide +kernel, rfl, by decide +kernel, by decide +kernel⟩
theorem sc_law : zav ["_law_script", "_law_state", "_law_tree_here", "_law_rows_here", "_law_due_here", "_law_stand_here", "_law_found", "_law_one", "_law_jump", "_law_beside"] ["_law_script"] (zah ze2) := ⟨rfl, rfl, rfl, by decide +kernel, rfl, by decide +kernel, by decide +kernel⟩
abbrev zeG : List Str := ["entry"]
abbrev zbJ : List Str := ["lists"]
abbrev zaU : List Str := ["one", "other"]
abbrev zc2 : List Str := ["numbers"]
abbrev zc3 : List Str := ["entries"]
abbrev zbf : List Str := ["things", "at"]
abbrev zbt : List Str := ["taken"]
abbrev zcB : List Str := ["numbers"]
abbrev zdL : List Str := ["entries"]
abbrev zc6 : List Str := ["entries"]
abbrev zbE : List Str := ["tree", "knot"]
abbrev zcD : List Str := ["tree", "knot"]
abbrev zbj : List Str := ["stand", "knot"]
abbrev zaJ : List Str := ["stand", "knot"]
abbrev zbK : List Str := ["stand"]
abbrev zcv : List Str := ["full", "knot"]
abbrev zbG : List Str := ["full", "child_full"]
abbrev zbv : List Str := ["tree", "fulls"]
abbrev zcC : List Str := ["stand"]
abbrev zcA : List Str := ["_law_script"]
abbrev zcy : List Str := ["_law_cell", "_law_k"]
abbrev zbX : List Str := ["_law_state", "_law_most"]
abbrev zdN : List Str := ["_law_state"]
abbrev zc4 : List Str := ["_law_state", "_law_most"]
abbrev zdM : List Str := ["_law_state", "_law_most"]
abbrev zcN : List Str := ["_law_state", "_law_many", "_law_most"]
abbrev zbu : List Str := ["_law_tree_here", "_law_knot"]
abbrev zc5 : List Str := ["_law_entry"]
abbrev zb0 : List Str := ["_law_numbers_here"]
abbrev zbI : List Str := ["_law_numbers_here"]
abbrev zb2 : List Str := ["_law_entries"]
abbrev zcz : List Str := ["_law_tree_here", "_law_rows_here"]
abbrev zcw : List Str := ["_law_state", "_law_most", "_law_keys"]
abbrev zb1 : List Str := ["_law_entries", "_law_child", "_law_passes"]
abbrev zdO : List Str := ["_law_tree_here", "_law_rows_here"]
abbrev zbH : List Str := ["_law_some"]
abbrev zcx : List Str := ["_law_found", "_law_due_here"]
abbrev zfL : List Str := ["_law_script"]
structure Txt (K : PySem.W.Frag) (mg : Str → Option Value) : Prop where
 m_abs : mg "abs" = none
 m_all : mg "all" = none
 m_bool : mg "bool" = none
 m_enumerate : mg "enumerate" = none
 m_int : mg "int" = none
 m_isinstance : mg "isinstance" = none
 m_len : mg "len" = none
 m_list : mg "list" = none
 m_max : mg "max" = none
 m_min : mg "min" = none
 m_range : mg "range" = none
 m_reversed : mg "reversed" = none
 m_sorted : mg "sorted" = none
 m_tuple : mg "tuple" = none
 m_zip : mg "zip" = none
 g_KNOT_NUMBERS : ∃ t, mg "KNOT_NUMBERS" = some (.int 64 t)
 g_TURNS : ∃ t, mg "TURNS" = some (.int 5 t)
theorem zhD (m n i j : Nat) (hi : i < 2) (hj : j < 2) : (2*m+i) &&& (2*n+j) = 2*(m &&& n) + (i &&& j) := by
 apply Nat.eq_of_testBit_eq
 intro k
 cases k with
 | zero =>
  have h1 : i = 0 ∨ i = 1 := by omega
  have h2 : j = 0 ∨ j = 1 := by omega
  rcases h1 with rfl | rfl <;> rcases h2 with rfl | rfl <;> simp [Nat.testBit_zero] <;> omega
 | succ k =>
  have h1 : i = 0 ∨ i = 1 := by omega
  have h2 : j = 0 ∨ j = 1 := by omega
  have e1 : (2*m+i)/2 = m := by omega
  have e2 : (2*n+j)/2 = n := by omega
  have e3 : (2*(m &&& n) + (i &&& j))/2 = m &&& n := by
   rcases h1 with rfl | rfl <;> rcases h2 with rfl | rfl <;> simp <;> omega
  rw [Nat.testBit_and, Nat.testBit_succ, Nat.testBit_succ, Nat.testBit_succ, e1, e2, e3, Nat.testBit_and]
theorem lor_tt (m n i j : Nat) (hi : i < 2) (hj : j < 2) : (2*m+i) ||| (2*n+j) = 2*(m ||| n) + (i ||| j) := by
 apply Nat.eq_of_testBit_eq
 intro k
 cases k with
 | zero =>
  have h1 : i = 0 ∨ i = 1 := by omega
  have h2 : j = 0 ∨ j = 1 := by omega
  rcases h1 with rfl | rfl <;> rcases h2 with rfl | rfl <;> simp [Nat.testBit_zero] <;> omega
 | succ k =>
  have h1 : i = 0 ∨ i = 1 := by omega
  have h2 : j = 0 ∨ j = 1 := by omega
  have e1 : (2*m+i)/2 = m := by omega
  have e2 : (2*n+j)/2 = n := by omega
  have e3 : (2*(m ||| n) + (i ||| j))/2 = m ||| n := by
   rcases h1 with rfl | rfl <;> rcases h2 with rfl | rfl <;> simp <;> omega
  rw [Nat.testBit_or, Nat.testBit_succ, Nat.testBit_succ, Nat.testBit_succ, e1, e2, e3, Nat.testBit_or]
def lu (a b : Nat) : Nat := if a = b then 0 else if a % 2 = b % 2 then lu (a / 2) (b / 2) + 1 else 0
termination_by a + b
decreasing_by omega
theorem zgr {a b : Nat} (hab : a ≠ b) (h : a % 2 = b % 2) : lu a b = lu (a / 2) (b / 2) + 1 := by
 rw [lu, if_neg hab, if_pos h]
theorem ziz {a b : Nat} (h : a % 2 ≠ b % 2) : lu a b = 0 := by
 rw [lu]; split
 ·rfl
 ·rfl
def xr (a b : Nat) : Nat := (a ||| b) - (a &&& b)
def zeX (n : Nat) : Nat := n - (n &&& (n - 1))
theorem zhj (a b : Nat) : a &&& b ≤ a ||| b := Nat.le_trans Nat.and_le_left Nat.left_le_or
theorem xr_tt (m n i j : Nat) (hi : i < 2) (hj : j < 2) : xr (2*m+i) (2*n+j) = 2 * xr m n + (if i = j then 0 else 1) := by
 unfold xr
 rw [lor_tt m n i j hi hj, zhD m n i j hi hj]
 have q := zhj m n
 have h1 : i = 0 ∨ i = 1 := by omega
 have h2 : j = 0 ∨ j = 1 := by omega
 rcases h1 with rfl | rfl <;> rcases h2 with rfl | rfl <;> simp <;> omega
theorem zjn (a b : Nat) : xr a b = 2 * xr (a / 2) (b / 2) + (if a % 2 = b % 2 then 0 else 1) := by
 have e1 : 2 * (a / 2) + a % 2 = a := by omega
 have e2 : 2 * (b / 2) + b % 2 = b := by omega
 have q := xr_tt (a / 2) (b / 2) (a % 2) (b % 2) (by omega) (by omega)
 rw [e1, e2] at q
 exact q
theorem xr_pos : ∀ (n a b : Nat), a + b ≤ n → a ≠ b → 0 < xr a b := by
 intro n
 induction n with
 | zero => intro a b h1 h2; omega
 | succ n ih =>
  intro a b h1 h2
  rw [zjn]
  by_cases h : a % 2 = b % 2
  ·have := ih (a / 2) (b / 2) (by omega) (by omega)
   omega
  ·rw [if_neg h]; omega
theorem low_odd (m : Nat) : zeX (2 * m + 1) = 1 := by
 unfold zeX
 have q := zhD m m 1 0 (by omega) (by omega)
 have e : 2 * m + 1 - 1 = 2 * m + 0 := by omega
 rw [e, q]
 simp
theorem low_even (m : Nat) (h : 0 < m) : zeX (2 * m) = 2 * zeX m := by
 unfold zeX
 have q := zhD m (m - 1) 0 1 (by omega) (by omega)
 have e : 2 * m - 1 = 2 * (m - 1) + 1 := by omega
 have e' : 2 * m = 2 * m + 0 := by omega
 rw [e]
 have : (2 * m &&& 2 * (m - 1) + 1) = 2 * (m &&& m - 1) + (0 &&& 1) := q
 rw [this]
 have z : m &&& (m - 1) ≤ m := Nat.and_le_left
 simp
 omega
theorem low_xr : ∀ (n a b : Nat), a + b ≤ n → a ≠ b → zeX (xr a b) = 2 ^ lu a b := by
 intro n
 induction n with
 | zero => intro a b h1 h2; omega
 | succ n ih =>
  intro a b h1 h2
  rw [zjn]
  by_cases h : a % 2 = b % 2
  ·rw [if_pos h, zgr h2 h, Nat.add_zero, low_even _ (xr_pos n _ _ (by omega) (by omega)), ih _ _ (by omega) (by omega), Nat.pow_succ]
   omega
  ·rw [if_neg h, ziz h, low_odd, Nat.pow_zero]
theorem lu_same : ∀ (n a b : Nat), a + b ≤ n → a ≠ b → a % 2 ^ lu a b = b % 2 ^ lu a b ∧ a % 2 ^ (lu a b + 1) ≠ b % 2 ^ (lu a b + 1) := by
 intro n
 induction n with
 | zero => intro a b h1 h2; omega
 | succ n ih =>
  intro a b h1 h2
  by_cases h : a % 2 = b % 2
  ·rw [zgr h2 h]
   obtain ⟨q1, q2⟩ := ih (a / 2) (b / 2) (by omega) (by omega)
   have s : ∀ x k : Nat, x % 2 ^ (k + 1) = 2 * (x / 2 % 2 ^ k) + x % 2 := by
    intro x k
    rw [Nat.pow_succ, Nat.mul_comm, Nat.mod_mul]
    omega
   rw [s a, s b, s a, s b]
   constructor
   ·omega
   ·omega
  ·rw [ziz h]
   simp [Nat.mod_one]
   omega
theorem lu_lt : ∀ (k a b : Nat), a ≠ b → a < 2 ^ k → b < 2 ^ k → lu a b < k := by
 intro k
 induction k with
 | zero => intro a b h1 h2 h3; simp at h2 h3; omega
 | succ k ih =>
  intro a b h1 h2 h3
  by_cases h : a % 2 = b % 2
  ·rw [zgr h1 h]
   have := ih (a / 2) (b / 2) (by omega) (by rw [Nat.pow_succ] at h2; omega) (by rw [Nat.pow_succ] at h3; omega)
   omega
  ·rw [ziz h]; omega
def fig (a b : Nat) : Nat := 2 * lu a b + b / 2 ^ lu a b % 2
theorem zgy (a b : Nat) : fig a b / 2 = lu a b := by
 unfold fig
 have := Nat.mod_lt (b / 2 ^ lu a b) (by decide : 0 < 2)
 omega
theorem zhQ (a b : Nat) : fig a b % 2 = b / 2 ^ lu a b % 2 := by
 unfold fig
 have := Nat.mod_lt (b / 2 ^ lu a b) (by decide : 0 < 2)
 omega
theorem zeT (x k : Nat) : x % 2 ^ (k + 1) = x % 2 ^ k + 2 ^ k * (x / 2 ^ k % 2) := by
 rw [Nat.pow_succ, Nat.mod_mul]
theorem lu_bit {a b : Nat} (h : a ≠ b) : a / 2 ^ lu a b % 2 ≠ b / 2 ^ lu a b % 2 := by
 obtain ⟨h1, h2⟩ := lu_same _ a b (Nat.le_refl _) h
 intro e
 apply h2
 rw [zeT, zeT, h1, e]
theorem fig_ne {a b c : Nat} (h2 : b ≠ c) : fig a b ≠ fig b c := by
 intro e
 have e1 : lu a b = lu b c := by rw [← zgy, e, zgy]
 have e2 : b / 2 ^ lu a b % 2 = c / 2 ^ lu b c % 2 := by rw [← zhQ, e, zhQ]
 rw [e1] at e2
 exact lu_bit h2 e2
theorem fig_ne0 {a b : Nat} (h : a ≠ b) : a % 2 ≠ fig a b := by
 intro e
 have l : a % 2 < 2 := Nat.mod_lt _ (by decide)
 have e1 : lu a b = 0 := by
  have := zgy a b
  omega
 have e2 := zhQ a b
 have e3 := lu_bit h
 rw [e1] at e2 e3
 simp at e2 e3
 omega
theorem fig_lt {a b k : Nat} (h : a ≠ b) (ha : a < 2 ^ k) (hb : b < 2 ^ k) : fig a b < 2 * k := by
 have := lu_lt k a b h ha hb
 have := Nat.mod_lt (b / 2 ^ lu a b) (by decide : 0 < 2)
 unfold fig
 omega
def zcU (xs : List Nat) (i : Nat) : Nat := if i = 0 then xs.getD 0 0 % 2 else fig (xs.getD (i - 1) 0) (xs.getD i 0)
def zb9 (xs : List Nat) : List Nat := (List.range xs.length).map (zcU xs)
theorem zaV (xs : List Nat) : (zb9 xs).length = xs.length := by unfold zb9; rw [List.length_map, List.length_range]
theorem ze8 {xs : List Nat} {i : Nat} (h : i < xs.length) : (zb9 xs)[i]? = some (zcU xs i) := by
 unfold zb9
 rw [List.getElem?_map, List.getElem?_range h]
 rfl
theorem zeA {xs : List Nat} {i : Nat} (h : i < xs.length) : (zb9 xs).getD i 0 = zcU xs i := by
 rw [List.getD_eq_getElem?_getD, ze8 h]; rfl
theorem zfG {xs : List Nat} {i : Nat} (h : i < xs.length) : (zb9 xs).take (i + 1) = (zb9 xs).take i ++ [zcU xs i] := by
 have h' : i < (zb9 xs).length := by rw [zaV]; exact h
 rw [List.take_succ_eq_append_getElem h']
 have := ze8 h
 rw [List.getElem?_eq_getElem h'] at this
 rw [Option.some.inj this]
def Unl (xs : List Nat) : Prop := ∀ i, i + 1 < xs.length → xs.getD i 0 ≠ xs.getD (i + 1) 0
theorem zjy {xs : List Nat} (h : Unl xs) : Unl (zb9 xs) := by
 intro i hi
 rw [zaV] at hi
 rw [zeA (by omega), zeA hi]
 unfold zcU
 rw [if_neg (by omega : ¬ i + 1 = 0), Nat.add_sub_cancel]
 by_cases h0 : i = 0
 ·subst h0
  rw [if_pos rfl]
  exact fig_ne0 (h 0 hi)
 ·rw [if_neg h0]
  exact fig_ne (h i hi)
def zdI (m : Nat) (xs : List Nat) : Prop := ∀ i, i < xs.length → xs.getD i 0 < m
theorem zcK {xs : List Nat} {k : Nat} (hk : 1 ≤ k) (h : Unl xs) (hb : zdI (2 ^ k) xs) : zdI (2 * k) (zb9 xs) := by
 intro i hi
 rw [zaV] at hi
 rw [zeA hi]
 unfold zcU
 split
 ·have : xs.getD 0 0 % 2 < 2 := Nat.mod_lt _ (by decide)
  omega
 ·have := h (i - 1) (by omega)
  rw [show i - 1 + 1 = i by omega] at this
  exact fig_lt this (hb _ (by omega)) (hb _ hi)
theorem xor_nat (a b : Nat) : Builtin.bitXor (a : Int) (b : Int) = ((xr a b : Nat) : Int) := by
 have h1 : Builtin.bitAnd (a : Int) (b : Int) = ((a &&& b : Nat) : Int) := by
  unfold Builtin.bitAnd
  rw [decide_eq_true (Int.natCast_nonneg a), decide_eq_true (Int.natCast_nonneg b)]
  rfl
 have n1 : ¬ (0 : Int) ≤ Builtin.bitNot (a : Int) := by unfold Builtin.bitNot; omega
 have n2 : ¬ (0 : Int) ≤ Builtin.bitNot (b : Int) := by unfold Builtin.bitNot; omega
 have h2 : Builtin.bitOr (a : Int) (b : Int) = ((a ||| b : Nat) : Int) := by
  unfold Builtin.bitOr Builtin.bitAnd
  rw [decide_eq_false n1, decide_eq_false n2]
  have e : ∀ x : Int, Builtin.bitNot (Builtin.bitNot x) = x := fun x => by unfold Builtin.bitNot; omega
  show Builtin.bitNot (Builtin.bitNot _) = _
  rw [e, e, e]
  rfl
 unfold Builtin.bitXor xr
 rw [h1, h2]
 have := zhj a b
 omega
theorem and_neg (n : Nat) (h : 0 < n) : Builtin.bitAnd (n : Int) (-(n : Int)) = ((zeX n : Nat) : Int) := by
 have n2 : ¬ (0 : Int) ≤ -(n : Int) := by omega
 have e : (Builtin.bitNot (-(n : Int))).toNat = n - 1 := by unfold Builtin.bitNot; omega
 unfold Builtin.bitAnd zeX
 rw [decide_eq_true (Int.natCast_nonneg n), decide_eq_false n2]
 show (n : Int) - (((n : Int).toNat &&& (Builtin.bitNot (-(n : Int))).toNat : Nat) : Int) = _
 rw [e, Int.toNat_natCast]
 have : n &&& (n - 1) ≤ n := Nat.and_le_left
 omega
theorem low_is (a b : Nat) (h : a ≠ b) : ((Builtin.Int.intBits (Builtin.bitAnd (Builtin.bitXor (a : Int) (b : Int)) (-(Builtin.bitXor (a : Int) (b : Int)))) : Nat) : Int) - 1 = ((lu a b : Nat) : Int) := by
 rw [xor_nat, and_neg _ (xr_pos _ a b (Nat.le_refl _) h), low_xr _ a b (Nat.le_refl _) h]
 unfold Builtin.Int.intBits
 have p : 0 < 2 ^ lu a b := Nat.two_pow_pos _
 rw [if_neg (by
  intro z
  have z' := eq_of_beq z
  omega), Int.natAbs_natCast, Nat.log2_two_pow]
 omega
def atZ {α : Type} (l : List α) (i : Int) : Option α := if 0 ≤ i then l[i.toNat]? else none
theorem zdH {α : Type} (l : List α) (i : Nat) : atZ l (i : Int) = l[i]? := by
 unfold atZ
 rw [if_pos (Int.natCast_nonneg i), Int.toNat_natCast]
theorem zh0 {α : Type} {l : List α} {i : Int} (h : i < 0) : atZ l i = none := by
 unfold atZ
 rw [if_neg (by omega)]
theorem ziU {α : Type} {l : List α} {i : Int} {x : α} (h : atZ l i = some x) : 0 ≤ i ∧ i < l.length := by
 unfold atZ at h
 split at h
 ·have := (List.getElem?_eq_some_iff.mp h).1
  omega
 ·cases h
def zjf {α β : Type} (f : Option α → α → Option α → β) : Option α → List α → List β
 | _, [] => []
 | p, x :: l => f p x l.head? :: zjf f (some x) l
def mapW {α β : Type} (f : Option α → α → Option α → β) (l : List α) : List β := zjf f none l
theorem zc9 {α β : Type} (f : Option α → α → Option α → β) : ∀ (l : List α) (p : Option α) (k : Nat), (zjf f p l)[k]? = l[k]?.map fun x => f (if k = 0 then p else l[k - 1]?) x l[k + 1]?
 | [], _, _ => rfl
 | x :: l, p, 0 => by
  show some (f p x l.head?) = some (f p x l[0]?)
  rw [List.head?_eq_getElem?]
 | x :: l, p, k + 1 => by
  show (zjf f (some x) l)[k]? = l[k]?.map fun y => f (x :: l)[k]? y l[k + 1]?
  rw [zc9 f l (some x) k]
  cases k with
  | zero => rfl
  | succ k => rfl
theorem zeW {α β : Type} (f : Option α → α → Option α → β) : ∀ (l : List α) (p : Option α), (zjf f p l).length = l.length
 | [], _ => rfl
 | x :: l, p => by
  show (zjf f (some x) l).length + 1 = l.length + 1
  rw [zeW f l]
theorem zb3 {α β : Type} (f : Option α → α → Option α → β) (l : List α) : (mapW f l).length = l.length := zeW f l none
theorem zeI {α β : Type} (f : Option α → α → Option α → β) (l : List α) (i : Int) : atZ (mapW f l) i = (atZ l i).map fun x => f (atZ l (i - 1)) x (atZ l (i + 1)) := by
 by_cases h : 0 ≤ i
 ·obtain ⟨k, rfl⟩ : ∃ k : Nat, i = (k : Int) := ⟨i.toNat, by omega⟩
  rw [zdH, zdH, mapW, zc9, show ((k : Int) + 1) = ((k + 1 : Nat) : Int) by omega, zdH]
  have e : atZ l ((k : Int) - 1) = if k = 0 then none else l[k - 1]? := by
   split
   ·rw [zh0 (by omega)]
   ·rw [show ((k : Int) - 1) = ((k - 1 : Nat) : Int) by omega, zdH]
  rw [e]
 ·rw [zh0 (l := mapW f l) (by omega), zh0 (l := l) (i := i) (by omega)]
  rfl
def Near {α : Type} (a b : Int) (l m : List α) (i j : Int) : Prop := ∀ d : Int, a ≤ d → d ≤ b → atZ l (i + d) = atZ m (j + d)
theorem Near.mapW {α β : Type} {f : Option α → α → Option α → β} {a b : Int} {l m : List α} {i j : Int} (h : Near (a - 1) (b + 1) l m i j) : Near a b (mapW f l) (mapW f m) i j := by
 intro d h1 h2
 rw [zeI, zeI, h d (by omega) (by omega)]
 have e1 := h (d - 1) (by omega) (by omega)
 have e2 := h (d + 1) (by omega) (by omega)
 rw [show i + d - 1 = i + (d - 1) by omega, show j + d - 1 = j + (d - 1) by omega, show i + d + 1 = i + (d + 1) by omega, show j + d + 1 = j + (d + 1) by omega, e1, e2]
theorem Near.mono {α : Type} {a b a' b' : Int} {l m : List α} {i j : Int} (h : Near a b l m i j) (h1 : a ≤ a') (h2 : b' ≤ b) : Near a' b' l m i j := fun d x y => h d (by omega) (by omega)
theorem Near.map {α β : Type} {f : α → β} {a b : Int} {l m : List α} {i j : Int} (h : Near a b l m i j) : Near a b (l.map f) (m.map f) i j := by
 have e : ∀ (l : List α) (i : Int), atZ (l.map f) i = (atZ l i).map f := fun l i => by
  unfold atZ
  split
  ·rw [List.getElem?_map]
  ·rfl
 intro d h1 h2
 rw [e, e, h d h1 h2]
def turnF (p : Option Nat) (x : Nat) (_ : Option Nat) : Nat := match p with
 | none => x % 2
 | some y => fig y x
theorem zfH (xs : List Nat) : zb9 xs = mapW turnF xs := by
 apply List.ext_getElem?
 intro k
 by_cases h : k < xs.length
 ·rw [ze8 h, mapW, zc9, List.getElem?_eq_getElem h]
  unfold zcU turnF
  cases k with
  | zero => simp [List.getD_eq_getElem?_getD, List.getElem?_eq_getElem h]
  | succ k => simp [List.getD_eq_getElem?_getD, List.getElem?_eq_getElem h, List.getElem?_eq_getElem (show k < xs.length by omega)]
 ·rw [List.getElem?_eq_none (by rw [zaV]; omega), List.getElem?_eq_none (by rw [zb3]; omega)]
theorem Near.turn {a b : Int} {l m : List Nat} {i j : Int} (h : Near (a - 1) b l m i j) : Near a b (zb9 l) (zb9 m) i j := by
 rw [zfH, zfH]
 intro d h1 h2
 rw [zeI, zeI, h d (by omega) (by omega)]
 have e1 := h (d - 1) (by omega) (by omega)
 rw [show i + d - 1 = i + (d - 1) by omega, show j + d - 1 = j + (d - 1) by omega, e1]
 cases atZ m (j + d) <;> rfl
def UnlZ (xs : List Nat) : Prop := ∀ (i : Int) (x y : Nat), atZ xs i = some x → atZ xs (i + 1) = some y → x ≠ y
theorem unlZ {xs : List Nat} (h : Unl xs) : UnlZ xs := by
 intro i x y hx hy
 obtain ⟨a, b⟩ := ziU hx
 obtain ⟨_, c⟩ := ziU hy
 obtain ⟨k, rfl⟩ : ∃ k : Nat, i = (k : Int) := ⟨i.toNat, by omega⟩
 rw [zdH] at hx
 rw [show ((k : Int) + 1) = ((k + 1 : Nat) : Int) by omega, zdH] at hy
 have := h k (by omega)
 rw [List.getD_eq_getElem?_getD, List.getD_eq_getElem?_getD, hx, hy] at this
 exact this
theorem zju {xs : List Nat} (h : UnlZ xs) : Unl xs := by
 intro k hk
 have := h k xs[k] xs[k + 1] (by rw [zdH]; exact List.getElem?_eq_getElem (by omega)) (by rw [show ((k : Int) + 1) = ((k + 1 : Nat) : Int) by omega, zdH]; exact List.getElem?_eq_getElem hk)
 rw [List.getD_eq_getElem?_getD, List.getD_eq_getElem?_getD, List.getElem?_eq_getElem (show k < xs.length by omega), List.getElem?_eq_getElem hk]
 exact this
def ze3 (p n : Option Nat) : Nat := if p ≠ some 0 ∧ n ≠ some 0 then 0 else if p ≠ some 1 ∧ n ≠ some 1 then 1 else 2
theorem free3_le (p n : Option Nat) : ze3 p n ≤ 2 := by
 unfold ze3
 split
 ·omega
 ·split <;> omega
theorem zeL {p n : Option Nat} {x : Nat} (h : p = some x) : ze3 p n ≠ x := by
 subst h
 unfold ze3
 split
 ·rename_i c
  intro z
  exact c.1 (by rw [← z])
 ·split
  ·rename_i c
   intro z
   exact c.1 (by rw [← z])
  ·rename_i c d
   intro z
   subst z
   have c1 : n = some 0 := Decidable.byContradiction fun q => c ⟨by decide, q⟩
   have d1 : n = some 1 := Decidable.byContradiction fun q => d ⟨by decide, q⟩
   rw [c1] at d1
   cases d1
theorem zjj (p n : Option Nat) : ze3 p n = ze3 n p := by
 unfold ze3
 simp only [And.comm]
theorem zfY {p n : Option Nat} {x : Nat} (h : n = some x) : ze3 p n ≠ x := by
 rw [zjj]
 exact zeL h
def recF (v : Nat) (p : Option Nat) (x : Nat) (n : Option Nat) : Nat := if x = v then ze3 p n else x
def recL (v : Nat) (xs : List Nat) : List Nat := mapW (recF v) xs
theorem zbe (v : Nat) (xs : List Nat) : (recL v xs).length = xs.length := zb3 _ _
theorem ze5 {v : Nat} {xs : List Nat} (h : UnlZ xs) : UnlZ (recL v xs) := by
 intro i x y hx hy
 unfold recL at hx hy
 rw [zeI] at hx hy
 cases ex : atZ xs i with
 | none => rw [ex] at hx; cases hx
 | some x0 =>
  cases ey : atZ xs (i + 1) with
  | none => rw [ey] at hy; cases hy
  | some y0 =>
   rw [ex] at hx
   rw [ey] at hy
   have hx : x = recF v (atZ xs (i - 1)) x0 (atZ xs (i + 1)) := (Option.some.inj hx).symm
   have hy : y = recF v (atZ xs (i + 1 - 1)) y0 (atZ xs (i + 1 + 1)) := (Option.some.inj hy).symm
   have n0 := h i x0 y0 ex ey
   have e1 : i + 1 - 1 = i := by omega
   unfold recF at hx hy
   rw [e1, ex] at hy
   rw [ey] at hx
   split at hx
   ·rename_i c
    split at hy
    ·rename_i c'
     omega
    ·rw [hx, hy]
     exact zfY rfl
   ·split at hy
    ·rw [hx, hy]
     exact (zeL rfl).symm
    ·omega
def colL (xs : List Nat) : List Nat := recL 5 (recL 4 (recL 3 xs))
theorem zec (xs : List Nat) : (colL xs).length = xs.length := by
 unfold colL
 rw [zbe, zbe, zbe]
theorem ziQ {xs : List Nat} (h : UnlZ xs) : UnlZ (colL xs) := ze5 (ze5 (ze5 h))
def markF (sh : Nat) (p : Option (Nat × Bool)) (x : Nat × Bool) (n : Option (Nat × Bool)) : Nat × Bool :=
 (x.1, x.2 || (decide (x.1 = sh) && p.isSome && !(p.map (·.2)).getD false && !(n.map (·.2)).getD false))
def zeH (sh : Nat) (l : List (Nat × Bool)) : List (Nat × Bool) := mapW (markF sh) l
def start (c : List Nat) : List (Nat × Bool) := c.map fun x => (x, false)
def marked (c : List Nat) : List (Nat × Bool) := zeH 0 (zeH 1 (zeH 2 (start c)))
def zeV (c : List Nat) : List Bool := (marked c).map (·.2)
theorem zgq (c : List Nat) : (marked c).length = c.length := by
 unfold marked zeH start
 rw [zb3, zb3, zb3, List.length_map]
theorem zgp (c : List Nat) : (zeV c).length = c.length := by
 unfold zeV
 rw [List.length_map, zgq]
theorem zf8 (c : List Nat) (i : Int) : atZ (start c) i = (atZ c i).map fun x => (x, false) := by
 unfold start atZ
 split
 ·rw [List.getElem?_map]
 ·rfl
theorem zgP (c : List Nat) (i : Int) : atZ (zeH 2 (start c)) i = (atZ c i).map fun x => (x, decide (x = 2) && (atZ c (i - 1)).isSome) := by
 unfold zeH
 rw [zeI, zf8, zf8, zf8]
 cases atZ c i with
 | none => rfl
 | some x =>
  show some _ = some _
  unfold markF
  cases atZ c (i - 1) <;> cases atZ c (i + 1) <;> simp
theorem Near.marks {a b : Int} {l m : List Nat} {i j : Int} (h : Near (a - 2) (b + 2) l m i j) (hs : (atZ l (i + (a - 3))).isSome = (atZ m (j + (a - 3))).isSome) : Near a b (zeV l) (zeV m) i j := by
 refine Near.map ?_
 refine Near.mapW (Near.mapW ?_)
 intro d h1 h2
 have e := h d (by omega) (by omega)
 rw [zgP, zgP, e]
 have e' : (atZ l (i + d - 1)).isSome = (atZ m (j + d - 1)).isSome := by
  by_cases c : d = a - 2
  ·subst c
   rw [show i + (a - 2) - 1 = i + (a - 3) by omega, show j + (a - 2) - 1 = j + (a - 3) by omega]
   exact hs
  ·rw [show i + d - 1 = i + (d - 1) by omega, show j + d - 1 = j + (d - 1) by omega, h (d - 1) (by omega) (by omega)]
 rw [e']
def mkZ (l : List (Nat × Bool)) (i : Int) : Bool := ((atZ l i).map (·.2)).getD false
def clZ (l : List (Nat × Bool)) (i : Int) : Option Nat := (atZ l i).map (·.1)
structure MkOk (c : List Nat) (l : List (Nat × Bool)) : Prop where
 cl : ∀ i, clZ l i = atZ c i
 ind : ∀ i, mkZ l i = true → mkZ l (i + 1) = true → False
 fst : ∀ i, mkZ l i = true → (atZ c (i - 1)).isSome = true ∧ (atZ c i).isSome = true
structure zeP (ms : List Bool) : Prop where
 fst : ms.getD 0 false = false
 ind : ∀ i, ms.getD i false = true → ms.getD (i + 1) false = true → False
 dom : ∀ i, 1 ≤ i → i < ms.length → ms.getD (i - 1) false = true ∨ ms.getD i false = true ∨ ms.getD (i + 1) false = true
theorem zhO {p n : Option Nat} {y : Nat} (h : y < ze3 p n) : p = some y ∨ n = some y := by
 unfold ze3 at h
 split at h
 ·omega
 ·rename_i c
  have c0 : p = some 0 ∨ n = some 0 := Decidable.byContradiction fun q => c ⟨fun z => q (.inl z), fun z => q (.inr z)⟩
  split at h
  ·have : y = 0 := by omega
   subst this
   exact c0
  ·rename_i d
   have d0 : p = some 1 ∨ n = some 1 := Decidable.byContradiction fun q => d ⟨fun z => q (.inl z), fun z => q (.inr z)⟩
   have : y = 0 ∨ y = 1 := by omega
   rcases this with rfl | rfl
   ·exact c0
   ·exact d0
def zaF (xs : List Nat) (k : Nat) : List Nat := (if k = 0 then none else xs[k - 1]?).toList ++ xs[k + 1]?.toList
theorem zfs {xs : List Nat} {k y : Nat} : y ∈ zaF xs k ↔ (if k = 0 then none else xs[k - 1]?) = some y ∨ xs[k + 1]? = some y := by
 unfold zaF
 rw [List.mem_append, Option.mem_toList, Option.mem_toList]
def zcQ (xs : List Nat) (k : Nat) : Nat := ze3 (if k = 0 then none else xs[k - 1]?) xs[k + 1]?
theorem zfX {xs : List Nat} {k : Nat} : zcQ xs k ∉ zaF xs k := fun h => by
 rcases zfs.mp h with q | q
 ·exact zeL q rfl
 ·exact zfY q rfl
theorem ze0 {xs : List Nat} {k y : Nat} (h : y < zcQ xs k) : y ∈ zaF xs k := zfs.mpr (zhO h)
theorem zg6 (xs : List Nat) (k : Nat) : zcQ xs k ≤ 2 := free3_le _ _
theorem zg7 {xs : List Nat} {k : Nat} : ((List.range 3).filter fun c => !decide (c ∈ zaF xs k)).head? = some (zcQ xs k) := by
 have h1 := zfX (xs := xs) (k := k)
 have h2 := fun y => ze0 (xs := xs) (k := k) (y := y)
 have h3 := zg6 xs k
 rw [show List.range 3 = [0, 1, 2] from rfl]
 generalize zcQ xs k = f at h1 h2 h3 ⊢
 have z : f = 0 ∨ f = 1 ∨ f = 2 := by omega
 rcases z with rfl | rfl | rfl
 ·simp [List.filter, h1]
 ·simp [List.filter, h1, h2 0 (by omega)]
 ·simp [List.filter, h1, h2 0 (by omega), h2 1 (by omega)]
theorem zge {v : Nat} {xs : List Nat} {k : Nat} (h : k < xs.length) : (recL v xs)[k]? = some (if xs.getD k 0 = v then zcQ xs k else xs.getD k 0) := by
 unfold recL mapW
 rw [zc9, List.getD_eq_getElem?_getD, List.getElem?_eq_getElem h]
 rfl
def mixL (v : Nat) (xs : List Nat) (k : Nat) : List Nat := (recL v xs).take k ++ xs.drop k
theorem ziw {v : Nat} {xs : List Nat} {k : Nat} (h : xs.length ≤ k) : mixL v xs k = recL v xs := by
 unfold mixL
 rw [List.take_of_length_le (by rw [zbe]; exact h), List.drop_eq_nil_of_le h, List.append_nil]
theorem zd8 (v : Nat) (xs : List Nat) (k : Nat) : (mixL v xs k).length = xs.length := by
 unfold mixL
 rw [List.length_append, List.length_take, List.length_drop, zbe]
 omega
theorem zdP (v : Nat) (xs : List Nat) (k j : Nat) : (mixL v xs k)[j]? = if j < k then (recL v xs)[j]? else xs[j]? := by
 unfold mixL
 by_cases hk : k ≤ xs.length
 ·rw [List.getElem?_append, List.length_take, zbe, Nat.min_eq_left hk]
  split
  ·rw [List.getElem?_take]
   rw [if_pos (by assumption)]
  ·rw [List.getElem?_drop]
   congr 1
   omega
 ·rw [List.drop_eq_nil_of_le (by omega), List.append_nil, List.take_of_length_le (by rw [zbe]; omega)]
  split
  ·rfl
  ·rw [List.getElem?_eq_none (by rw [zbe]; omega), List.getElem?_eq_none (by omega)]
theorem mixL_at {v : Nat} {xs : List Nat} {k j : Nat} (h : k ≤ j) : (mixL v xs k)[j]? = xs[j]? := by
 rw [zdP, if_neg (by omega)]
theorem zgW {v : Nat} {xs : List Nat} {k : Nat} (h : k < xs.length) (hv : xs.getD k 0 ≠ v) : mixL v xs (k + 1) = mixL v xs k := by
 apply List.ext_getElem?
 intro j
 rw [zdP, zdP]
 by_cases c : j < k
 ·rw [if_pos c, if_pos (by omega)]
 ·rw [if_neg c]
  split
  ·have : j = k := by omega
   subst this
   rw [zge h, if_neg hv, List.getD_eq_getElem?_getD, List.getElem?_eq_getElem h]
   rfl
  ·rfl
theorem zfR {v : Nat} {xs : List Nat} {k m : Nat} (hkm : k ≤ m) (hm : m ≤ xs.length) (hv : ∀ j, k ≤ j → j < m → xs.getD j 0 ≠ v) : mixL v xs m = mixL v xs k := by
 induction m with
 | zero =>
  have : k = 0 := by omega
  rw [this]
 | succ m ih =>
  by_cases c : k = m + 1
  ·rw [c]
  ·rw [zgW (by omega) (hv m (by omega) (by omega)), ih (by omega) (by omega) (fun j a b => hv j a (by omega))]
theorem mixL_prev {v : Nat} {xs : List Nat} {k : Nat} (hu : Unl xs) (h : k < xs.length) (hv : xs.getD k 0 = v) : (if k = 0 then none else (mixL v xs k)[k - 1]?) = if k = 0 then none else xs[k - 1]? := by
 cases k with
 | zero => rfl
 | succ k =>
  show (mixL v xs (k + 1))[k]? = xs[k]?
  rw [zdP, if_pos (by omega), zge (by omega)]
  have := hu k h
  rw [hv] at this
  rw [if_neg this, List.getD_eq_getElem?_getD, List.getElem?_eq_getElem (show k < xs.length by omega)]
  rfl
theorem zfg {v : Nat} {xs : List Nat} {k : Nat} (hu : Unl xs) (h : k < xs.length) (hv : xs.getD k 0 = v) : zaF (mixL v xs k) k = zaF xs k := by
 unfold zaF
 rw [mixL_prev hu h hv, mixL_at (j := k + 1) (by omega)]
theorem ziv {v : Nat} {xs : List Nat} {k : Nat} (h : k < xs.length) (hv : xs.getD k 0 = v) : mixL v xs (k + 1) = (mixL v xs k).set k (zcQ xs k) := by
 apply List.ext_getElem?
 intro j
 rw [List.getElem?_set, zd8, zdP, zdP]
 by_cases c : k = j
 ·subst c
  rw [if_pos rfl, if_pos h, if_pos (by omega), zge h, if_pos hv]
 ·rw [if_neg c]
  by_cases c2 : j < k
  ·rw [if_pos c2, if_pos (by omega)]
  ·rw [if_neg c2, if_neg (by omega)]
def zce (sh : Nat) (cs : List Nat) (ms : List Bool) : List Bool := (zeH sh (cs.zip ms)).map (·.2)
theorem za1 {sh : Nat} {cs : List Nat} {ms : List Bool} (h : cs.length = ms.length) : (zce sh cs ms).length = ms.length := by
 unfold zce zeH
 rw [List.length_map, zb3, List.length_zip]
 omega
theorem zhn {cs : List Nat} : ∀ {ms : List Bool}, cs.length = ms.length → (cs.zip ms).map (·.1) = cs := by
 induction cs with
 | nil => intro ms _; rfl
 | cons c cs ih =>
  intro ms h
  cases ms with
  | nil => cases h
  | cons m ms =>
   show c :: (cs.zip ms).map (·.1) = c :: cs
   rw [ih (Nat.succ.inj h)]
theorem zh5 : ∀ (l : List (Nat × Bool)), (l.map (·.1)).zip (l.map (·.2)) = l
 | [] => rfl
 | x :: l => by
  show x :: (l.map (·.1)).zip (l.map (·.2)) = x :: l
  rw [zh5 l]
theorem markL_fst (sh : Nat) (l : List (Nat × Bool)) : (zeH sh l).map (·.1) = l.map (·.1) := by
 apply List.ext_getElem?
 intro k
 unfold zeH mapW
 rw [List.getElem?_map, List.getElem?_map, zc9]
 cases l[k]? <;> rfl
theorem zgY {sh : Nat} {cs : List Nat} {ms : List Bool} (h : cs.length = ms.length) : zeH sh (cs.zip ms) = cs.zip (zce sh cs ms) := by
 have e := zh5 (zeH sh (cs.zip ms))
 rw [markL_fst, zhn h] at e
 exact e.symm
theorem zjG (cs : List Nat) : start cs = cs.zip (cs.map fun _ => false) := by
 unfold start
 induction cs with
 | nil => rfl
 | cons c cs ih =>
  show (c, false) :: cs.map (fun x => (x, false)) = (c, false) :: cs.zip (cs.map fun _ => false)
  rw [ih]
theorem zgX (cs : List Nat) : zeV cs = zce 0 cs (zce 1 cs (zce 2 cs (cs.map fun _ => false))) := by
 have l1 : cs.length = (cs.map fun _ => false).length := by rw [List.length_map]
 have l2 : cs.length = (zce 2 cs (cs.map fun _ => false)).length := by rw [za1 l1, ← l1]
 unfold zeV marked
 rw [zjG, zgY l1, zgY l2]
 rfl
theorem zcE {sh : Nat} {cs : List Nat} {ms : List Bool} (hl : cs.length = ms.length) {k : Nat} (h : k < cs.length) : (zce sh cs ms)[k]? = some (ms.getD k false || (decide (cs.getD k 0 = sh) && decide (1 ≤ k) && !ms.getD (k - 1) false && !ms.getD (k + 1) false)) := by
 unfold zce zeH mapW
 have gz : ∀ j, (cs.zip ms)[j]? = if h : j < cs.length then some (cs[j], ms[j]'(by omega)) else none := fun j => by
  split
  ·rename_i q
   rw [List.getElem?_eq_getElem (by rw [List.length_zip]; omega), List.getElem_zip]
  ·exact List.getElem?_eq_none (by rw [List.length_zip]; omega)
 have gm : ∀ j, ms.getD j false = (((cs.zip ms)[j]?).map (·.2)).getD false := fun j => by
  rw [gz]
  split
  ·rw [List.getD_eq_getElem?_getD, List.getElem?_eq_getElem (by omega)]
   rfl
  ·rw [List.getD_eq_getElem?_getD, List.getElem?_eq_none (by omega)]
   rfl
 rw [List.getElem?_map, zc9, gm k, gm (k + 1), gm (k - 1), List.getD_eq_getElem?_getD, List.getElem?_eq_getElem h]
 have e := gz k
 rw [dif_pos h] at e
 rw [e]
 show some _ = some _
 unfold markF
 cases k with
 | zero => simp
 | succ k =>
  have e2 := gz k
  rw [dif_pos (by omega)] at e2
  simp [e2]
def mixM (sh : Nat) (cs : List Nat) (ms : List Bool) (k : Nat) : List Bool := (zce sh cs ms).take k ++ ms.drop k
theorem ziu {sh : Nat} {cs : List Nat} {ms : List Bool} (hl : cs.length = ms.length) {k : Nat} (h : cs.length ≤ k) : mixM sh cs ms k = zce sh cs ms := by
 unfold mixM
 rw [List.take_of_length_le (by rw [za1 hl]; omega), List.drop_eq_nil_of_le (by omega), List.append_nil]
theorem zdk {sh : Nat} {cs : List Nat} {ms : List Bool} (hl : cs.length = ms.length) (k : Nat) : (mixM sh cs ms k).length = cs.length := by
 unfold mixM
 rw [List.length_append, List.length_take, List.length_drop, za1 hl]
 omega
theorem zbB {sh : Nat} {cs : List Nat} {ms : List Bool} (hl : cs.length = ms.length) (k j : Nat) : (mixM sh cs ms k)[j]? = if j < k then (zce sh cs ms)[j]? else ms[j]? := by
 unfold mixM
 by_cases hk : k ≤ ms.length
 ·rw [List.getElem?_append, List.length_take, za1 hl, Nat.min_eq_left hk]
  split
  ·rw [List.getElem?_take]
   rw [if_pos (by assumption)]
  ·rw [List.getElem?_drop]
   congr 1
   omega
 ·rw [List.drop_eq_nil_of_le (by omega), List.append_nil, List.take_of_length_le (by rw [za1 hl]; omega)]
  split
  ·rfl
  ·rw [List.getElem?_eq_none (by rw [za1 hl]; omega), List.getElem?_eq_none (by omega)]
def zdF (ms : List Bool) (k : Nat) : Bool := !ms.getD (k - 1) false && !ms.getD k false && !ms.getD (k + 1) false
theorem zjc {sh : Nat} {cs : List Nat} {ms : List Bool} (hu : Unl cs) (hl : cs.length = ms.length) {k : Nat} (h : k < cs.length) (h1 : 1 ≤ k) (hs : cs.getD k 0 = sh) : zdF (mixM sh cs ms k) k = zdF ms k := by
 unfold zdF
 have e : ∀ j, k ≤ j → (mixM sh cs ms k).getD j false = ms.getD j false := fun j hj => by
  rw [List.getD_eq_getElem?_getD, List.getD_eq_getElem?_getD, zbB hl, if_neg (by omega)]
 rw [e k (by omega), e (k + 1) (by omega)]
 have e2 : (mixM sh cs ms k).getD (k - 1) false = ms.getD (k - 1) false := by
  rw [List.getD_eq_getElem?_getD, zbB hl, if_pos (by omega), zcE hl (by omega)]
  have := hu (k - 1) (by omega)
  rw [show k - 1 + 1 = k by omega, hs] at this
  rw [decide_eq_false this]
  simp
 rw [e2]
theorem zff {sh : Nat} {cs : List Nat} {ms : List Bool} (hl : cs.length = ms.length) {k : Nat} (h : k < cs.length) (hn : ¬ (1 ≤ k ∧ cs.getD k 0 = sh ∧ zdF ms k = true)) : mixM sh cs ms (k + 1) = mixM sh cs ms k := by
 apply List.ext_getElem?
 intro j
 rw [zbB hl, zbB hl]
 by_cases c : j < k
 ·rw [if_pos c, if_pos (by omega)]
 ·rw [if_neg c]
  split
  ·have : j = k := by omega
   subst this
   rw [zcE hl h]
   unfold zdF at hn
   rw [List.getElem?_eq_getElem (by omega)]
   have e : ms.getD j false = ms[j]'(by omega) := by
    rw [List.getD_eq_getElem?_getD, List.getElem?_eq_getElem (by omega)]
    rfl
   rw [e] at hn ⊢
   congr 1
   generalize ms[j] = a at hn ⊢
   generalize ms.getD (j - 1) false = b at hn ⊢
   generalize ms.getD (j + 1) false = d at hn ⊢
   cases a <;> cases b <;> cases d <;> simp at hn ⊢
   intro q
   omega
  ·rfl
theorem mixM_put {sh : Nat} {cs : List Nat} {ms : List Bool} (hl : cs.length = ms.length) {k : Nat} (h : k < cs.length) (hp : 1 ≤ k ∧ cs.getD k 0 = sh ∧ zdF ms k = true) : mixM sh cs ms (k + 1) = (mixM sh cs ms k).set k true := by
 apply List.ext_getElem?
 intro j
 rw [List.getElem?_set, zdk hl, zbB hl, zbB hl]
 by_cases c : k = j
 ·subst c
  rw [if_pos rfl, if_pos h, if_pos (by omega), zcE hl h]
  obtain ⟨p1, p2, p3⟩ := hp
  unfold zdF at p3
  simp only [Bool.and_eq_true, Bool.not_eq_true'] at p3
  rw [p2, p3.1.1, p3.1.2, p3.2, decide_eq_true p1]
  simp
 ·rw [if_neg c]
  by_cases c2 : j < k
  ·rw [if_pos c2, if_pos (by omega)]
  ·rw [if_neg c2, if_neg (by omega)]
structure zee (ms : List Bool) (sp : List Nat) : Prop where
 up : sp.Pairwise (· < ·)
 iff : ∀ j, j ∈ sp ↔ ms.getD j false = true
theorem zee.lt {ms : List Bool} {sp : List Nat} (S : zee ms sp) {j : Nat} (h : j ∈ sp) : j < ms.length := by
 have h := (S.iff j).mp h
 rw [List.getD_eq_getElem?_getD] at h
 cases e : ms[j]? with
 | none => rw [e] at h; cases h
 | some x => exact (List.getElem?_eq_some_iff.mp e).1
theorem zee.step {ms : List Bool} {sp : List Nat} (S : zee ms sp) (M : zeP ms) {t : Nat} (h : t + 1 < sp.length) : sp[t] + 2 ≤ sp[t + 1] ∧ sp[t + 1] ≤ sp[t] + 3 := by
 have up := List.pairwise_iff_getElem.mp S.up
 have lt := up t (t + 1) (by omega) h (by omega)
 have m0 := (S.iff _).mp (List.getElem_mem (show t < sp.length by omega))
 have m1 := (S.iff _).mp (List.getElem_mem h)
 have l1 := S.lt (List.getElem_mem h)
 have no : ∀ j, sp[t] < j → j < sp[t + 1] → ms.getD j false = false := fun j a b => by
  cases e : ms.getD j false with
  | false => rfl
  | true =>
   obtain ⟨u, hu, q⟩ := List.getElem_of_mem ((S.iff j).mpr e)
   have c1 : ¬ u ≤ t := fun z => by
    by_cases z' : u = t
    ·subst z'; omega
    ·have := up u t hu (by omega) (by omega)
     omega
   have c2 : ¬ t + 1 ≤ u := fun z => by
    by_cases z' : u = t + 1
    ·subst z'; omega
    ·have := up (t + 1) u h hu (by omega)
     omega
   omega
 refine ⟨?_, ?_⟩
 ·by_cases c : sp[t + 1] = sp[t] + 1
  ·rw [c] at m1
   exact (M.ind _ m0 m1).elim
  ·omega
 ·refine Nat.le_of_not_lt fun c => ?_
  rcases M.dom (sp[t] + 2) (by omega) (by omega) with q | q | q
  ·rw [no (sp[t] + 2 - 1) (by omega) (by omega)] at q
   cases q
  ·rw [no (sp[t] + 2) (by omega) (by omega)] at q
   cases q
  ·rw [no (sp[t] + 2 + 1) (by omega) (by omega)] at q
   cases q
theorem zee.first {ms : List Bool} {sp : List Nat} (S : zee ms sp) (M : zeP ms) (h : 2 ≤ ms.length) : ∃ hp : 0 < sp.length, 1 ≤ sp[0] ∧ sp[0] ≤ 2 := by
 have ex : ∃ j, j ≤ 2 ∧ ms.getD j false = true := by
  rcases M.dom 1 (by omega) (by omega) with q | q | q
  ·exact ⟨0, by omega, q⟩
  ·exact ⟨1, by omega, q⟩
  ·exact ⟨2, by omega, q⟩
 obtain ⟨j, hj, e⟩ := ex
 obtain ⟨u, hu, q⟩ := List.getElem_of_mem ((S.iff j).mpr e)
 refine ⟨by omega, ?_, ?_⟩
 ·have m0 := (S.iff _).mp (List.getElem_mem (show 0 < sp.length by omega))
  refine Nat.pos_of_ne_zero fun z => ?_
  rw [z, M.fst] at m0
  cases m0
 ·by_cases c : u = 0
  ·subst c; omega
  ·have := List.pairwise_iff_getElem.mp S.up 0 u (by omega) hu (by omega)
   omega
theorem zee.last {ms : List Bool} {sp : List Nat} (S : zee ms sp) (M : zeP ms) (h : 2 ≤ ms.length) (hp : 0 < sp.length) : ms.length ≤ sp[sp.length - 1] + 2 := by
 have ex : ∃ j, ms.length - 2 ≤ j ∧ ms.getD j false = true := by
  rcases M.dom (ms.length - 1) (by omega) (by omega) with q | q | q
  ·exact ⟨_, by omega, q⟩
  ·exact ⟨_, by omega, q⟩
  ·exact ⟨_, by omega, q⟩
 obtain ⟨j, hj, e⟩ := ex
 obtain ⟨u, hu, q⟩ := List.getElem_of_mem ((S.iff j).mpr e)
 by_cases c : u = sp.length - 1
 ·subst c; omega
 ·have := List.pairwise_iff_getElem.mp S.up u (sp.length - 1) hu (by omega) (by omega)
  omega
theorem zee.low {ms : List Bool} {sp : List Nat} (S : zee ms sp) (M : zeP ms) : ∀ (t : Nat) (h : t < sp.length), 2 * t + 1 ≤ sp[t]
 | 0, h => by
  have m0 := (S.iff _).mp (List.getElem_mem h)
  refine Nat.pos_of_ne_zero fun z => ?_
  rw [z, M.fst] at m0
  cases m0
 | t + 1, h => by
  have a := zee.low S M t (by omega)
  have b := (S.step M h).1
  omega
theorem zee.half {ms : List Bool} {sp : List Nat} (S : zee ms sp) (M : zeP ms) : 2 * sp.length ≤ ms.length := by
 by_cases c : sp.length = 0
 ·omega
 ·have a := S.low M (sp.length - 1) (by omega)
  have b := S.lt (List.getElem_mem (show sp.length - 1 < sp.length by omega))
  omega
theorem zee.none {ms : List Bool} {sp : List Nat} (S : zee ms sp) (M : zeP ms) (h : ms.length < 2) : sp = [] := by
 have := S.half M
 exact List.eq_nil_of_length_eq_zero (by omega)
def zbw {α : Type} (es : List α) (ms : List Bool) : List α := ((es.zip ms).filter (·.2)).map (·.1)
structure Ats (P : Nat → Bool) (n : Nat) (l : List Nat) : Prop where
 up : l.Pairwise (· < ·)
 iff : ∀ j, j ∈ l ↔ j < n ∧ P j = true
theorem ats_of (P : Nat → Bool) (n : Nat) : Ats P n ((List.range n).filter P) := ⟨List.Pairwise.filter _ List.pairwise_lt_range, fun j => by rw [List.mem_filter, List.mem_range]⟩
theorem Ats.get {P : Nat → Bool} {n : Nat} {l : List Nat} (A : Ats P n l) {j : Nat} (h : j < l.length) : l[j] < n ∧ P l[j] = true := (A.iff _).mp (List.getElem_mem h)
theorem Ats.first {P : Nat → Bool} {n : Nat} {l : List Nat} (A : Ats P n l) {i : Nat} (h : i < l.getD 0 n) (hn : i < n) : P i = false := by
 cases e : P i with
 | false => rfl
 | true =>
  obtain ⟨u, hu, q⟩ := List.getElem_of_mem ((A.iff i).mpr ⟨hn, e⟩)
  have h0 : l.getD 0 n = l[0]'(by omega) := by
   rw [List.getD_eq_getElem?_getD, List.getElem?_eq_getElem (by omega)]
   rfl
  rw [h0] at h
  by_cases c : u = 0
  ·subst c; omega
  ·have := List.pairwise_iff_getElem.mp A.up 0 u (by omega) hu (by omega)
   omega
theorem Ats.next {P : Nat → Bool} {n : Nat} {l : List Nat} (A : Ats P n l) {j : Nat} (hj : j < l.length) {i : Nat} (h1 : l[j] < i) (h : i < l.getD (j + 1) n) (hn : i < n) : P i = false := by
 cases e : P i with
 | false => rfl
 | true =>
  obtain ⟨u, hu, q⟩ := List.getElem_of_mem ((A.iff i).mpr ⟨hn, e⟩)
  have up := List.pairwise_iff_getElem.mp A.up
  have c1 : j < u := by
   refine Nat.lt_of_not_le fun z => ?_
   by_cases c : u = j
   ·subst c; omega
   ·have := up u j hu hj (by omega)
    omega
  have h0 : l.getD (j + 1) n = l[j + 1]'(by omega) := by
   rw [List.getD_eq_getElem?_getD, List.getElem?_eq_getElem (by omega)]
   rfl
  rw [h0] at h
  by_cases c : u = j + 1
  ·subst c; omega
  ·have := up (j + 1) u (by omega) hu (by omega)
   omega
theorem Ats.le {P : Nat → Bool} {n : Nat} {l : List Nat} (A : Ats P n l) (j : Nat) : l.getD j n ≤ n := by
 rw [List.getD_eq_getElem?_getD]
 by_cases h : j < l.length
 ·rw [List.getElem?_eq_getElem h]
  exact Nat.le_of_lt (A.get h).1
 ·rw [List.getElem?_eq_none (by omega)]
  exact Nat.le_refl _
theorem Ats.step_le {P : Nat → Bool} {n : Nat} {l : List Nat} (A : Ats P n l) {j : Nat} (hj : j < l.length) : l[j] + 1 ≤ l.getD (j + 1) n := by
 rw [List.getD_eq_getElem?_getD]
 by_cases h : j + 1 < l.length
 ·rw [List.getElem?_eq_getElem h]
  exact List.pairwise_iff_getElem.mp A.up j (j + 1) hj h (by omega)
 ·rw [List.getElem?_eq_none (by omega)]
  exact (A.get hj).1
def atsL (v : Nat) (xs : List Nat) : List Nat := (List.range xs.length).filter fun k => decide (xs.getD k 0 = v)
theorem zft (v : Nat) (xs : List Nat) : Ats (fun k => decide (xs.getD k 0 = v)) xs.length (atsL v xs) := ats_of _ _
theorem mix_first {v : Nat} {xs : List Nat} : mixL v xs ((atsL v xs).getD 0 xs.length) = xs := by
 rw [zfR (k := 0) (Nat.zero_le _) ((zft v xs).le 0) (fun j _ h => of_decide_eq_false ((zft v xs).first h (Nat.lt_of_lt_of_le h ((zft v xs).le 0))))]
 rfl
theorem mix_next {v : Nat} {xs : List Nat} {j : Nat} (hj : j < (atsL v xs).length) : mixL v xs ((atsL v xs).getD (j + 1) xs.length) = (mixL v xs (atsL v xs)[j]).set (atsL v xs)[j] (zcQ xs (atsL v xs)[j]) := by
 have A := zft v xs
 have g := A.get hj
 rw [zfR (k := (atsL v xs)[j] + 1) (A.step_le hj) (A.le _) (fun i a b => of_decide_eq_false (A.next hj (by omega) b (Nat.lt_of_lt_of_le b (A.le _)))), ziv g.1 (of_decide_eq_true g.2)]
theorem mix_last {v : Nat} {xs : List Nat} : mixL v xs ((atsL v xs).getD (atsL v xs).length xs.length) = recL v xs := by
 rw [List.getD_eq_getElem?_getD, List.getElem?_eq_none (Nat.le_refl _)]
 exact ziw (Nat.le_refl _)
def colN (xs : List Nat) : Nat → List Nat
 | 0 => xs
 | i + 1 => recL (3 + i) (colN xs i)
theorem zfm (xs : List Nat) (i : Nat) : (colN xs i).length = xs.length := by
 induction i with
 | zero => rfl
 | succ i ih => rw [colN, zbe, ih]
theorem ziP {xs : List Nat} (h : Unl xs) (i : Nat) : Unl (colN xs i) := by
 induction i with
 | zero => exact h
 | succ i ih => exact zju (ze5 (unlZ ih))
def mkN (cs : List Nat) : Nat → List Bool
 | 0 => cs.map fun _ => false
 | i + 1 => zce (2 - i) cs (mkN cs i)
theorem zgV (cs : List Nat) : mkN cs 3 = zeV cs := (zgX cs).symm
theorem zfP (cs : List Nat) (i : Nat) : cs.length = (mkN cs i).length := by
 induction i with
 | zero => rw [mkN, List.length_map]
 | succ i ih => rw [mkN, za1 ih, ih]
theorem zit {sh : Nat} {cs : List Nat} {ms : List Bool} (hl : cs.length = ms.length) : mixM sh cs ms 1 = ms := by
 by_cases h : 0 < cs.length
 ·rw [zff hl h (fun z => by omega)]
  rfl
 ·have : ms = [] := List.eq_nil_of_length_eq_zero (by omega)
  subst this
  unfold mixM
  rw [List.eq_nil_of_length_eq_zero (show (zce sh cs []).length = 0 by rw [za1 hl]; rfl)]
  rfl
def zaL (ps : List Nat) : Prop := ∀ i (h : i < ps.length), ps[i] ≤ i
def par (ps : List Nat) : Nat → Option Nat
 | 0 => none
 | k + 1 => ps[k]?
theorem za6 {ps : List Nat} (T : zaL ps) {k p : Nat} (h : par ps k = some p) : p < k ∧ k < ps.length + 1 := by
 cases k with
 | zero => cases h
 | succ k =>
  obtain ⟨h1, rfl⟩ := List.getElem?_eq_some_iff.mp (show ps[k]? = some p from h)
  have := T k h1
  omega
theorem zgh {ps : List Nat} {k : Nat} (h1 : 1 ≤ k) (h2 : k < ps.length + 1) : ∃ p, par ps k = some p := by
 cases k with
 | zero => omega
 | succ k => exact ⟨_, List.getElem?_eq_getElem (show k < ps.length by omega)⟩
theorem par_none {ps : List Nat} {k : Nat} (h2 : k < ps.length + 1) (h : par ps k = none) : k = 0 := by
 cases k with
 | zero => rfl
 | succ k =>
  have := List.getElem?_eq_none_iff.mp (show ps[k]? = none from h)
  omega
def wayF (ps : List Nat) (one : Nat) : Nat → Nat → Option (List Nat)
 | 0, _ => none
 | f + 1, o => if o = one then some [o] else match par ps o with
  | none => none
  | some p => (wayF ps one f p).map (· ++ [o])
theorem zgD {ps : List Nat} (T : zaL ps) {one : Nat} : ∀ f g o, o < f → o < g → wayF ps one f o = wayF ps one g o
 | 0, _, _, h, _ => absurd h (Nat.not_lt_zero _)
 | _, 0, _, _, h => absurd h (Nat.not_lt_zero _)
 | f + 1, g + 1, o, hf, hg => by
  unfold wayF
  split
  ·rfl
  ·cases e : par ps o with
   | none => rfl
   | some p =>
    have := (za6 T e).1
    show (wayF ps one f p).map _ = (wayF ps one g p).map _
    rw [zgD T f g p (by omega) (by omega)]
def wayL (ps : List Nat) (one o : Nat) : Option (List Nat) := wayF ps one (o + 1) o
theorem zjr {ps : List Nat} {o : Nat} : wayL ps o o = some [o] := by
 unfold wayL wayF
 rw [if_pos rfl]
theorem zef {ps : List Nat} (T : zaL ps) {one o : Nat} (h : o ≠ one) : wayL ps one o = match par ps o with
  | none => none
  | some p => (wayL ps one p).map (· ++ [o]) := by
 unfold wayL
 rw [wayF, if_neg h]
 cases e : par ps o with
 | none => rfl
 | some p =>
  show (wayF ps one o p).map _ = (wayF ps one (p + 1) p).map _
  rw [zgD T o (p + 1) p (za6 T e).1 (by omega)]
theorem zjs {ps : List Nat} (T : zaL ps) {one : Nat} : ∀ n o, o ≤ n → o < one → wayL ps one o = none
 | n, o, hn, h => by
  rw [zef T (by omega)]
  cases e : par ps o with
  | none => rfl
  | some p =>
   have hp := (za6 T e).1
   show (wayL ps one p).map _ = none
   cases n with
   | zero => omega
   | succ n => rw [zjs T n p (by omega) (by omega)]; rfl
def Chain (ps : List Nat) (w : List Nat) : Prop := ∀ t, t + 1 < w.length → par ps (w.getD (t + 1) 0) = some (w.getD t 0)
def isB (ps : List Nat) (k j : Nat) : Bool := (wayL ps k j).isSome
def benL (ps : List Nat) (k n : Nat) : List Nat := (List.range n).filter (isB ps k)
theorem zdo {ps : List Nat} {k : Nat} : isB ps k k = true := by
 unfold isB
 rw [zjr]
 rfl
theorem zeY {ps : List Nat} (T : zaL ps) {k j : Nat} (h : j < k) : isB ps k j = false := by
 unfold isB
 rw [zjs T j j (Nat.le_refl _) h]
 rfl
theorem zb6 {ps : List Nat} (T : zaL ps) {k j p : Nat} (h : j ≠ k) (e : par ps j = some p) : isB ps k j = isB ps k p := by
 unfold isB
 rw [zef T h, e]
 show ((wayL ps k p).map _).isSome = _
 cases wayL ps k p <;> rfl
theorem benL_one {ps : List Nat} (T : zaL ps) (k : Nat) : benL ps k (k + 1) = [k] := by
 unfold benL
 rw [List.range_succ, List.filter_append]
 have e1 : (List.range k).filter (isB ps k) = [] := by
  rw [List.filter_eq_nil_iff]
  intro j hj z
  rw [zeY T (List.mem_range.mp hj)] at z
  cases z
 rw [e1, List.nil_append, List.filter_cons_of_pos zdo]
 rfl
theorem zcs {ps : List Nat} {k n j : Nat} : j ∈ benL ps k n ↔ j < n ∧ isB ps k j = true := by
 unfold benL
 rw [List.mem_filter, List.mem_range]
theorem zhh {ps : List Nat} {k n : Nat} : benL ps k (n + 1) = benL ps k n ++ (if isB ps k n = true then [n] else []) := by
 unfold benL
 rw [List.range_succ, List.filter_append]
 congr 1
 by_cases h : isB ps k n = true
 ·rw [if_pos h, List.filter_cons_of_pos h]
  rfl
 ·rw [if_neg h, List.filter_cons_of_neg h]
  rfl
theorem ziT (ps : List Nat) (k n : Nat) : (benL ps k n).length ≤ n := by
 have := List.length_filter_le (isB ps k) (List.range n)
 rw [List.length_range] at this
 exact this
theorem zhY (ps : List Nat) (k n : Nat) : (benL ps k n).Pairwise (· < ·) := List.Pairwise.filter _ List.pairwise_lt_range
theorem ziI {ps : List Nat} (T : zaL ps) : ∀ n j, j ≤ n → j < ps.length + 1 → isB ps 0 j = true
 | n, j, hn, h => by
  by_cases c : j = 0
  ·rw [c]
   exact zdo
  ·obtain ⟨p, e⟩ := zgh (by omega) h
   have := (za6 T e).1
   rw [zb6 T c e]
   cases n with
   | zero => omega
   | succ n => exact ziI T n p (by omega) (by omega)
theorem benL_zero {ps : List Nat} (T : zaL ps) : benL ps 0 (ps.length + 1) = List.range (ps.length + 1) := by
 unfold benL
 rw [List.filter_eq_self]
 exact fun j hj => ziI T j j (Nat.le_refl _) (List.mem_range.mp hj)
def zaM (ps : List Nat) (k n : Nat) : List Nat := (List.range n).filter fun j => decide (par ps j = some k)
theorem zaC {ps : List Nat} {k n j : Nat} : j ∈ zaM ps k n ↔ j < n ∧ par ps j = some k := by
 unfold zaM
 rw [List.mem_filter, List.mem_range, decide_eq_true_eq]
theorem zdq {ps : List Nat} {k n : Nat} : zaM ps k (n + 1) = zaM ps k n ++ (if par ps n = some k then [n] else []) := by
 unfold zaM
 rw [List.range_succ, List.filter_append]
 congr 1
 by_cases h : par ps n = some k
 ·rw [if_pos h, List.filter_cons_of_pos (by exact decide_eq_true h)]
  rfl
 ·rw [if_neg h, List.filter_cons_of_neg (by rw [decide_eq_false h]; decide)]
  rfl
theorem zcH (ps : List Nat) (k n : Nat) : (zaM ps k n).length ≤ n := by
 have := List.length_filter_le (fun j => decide (par ps j = some k)) (List.range n)
 rw [List.length_range] at this
 exact this
theorem zhb (ps : List Nat) (k n : Nat) : (zaM ps k n).Pairwise (· < ·) := List.Pairwise.filter _ List.pairwise_lt_range
theorem zes {ps : List Nat} (T : zaL ps) {k : Nat} : ∀ n j, j ≤ n → j < ps.length + 1 → (isB ps k j = true ↔ j = k ∨ ∃ c, par ps c = some k ∧ isB ps c j = true)
 | n, j, hn, h => by
  by_cases c : j = k
  ·constructor
   ·exact fun _ => .inl c
   ·intro _
    rw [c]
    exact zdo
  ·cases e : par ps j with
   | none =>
    have j0 := par_none h e
    have no : ∀ m, j ≠ m → isB ps m j = false := fun m hm => by
     unfold isB
     rw [zef T hm, e]
     rfl
    constructor
    ·intro z
     rw [no k c] at z
     cases z
    ·rintro (z | ⟨d, hd, z⟩)
     ·exact absurd z c
     ·by_cases y : j = d
      ·rw [← y, e] at hd
       cases hd
      ·rw [no d y] at z
       cases z
   | some p =>
    have hp := (za6 T e).1
    cases n with
    | zero => omega
    | succ n =>
     have ih := zes T (k := k) n p (by omega) (by omega)
     rw [zb6 T c e, ih]
     constructor
     ·rintro (z | ⟨d, hd, z⟩)
      ·refine .inr ⟨j, ?_, zdo⟩
       rw [e, z]
      ·by_cases y : j = d
       ·rw [← y] at z
        rw [zeY T hp] at z
        cases z
       ·exact .inr ⟨d, hd, by rw [zb6 T y e]; exact z⟩
     ·rintro (z | ⟨d, hd, z⟩)
      ·exact absurd z c
      ·by_cases y : j = d
       ·subst y
        rw [e] at hd
        exact .inl (Option.some.inj hd)
       ·rw [zb6 T y e] at z
        exact .inr ⟨d, hd, z⟩
theorem zdD {ps : List Nat} (T : zaL ps) {k c d : Nat} (hc : par ps c = some k) (hd : par ps d = some k) (hcd : c ≠ d) : ∀ n j, j ≤ n → isB ps c j = true → isB ps d j = true → False
 | n, j, hn, h1, h2 => by
  by_cases e1 : j = c
  ·subst e1
   rw [zb6 T hcd hc, zeY T (za6 T hd).1] at h2
   cases h2
  ·by_cases e2 : j = d
   ·subst e2
    rw [zb6 T e1 hd, zeY T (za6 T hc).1] at h1
    cases h1
   ·cases e : par ps j with
    | none =>
     unfold isB at h1
     rw [zef T e1, e] at h1
     cases h1
    | some p =>
     have hp := (za6 T e).1
     rw [zb6 T e1 e] at h1
     rw [zb6 T e2 e] at h2
     cases n with
     | zero => omega
     | succ n => exact zdD T hc hd hcd n p (by omega) h1 h2
theorem zi5 {ps : List Nat} (T : zaL ps) {k : Nat} (hk : k < ps.length + 1) : (k :: ((zaM ps k (ps.length + 1)).map fun c => benL ps c (ps.length + 1)).flatten).Perm (benL ps k (ps.length + 1)) := by
 have lt : ∀ {l : List Nat}, l.Pairwise (· < ·) → l.Nodup := fun h => List.Pairwise.imp (fun {a b} (q : a < b) => Nat.ne_of_lt q) h
 refine (List.perm_ext_iff_of_nodup ?_ (lt (zhY ps k _))).mpr fun j => ?_
 ·rw [List.nodup_cons]
  refine ⟨fun h => ?_, ?_⟩
  ·obtain ⟨l, hl, hj⟩ := List.mem_flatten.mp h
   obtain ⟨c, hc, rfl⟩ := List.mem_map.mp hl
   have h1 := (zaC.mp hc).2
   have h2 := (zcs.mp hj).2
   rw [zeY T (za6 T h1).1] at h2
   cases h2
  ·show List.Pairwise _ _
   rw [List.pairwise_flatten]
   refine ⟨fun l hl => ?_, ?_⟩
   ·obtain ⟨c, hc, rfl⟩ := List.mem_map.mp hl
    exact lt (zhY ps c _)
   ·rw [List.pairwise_map]
    refine List.Pairwise.imp_of_mem (fun {c d} hc hd hcd => ?_) (zhb ps k _)
    intro x hx y hy z
    subst z
    exact zdD T (zaC.mp hc).2 (zaC.mp hd).2 (Nat.ne_of_lt hcd) x x (Nat.le_refl _) (zcs.mp hx).2 (zcs.mp hy).2
 ·rw [List.mem_cons, List.mem_flatten, zcs]
  constructor
  ·rintro (rfl | ⟨l, hl, hj⟩)
   ·exact ⟨hk, zdo⟩
   ·obtain ⟨c, hc, rfl⟩ := List.mem_map.mp hl
    obtain ⟨h1, h2⟩ := zcs.mp hj
    exact ⟨h1, (zes T j j (Nat.le_refl _) h1).mpr (.inr ⟨c, (zaC.mp hc).2, h2⟩)⟩
  ·rintro ⟨h1, h2⟩
   rcases (zes T j j (Nat.le_refl _) h1).mp h2 with q | ⟨c, hc, q⟩
   ·exact .inl q
   ·exact .inr ⟨_, List.mem_map.mpr ⟨c, zaC.mpr ⟨(za6 T hc).2, hc⟩, rfl⟩, zcs.mpr ⟨h1, q⟩⟩
section
variable {P : Program} {w : World} {K : PySem.W.Frag} {mg : Str → Option Value} {base : Heap}
theorem ok_mixed (T : Txt K mg) (D_l_mixed : DF K mg "_law_mixed" zbQ zcy) : FC P w K mg base 1 "_law_mixed" zcy zjK := by
 refine D_l_mixed.ok sc_l_mixed (fun vs H Q E h => ?_) (fun f cdv A outer s H vs Q E hr h => ?_)
 ·obtain ⟨c, k, rfl, _⟩ := h
  rfl
 obtain ⟨c, k, rfl, q⟩ := h
 refine ⟨_, (zae (zaw (i := 2) sc_l_mixed.nd rfl (Or.inl rfl) (zau zds (zau zcc (zau zbh (zau zbh (zau zds (pv 0) zaf) (zau zcc zaf (pv 1))) zaf) zaf) zaf))
   (zae (zaw (i := 3) sc_l_mixed.nd rfl (Or.inl rfl) (zau zds (zau zbh (zau zbh (zau zcc (pv 2) (pv 2)) (zau zcc zaf (pv 2))) (pv 1)) zaf))
   (zai (zaz (zau zgl (zau zds (zau zbh (zau zbh (zau zcc (pv 3) (pv 3)) (zau zcc zaf (pv 3))) (zau zcc zaf (pv 1))) zaf) zaf))))), ?_⟩
 walk_at "rd"
 exact q _
theorem ok_begin (T : Txt K mg) (D_l_begin : DF K mg "_law_begin" zbT zcA) : FC P w K mg base 1 "_law_begin" zcA (zjN K) := by
 refine D_l_begin.ok sc_l_begin (fun vs H Q E h => ?_) (fun f cdv A outer s H vs Q E hr h => ?_)
 ·obtain ⟨L, ns, rfl, _⟩ := h
  rfl
 obtain ⟨L, ns, rfl, hS, q⟩ := h
 refine ⟨_, (zai (zaz (pe_disp (zgg zdy (pv 0) (zgg zdy zaf (zgg zdy zaf pps_nil))) rfl rfl (by simp) (by decide)))), ?_⟩
 intro p hp
 refine ⟨_, rfl, zac, [(.inr "script", .ref L), (.inr "at", .int 0), (.inr "left", .int 0)], rfl, (by show 3 ≤ 15; decide), ?_⟩
 have e : upd (upd H p (.dK [])) p (.dK (zeU [] [(.inr "script", .ref L), (.inr "at", .int 0), (.inr "left", .int 0)])) = upd H p (zdn L 0 0) := by
  rw [upd_upd]
  have : zeU [] [((.inr "script" : Key), V.ref L), (.inr "at", .int 0), (.inr "left", .int 0)] = [(.inr "script", .ref L), (.inr "at", .int 0), (.inr "left", .int 0)] := by
   have a1 : putK [] (.inr "script" : Key) (V.ref L) = [(.inr "script", .ref L)] := zdK (kvs := []) _ rfl
   have a2 : putK [((.inr "script" : Key), V.ref L)] (.inr "at") (.int 0) = [(.inr "script", .ref L), (.inr "at", .int 0)] := by
    rw [zdK _ (by rw [zbp (zdZ (show ("script" : Str) ≠ "at" by decide +kernel))]; rfl)]
    rfl
   have a3 : putK [((.inr "script" : Key), V.ref L), (.inr "at", .int 0)] (.inr "left") (.int 0) = [(.inr "script", .ref L), (.inr "at", .int 0), (.inr "left", .int 0)] := by
    rw [zdK _ (by rw [zbp (zdZ (show ("script" : Str) ≠ "left" by decide +kernel)), zbp (zdZ (show ("at" : Str) ≠ "left" by decide +kernel))]; rfl)]
    rfl
   unfold zeU
   simp only [List.foldl_cons, List.foldl_nil]
   rw [a1, a2, a3]
  rw [this]
  rfl
 rw [e]
 exact q p _ hp (zak hp _) ⟨ns, 0, 0, zac, (zak hp _).seq hS⟩
theorem ok_take (T : Txt K mg) (D_l_take : DF K mg "_law_take" zcl zbX) (F_l_mixed : FC P w K mg base 1 "_law_mixed" zcy zjK) : FC P w K mg base 2 "_law_take" zbX (zgI K) := by
 refine D_l_take.ok sc_l_take (fun vs H Q E h => ?_) (fun f cdv A outer s H vs Q E hr h => ?_)
 ·obtain ⟨d, L, m, rfl, _⟩ := h
  rfl
 obtain ⟨d, L, m, rfl, ⟨hm, hm'⟩, ⟨ns, a, l, hd, hS⟩, q⟩ := h
 refine ⟨_, (zae (zaw (i := 2) sc_l_take.nd rfl (Or.inl rfl) (zd4 (zdW hr) (pv 0) zdy (fun _ _ => rfl)))
   (zae (zaw (i := 3) sc_l_take.nd rfl (Or.inl rfl) (zd4 (zdW hr) (pv 0) zdy (fun _ _ => rfl)))
   (zbk (zcq (zaI zd7 (zd4 (zdW hr) (pv 0) zdy (fun _ _ => rfl)) zaf (za8 _)) (zae (zd2 (zdW hr) (pv 0) zdy (zau zbh (pv 2) zaf) rfl)
   (zae (zaw (i := 4) sc_l_take.nd rfl (Or.inl rfl) zaf)
   (zbk (zcq (zaI op_gt (zao zaq rfl T.m_len boot_len (zaa (pv 3) zad)) zaf (za8 _)) (zai (zaw (i := 4) sc_l_take.nd rfl (Or.inl rfl) (zaK zaE (pv 3) (zau zds (pv 2) (zao zaq rfl T.m_len boot_len (zaa (pv 3) zad))) (fun _ _ => rfl)))) zaT)
   (zbk (zcq (PW.pt (zhs (zaI op_ge (pv 2) (zao zaq rfl T.m_len boot_len (zaa (pv 3) zad)) (za8 _)) (zij (zaI op_lt (zao ziS rfl T.m_abs boot_abs (zaa (pv 4) zad)) (zau zgS zaf zaf) (za8 _))))) (zai (zaz (zau zds (zaG F_l_mixed hr (zaa (pv 4) (zaa (pv 2) zad))) (pv 1)))) zaT)
   (zai (zd2 (zdW hr) (pv 0) zdy (zao ziS rfl T.m_abs boot_abs (zaa (pv 4) zad)) rfl)))))) zaT)
   (zae (zaw (i := 5) sc_l_take.nd rfl (Or.inl rfl) (zau zds (zd4 (zdW hr) (pv 0) zdy (fun _ _ => rfl)) (pv 1)))
   (zae (zd2 (zdW hr) (pv 0) zdy (zau zgl (zd4 (zdW hr) (pv 0) zdy (fun _ _ => rfl)) (pv 1)) rfl)
   (zai (zaz (pv 5)))))))), ?_⟩
 refine ⟨_, rfl, _, _, rfl, get_at hd, _, rfl, _, _, rfl, zjh hd, ?_⟩
 refine ⟨fun σ' H' => ∃ (x2 x3 x4 x5 : Option V) (a' l' : Int), σ' = [some (.ref d), some (.int m), x2, x3, x4, x5] ∧ H' d = some (zdn L a' l') ∧ Keep d H H', ?_, ?_⟩
 ·refine ⟨_, rfl, _, _, rfl, zgu hd, rfl, _, rfl, ?_⟩
  refine ite2 (fun _ => ?_) (fun _ => ?_)
  ·refine ⟨_, rfl, _, _, rfl, rfl, _, rfl, _, _, rfl, put_at hd, ?_⟩
   have hd1 : upd H d (zdn L (a + 1) l) d = some (zdn L (a + 1) l) := zac
   obtain ⟨-, k1⟩ := LS.set (a' := a + 1) (l' := l) hd hS
   have hS1 := zga hd k1 hS
   generalize upd H d (zdn L (a + 1) l) = H1 at hd1 k1 hS1 ⊢
   refine ⟨fun σ' H' => ∃ c : Int, σ' = [some (.ref d), some (.int m), some (.int a), some (.ref L), some (.int c), none] ∧ H1 = H', ?_, ?_⟩
   ·refine ⟨_, rfl, _, _, rfl, .inl hS1, _, _, rfl, rfl, _, rfl, ?_⟩
    refine ite2 (fun c => ?_) (fun c => ?_)
    ·have c' : (0 : Int) < (((ns.map V.int).length : Nat) : Int) := of_decide_eq_true c
     obtain ⟨v, hv⟩ := at_mod (ns := ns) (k := a) (by rw [List.length_map] at c'; omega)
     refine ⟨_, rfl, _, rfl, _, rfl, _, _, rfl, .inl hS1, _, _, rfl, rfl, c', _, _, _, _, rfl, rfl, hS1, hv, ?_⟩
     exact ⟨v, rfl, rfl⟩
    ·exact ⟨0, rfl, rfl⟩
   rintro σ' H' ⟨c, rfl, rfl⟩
   refine ⟨fun σ' H' => σ' = [some (.ref d), some (.int m), some (.int a), some (.ref L), some (.int c), none] ∧ H1 = H', ?_, ?_⟩
   ·refine ⟨_, rfl, _, rfl, _, _, rfl, .inl hS1, _, _, rfl, rfl, _, rfl, ?_⟩
    refine ite2 (fun _ => ?_) (fun _ => ?_)
    ·refine iteT ?_
     refine ⟨_, rfl, _, rfl, c, a, rfl, fun v => ⟨_, rfl, _, _, rfl, rfl, hm, ?_⟩⟩
     exact q _ _ (Int.emod_nonneg _ (by omega)) (Int.emod_lt_of_pos _ hm) k1 ⟨ns, a + 1, l, hd1, hS1⟩
    ·refine ⟨_, rfl, _, rfl, _, _, rfl, rfl, ⟨by decide, by decide, by decide⟩, _, _, rfl, rfl, _, rfl, ?_⟩
     refine ite2 (fun _ => ?_) (fun _ => ?_)
     ·refine ⟨_, rfl, _, rfl, c, a, rfl, fun v => ⟨_, rfl, _, _, rfl, rfl, hm, ?_⟩⟩
      exact q _ _ (Int.emod_nonneg _ (by omega)) (Int.emod_lt_of_pos _ hm) k1 ⟨ns, a + 1, l, hd1, hS1⟩
     ·exact ⟨rfl, rfl⟩
   rintro σ' H' ⟨rfl, rfl⟩
   refine ⟨_, rfl, _, rfl, _, rfl, _, _, rfl, zik hd1, ?_⟩
   obtain ⟨-, k2⟩ := LS.set (a' := a + 1) (l' := if c < 0 then -c else c) hd1 hS1
   exact ⟨_, _, _, _, _, _, rfl, zac, k1.trans k2⟩
  ·exact ⟨_, _, _, _, a, l, rfl, hd, Keep.refl _ _⟩
 rintro σ' H' ⟨x2, x3, x4, x5, a', l', rfl, hd', k'⟩
 have hS' := zga hd k' hS
 refine ⟨_, rfl, _, _, rfl, zgu hd', _, rfl, _, _, rfl, rfl, hm, ?_⟩
 refine ⟨_, rfl, _, _, rfl, zgu hd', _, rfl, _, _, rfl, rfl, ⟨hm, hm'⟩, _, rfl, _, _, rfl, zik hd', ?_⟩
 obtain ⟨s1, k1⟩ := LS.set (a' := a') (l' := l' / m) hd' hS'
 refine ⟨_, rfl, ?_⟩
 exact q _ _ (Int.emod_nonneg _ (by omega)) (Int.emod_lt_of_pos _ hm) (k'.trans k1) s1
def spLow : Sp := fun vs H Q _ => ∃ a b : Nat, vs = [.int a, .int b] ∧ a ≠ b ∧ Q (.int (lu a b : Nat)) H
theorem ok_low (T : Txt K mg) (D_lowest_unlike : DF K mg "lowest_unlike" zaH zaU) : FC P w K mg base 1 "lowest_unlike" zaU spLow := by
 refine D_lowest_unlike.ok sc_lowest_unlike (fun vs H Q E h => ?_) (fun f cdv A outer s H vs Q E hr h => ?_)
 ·obtain ⟨a, b, rfl, _⟩ := h
  rfl
 obtain ⟨a, b, rfl, hab, q⟩ := h
 refine ⟨_, (zae (zaw (i := 2) sc_lowest_unlike.nd rfl (Or.inl rfl) (zau op_xor (pv 0) (pv 1)))
   (zai (zaz (zau zcb (pe_bm0 F.plainAttrs_int F.slot_int_bit_length F.type_int_bit_length zgo (zau op_and (pv 2) (zfA zdX (pv 2)))) zaf)))), ?_⟩
 refine ⟨_, rfl, _, rfl, _, _, rfl, rfl, _, rfl, _, rfl, _, rfl, _, _, rfl, rfl, rfl, _, rfl, rfl, _, _, rfl, rfl, ?_⟩
 rw [← low_is a b hab] at q
 exact q
def spKey (K : PySem.W.Frag) : Sp := fun vs H Q _ => ∃ d L : Addr, vs = [.ref d] ∧ LS K L d H ∧ ∀ (v : Int) (H' : Hp), -(10 ^ 60) < v → v < 10 ^ 60 → Keep d H H' → LS K L d H' → Q (.int v) H'
theorem key_fits {x m : Int} (h1 : -999 ≤ x) (h2 : x ≤ 999) (h3 : 0 < m) (h4 : m ≤ 10 ^ 57) : -(10 ^ 60) < x * m ∧ x * m < 10 ^ 60 := by
 have a := Int.mul_le_mul_of_nonneg_right h2 (Int.le_of_lt h3)
 have b := Int.mul_le_mul_of_nonneg_right h1 (Int.le_of_lt h3)
 omega
theorem ok_key (T : Txt K mg) (D_l_key : DF K mg "_law_key" zdf zdN) (F_l_take : FC P w K mg base 2 "_law_take" zbX (zgI K)) : FC P w K mg base 3 "_law_key" zdN (spKey K) := by
 refine D_l_key.ok sc_l_key (fun vs H Q E h => ?_) (fun f cdv A outer s H vs Q E hr h => ?_)
 ·obtain ⟨d, L, rfl, _⟩ := h
  rfl
 obtain ⟨d, L, rfl, hs, q⟩ := h
 refine ⟨_, (zae (zaw (i := 1) sc_l_key.nd rfl (Or.inl rfl) (zaG F_l_take hr (zaa (pv 0) (zaa zaf zad))))
   (zbk (zcq (zaI op_lt (pv 1) zaf (za8 _)) (zai (zaz (zaG F_l_take hr (zaa (pv 0) (zaa zaf zad))))) zaT)
   (zbk (zcq (zaI op_lt (pv 1) zaf (za8 _)) (zai (zaz (zau zcb (zaG F_l_take hr (zaa (pv 0) (zaa zaf zad))) zaf))) zaT)
   (zbk (zcq (zaI zd7 (pv 1) zaf (za8 _)) (zai (zaz (zau zcc (zau zcb (zaG F_l_take hr (zaa (pv 0) (zaa zaf zad))) zaf) (zaK zaE (zbL (zaa zaf (zaa (zau zgS zaf zaf) (zaa (zau zgS zaf zaf) (zaa (zau zgS zaf zaf) zad))))) (zaG F_l_take hr (zaa (pv 0) (zaa zaf zad))) (fun _ _ => rfl))))) zaT)
   (zai (zaz (zau zcc (zaK zaE (zbL (zaa zaf (zaa (zfA zdX zaf) zad))) (zaG F_l_take hr (zaa (pv 0) (zaa zaf zad))) (fun _ _ => rfl)) (zau zcb (zau zcb (zau zgS zaf zaf) zaf) (zaG F_l_take hr (zaa (pv 0) (zaa zaf zad))))))))))), ?_⟩
 refine ⟨_, rfl, d, L, 8, rfl, by decide, hs, fun w1 H1 w0 w8 k1 s1 => ?_⟩
 have nd : ∀ {H' : Hp} {p : Addr}, LS K L d H' → H' p = none → p ≠ d := fun s hp z => by
  obtain ⟨_, _, _, e, _⟩ := s.ex
  rw [← z, hp] at e
  cases e
 refine ⟨fun σ' H' => σ' = [some (.ref d), some (.int w1)] ∧ H1 = H', ?_, ?_⟩
 ·refine ⟨_, rfl, _, _, rfl, rfl, _, rfl, ?_⟩
  refine ite2 (fun c => ?_) (fun c => ?_)
  ·refine ⟨_, rfl, d, L, 10, rfl, by decide, s1, fun u H2 u0 u1 k2 s2 => ?_⟩
   exact q u H2 (by omega) (by omega) (k1.trans k2) s2
  ·exact ⟨rfl, rfl⟩
 rintro σ' H' ⟨rfl, rfl⟩
 refine ⟨fun σ' H' => σ' = [some (.ref d), some (.int w1)] ∧ H1 = H', ?_, ?_⟩
 ·refine ⟨_, rfl, _, _, rfl, rfl, _, rfl, ?_⟩
  refine ite2 (fun c => ?_) (fun c => ?_)
  ·refine ⟨_, rfl, d, L, 60, rfl, by decide, s1, fun u H2 u0 u1 k2 s2 => ⟨_, _, rfl, rfl, ?_⟩⟩
   exact q (u - 30) H2 (by omega) (by omega) (k1.trans k2) s2
  ·exact ⟨rfl, rfl⟩
 rintro σ' H' ⟨rfl, rfl⟩
 refine ⟨fun σ' H' => σ' = [some (.ref d), some (.int w1)] ∧ H1 = H', ?_, ?_⟩
 ·refine ⟨_, rfl, rfl, _, rfl, ?_⟩
  refine ite2 (fun c => ?_) (fun c => ?_)
  ·refine ⟨_, rfl, d, L, 1999, rfl, by decide, s1, fun u H2 u0 u1 k2 s2 => ⟨_, _, rfl, rfl, ?_⟩⟩
   refine ⟨_, _, rfl, rfl, ⟨by decide, by decide, by decide⟩, _, _, rfl, rfl, ⟨by decide, by decide, by decide⟩, _, _, rfl, rfl, ⟨by decide, by decide, by decide⟩, (by show 4 ≤ sizeLine; decide), fun p hp => ?_⟩
   refine ⟨_, rfl, d, L, 4, rfl, by decide, s2.of_new hp _, fun b H3 b0 b1 k3 s3 => ?_⟩
   obtain ⟨m, hat, m0, m1⟩ : ∃ m : Int, atI [V.int 1, V.int (10 ^ (19 : Int).toNat), V.int (10 ^ (38 : Int).toNat), V.int (10 ^ (57 : Int).toNat)] b = some (.int m) ∧ 0 < m ∧ m ≤ 10 ^ 57 := by
    have z : b = 0 ∨ b = 1 ∨ b = 2 ∨ b = 3 := by omega
    rcases z with rfl | rfl | rfl | rfl
    ·exact ⟨_, rfl, by decide +kernel, by decide +kernel⟩
    ·exact ⟨_, rfl, by decide +kernel, by decide +kernel⟩
    ·exact ⟨_, rfl, by decide +kernel, by decide +kernel⟩
    ·exact ⟨_, rfl, by decide +kernel, by decide +kernel⟩
   refine ⟨_, _, _, _, rfl, rfl, SqL.of (k3 p _ (nd s2 hp) zac), hat, _, _, rfl, rfl, .inl ⟨by omega, by omega⟩, ?_⟩
   obtain ⟨f1, f2⟩ := key_fits (x := u - 999) (m := m) (by omega) (by omega) m0 m1
   exact q _ H3 f1 f2 ((k1.trans k2).trans ((zak hp _).keep.trans k3)) s3
  ·exact ⟨rfl, rfl⟩
 rintro σ' H' ⟨rfl, rfl⟩
 refine ⟨_, rfl, (by show 2 ≤ sizeLine; decide), fun p hp => ?_⟩
 refine ⟨_, rfl, d, L, 2, rfl, by decide, s1.of_new hp _, fun b H2 b0 b1 k2 s2 => ?_⟩
 obtain ⟨m, hat, hm⟩ : ∃ m : Int, atI [V.int 1, V.int (-1)] b = some (.int m) ∧ (m = 1 ∨ m = -1) := by
  have z : b = 0 ∨ b = 1 := by omega
  rcases z with rfl | rfl
  ·exact ⟨_, rfl, .inl rfl⟩
  ·exact ⟨_, rfl, .inr rfl⟩
 refine ⟨_, _, _, _, rfl, rfl, SqL.of (k2 p _ (nd s1 hp) zac), hat, _, _, rfl, rfl, ⟨by decide, by decide, by decide⟩, _, _, rfl, rfl, _, rfl, d, L, 3, rfl, by decide, s2, fun u H3 u0 u1 k3 s3 => ⟨_, _, rfl, rfl, _, _, rfl, rfl, .inl ⟨by omega, by omega⟩, ?_⟩⟩
 have e60 : (10 : Int) ^ (60 : Int).toNat = 10 ^ 60 := rfl
 rw [e60]
 have kk := k1.trans ((zak hp _).keep.trans (k2.trans k3))
 rcases hm with rfl | rfl
 ·exact q _ H3 (by omega) (by omega) kk s3
 ·exact q _ H3 (by omega) (by omega) kk s3
def Rise (es : List (Int × Int)) : Prop := es.Pairwise fun a b => pLt a b = true
def zeQ (k : Int) (e : Int × Int) : Prop := -(10 ^ 60) < e.1 ∧ e.1 < 10 ^ 60 ∧ 0 ≤ e.2 ∧ e.2 < k
def toPair : List Key → Int × Int
 | [.inl a, .inl b] => (a, b)
 | _ => (0, 0)
def KeyOk (k : Int) (x : List Key) : Prop := ∃ a b : Int, x = [.inl a, .inl b] ∧ zeQ k (a, b)
theorem putK_keys {κ : Type} [DecidableEq κ] (kvs : List (κ × V)) (k : κ) (v : V) : (putK kvs k v).map (·.1) = if (kvs.any fun kv => decide (kv.1 = k)) = true then kvs.map (·.1) else kvs.map (·.1) ++ [k] := by
 unfold putK
 split
 ·rw [List.map_map]
  apply List.map_congr_left
  intro a ha
  show (if a.1 = k then (a.1, v) else a).1 = a.1
  split <;> rfl
 ·rw [List.map_append]
  rfl
def zfD (e : Int × Int) : Int := 64 * (if 0 ≤ e.1 then 2 * e.1 else -2 * e.1 - 1) + e.2
def zfC (e : Int × Int) : Nat := (zfD e).toNat
theorem zew {e : Int × Int} (h : zeQ 64 e) : ((zfC e : Nat) : Int) = zfD e := by
 obtain ⟨h1, h2, h3, h4⟩ := h
 unfold zfC zfD
 split <;> omega
theorem codeN_lt {e : Int × Int} (h : zeQ 64 e) : zfC e < 2 ^ 207 := by
 have z := zew h
 obtain ⟨h1, h2, h3, h4⟩ := h
 unfold zfD at z
 split at z <;> omega
theorem codeN_inj {e f : Int × Int} (h : zeQ 64 e) (g : zeQ 64 f) (z : zfC e = zfC f) : e = f := by
 have z1 := zew h
 have z2 := zew g
 obtain ⟨h1, h2, h3, h4⟩ := h
 obtain ⟨g1, g2, g3, g4⟩ := g
 obtain ⟨a, b⟩ := e
 obtain ⟨c, d⟩ := f
 rw [z, z2] at z1
 unfold zfD at z1
 dsimp only at *
 have : a = c ∧ b = d := by
  split at z1 <;> split at z1 <;> omega
 rw [this.1, this.2]
def zig (K : PySem.W.Frag) : Sp := fun vs H Q _ => ∃ (v : V) (e : Int × Int), vs = [v] ∧ Rep.has K H e v ∧ Q (.int (zfD e)) H
theorem ok_code (T : Txt K mg) (D_code : DF K mg "code" zej zeG) : FC P w K mg base 1 "code" zeG (zig K) := by
 refine D_code.ok sc_code (fun vs H Q E h => ?_) (fun f cdv A outer s H vs Q E hr h => ?_)
 ·obtain ⟨v, e, rfl, _⟩ := h
  rfl
 obtain ⟨v, e, rfl, he, q⟩ := h
 obtain ⟨p, x1, x2, rfl, hT, e1, e2⟩ := (show hasP K H e v from he)
 have hT := SqT.of (K := K) hT
 have e1 : x1 = .int e.1 := e1
 have e2 : x2 = .int e.2 := e2
 subst e1 e2
 refine ⟨_, (zae (zaw (i := 1) sc_code.nd rfl (Or.inl rfl) (zaK zbm (pv 0) zaf (fun _ _ => rfl)))
   (zae (zaw (i := 2) sc_code.nd rfl (Or.inl rfl) (zil (zaI op_ge (pv 1) zaf (za8 _)) (zau zcc zaf (pv 1)) (zau zcb (zau zcc (zfA zdX zaf) (pv 1)) zaf)))
   (zai (zaz (zau zbh (zau zcc (zim rfl T.g_KNOT_NUMBERS) (pv 2)) (zaK zbm (pv 0) zaf (fun _ _ => rfl))))))), ?_⟩
 refine ⟨_, rfl, _, _, _, _, rfl, rfl, hT, rfl, ?_⟩
 refine ⟨_, rfl, _, _, rfl, rfl, _, rfl, ?_⟩
 refine ite2 (fun c => ?_) (fun c => ?_)
 ·have c' : 0 ≤ e.1 := of_decide_eq_true c
  refine ⟨_, rfl, _, _, rfl, rfl, .inl ⟨by decide, by decide⟩, ?_⟩
  refine ⟨_, rfl, _, _, rfl, rfl, .inl ⟨by decide, by decide⟩, _, rfl, _, _, _, _, rfl, rfl, hT, rfl, _, _, rfl, rfl, ?_⟩
  unfold zfD at q
  rw [if_pos c'] at q
  exact q
 ·have c' : ¬ 0 ≤ e.1 := of_decide_eq_false (Bool.eq_false_iff.mpr c)
  refine ⟨_, rfl, _, rfl, _, _, rfl, rfl, .inl ⟨by decide, by decide⟩, _, _, rfl, rfl, ?_⟩
  refine ⟨_, rfl, _, _, rfl, rfl, .inl ⟨by decide, by decide⟩, _, rfl, _, _, _, _, rfl, rfl, hT, rfl, _, _, rfl, rfl, ?_⟩
  unfold zfD at q
  rw [if_neg c'] at q
  exact q
abbrev nV (n : Nat) : V := .int (n : Int)
theorem nat_ex {v : Int} (h : 0 ≤ v) : ∃ n : Nat, v = (n : Int) := ⟨v.toNat, by omega⟩
theorem zfv {xs : List Nat} {i : Nat} (h : i < xs.length) : atI (xs.map nV) (i : Int) = some (nV (xs.getD i 0)) :=
 zed (by rw [List.getElem?_map, List.getElem?_eq_getElem h, List.getD_eq_getElem?_getD, List.getElem?_eq_getElem h]; rfl)
theorem at_pred {xs : List Nat} {i : Nat} (h0 : i ≠ 0) (h : i < xs.length) : atI (xs.map nV) ((i : Int) - 1) = some (nV (xs.getD (i - 1) 0)) := by
 have e : (i : Int) - 1 = ((i - 1 : Nat) : Int) := by omega
 rw [e]
 exact zfv (by omega)
theorem zfU {xs : List Nat} {i : Nat} {x : V} (h : (xs.map nV)[i]? = some x) : i < xs.length ∧ x = nV (xs.getD i 0) := by
 rw [List.getElem?_map] at h
 cases e : xs[i]? with
 | none => rw [e] at h; cases h
 | some y =>
  rw [e] at h
  refine ⟨(List.getElem?_eq_some_iff.mp e).1, ?_⟩
  rw [List.getD_eq_getElem?_getD, e]
  exact (Option.some.inj h).symm
theorem and_one (n : Nat) : Builtin.bitAnd (n : Int) 1 = ((n % 2 : Nat) : Int) := by
 unfold Builtin.bitAnd
 rw [decide_eq_true (Int.natCast_nonneg n), decide_eq_true (by decide : (0 : Int) ≤ 1)]
 show ((n &&& 1 : Nat) : Int) = _
 rw [Nat.and_one_is_mod]
theorem fig_is (a b : Nat) : 2 * ((lu a b : Nat) : Int) + Builtin.bitAnd ((b : Int) / 2 ^ ((lu a b : Nat) : Int).toNat) 1 = ((fig a b : Nat) : Int) := by
 have e : (b : Int) / 2 ^ ((lu a b : Nat) : Int).toNat = ((b / 2 ^ lu a b : Nat) : Int) := by
  rw [Int.toNat_natCast, Int.natCast_ediv, Int.natCast_pow]
  rfl
 rw [e, and_one]
 unfold fig
 omega
def But (p : Addr) (H H' : Hp) : Prop := ∀ b o, b ≠ p → H b = some o → H' b = some o
theorem But.sq {K : PySem.W.Frag} {p : Addr} {H H' : Hp} {a : Addr} {xs : List V} (k : But p H H') (h : SqL K H a xs) (n : H p = none) : SqL K H' a xs := by
 rcases h with (h | ⟨o, h⟩) | h
 ·exact .inl (.inl (k _ _ (zab h n) h))
 ·exact .inl (.inr ⟨o, k _ _ (zab h n) h⟩)
 ·exact .inr h
theorem zhP (xs : List Nat) : (xs.map nV).all zfB = true := by
 rw [List.all_eq_true]
 intro x hx
 obtain ⟨n, _, rfl⟩ := List.mem_map.mp hx
 rfl
theorem inV_nV (n : Nat) (xs : List Nat) : inV (.int (n : Int)) (xs.map nV) = decide (n ∈ xs) := by
 unfold inV
 induction xs with
 | nil => rfl
 | cons x xs ih =>
  rw [List.map_cons, List.any_cons, ih]
  show ((x : Int) == (n : Int) || decide (n ∈ xs)) = decide (n ∈ x :: xs)
  by_cases h : x = n
  ·subst h
   simp
  ·have : ((x : Int) == (n : Int)) = false := by
    rw [beq_eq_false_iff_ne]
    omega
   rw [this, Bool.false_or]
   have e : (n ∈ x :: xs) = (n ∈ xs) := propext (by simp [Ne.symm h])
   simp [Ne.symm h]
def ze4 (K : PySem.W.Frag) : Sp := fun vs H Q _ => ∃ (a : Addr) (xs : List Nat), vs = [.ref a] ∧ SqL K H a (xs.map nV) ∧ Unl xs ∧ xs.length ≤ 1000 ∧
 ∀ (p : Addr) (H' : Hp), H p = none → Same H H' → H' p = some (.lst ((zb9 xs).map nV)) → Q (.ref p) H'
theorem ok_turned (T : Txt K mg) (D_turned : DF K mg "turned" zci zc2) (F_lowest_unlike : FC P w K mg base 1 "lowest_unlike" zaU spLow) : FC P w K mg base 2 "turned" zc2 (ze4 K) := by
 refine D_turned.ok sc_turned (fun vs H Q E h => ?_) (fun f cdv A outer s H vs Q E hr h => ?_)
 ·obtain ⟨a, xs, rfl, _⟩ := h
  rfl
 obtain ⟨a, xs, rfl, hS, hu, hz, q⟩ := h
 refine ⟨_, (zae (zaw (i := 1) sc_turned.nd rfl (Or.inl rfl) (zbL zad))
   (zae (zaN PassesOwn.never rfl (zdx rfl T.m_enumerate (zaa (pv 0) zad)) (zfe rfl (zbl (zal (i := 2) sc_turned.nd rfl (Or.inl rfl)) (zbl (zal (i := 3) sc_turned.nd rfl (Or.inl rfl)) zd3))) (zai (zcq (zaI zd7 (pv 2) zaf (za8 _)) (zai (za3 (zc7 F.plainAttrs_list F.slot_list_append F.type_list_append zaD (pv 1) (zaa (zau zds (pv 3) zaf) zad)))) (zae (zaw (i := 4) sc_turned.nd rfl (Or.inl rfl) (zaG F_lowest_unlike hr (zaa (zaK zaE (pv 0) (zau zcb (pv 2) zaf) (fun _ _ => rfl)) (zaa (pv 3) zad))))
   (zai (za3 (zc7 F.plainAttrs_list F.slot_list_append F.type_list_append zaD (pv 1) (zaa (zau zbh (zau zcc zaf (pv 4)) (zau op_and (zau op_shr (pv 3) (pv 4)) zaf)) zad))))))))
   (zai (zaz (pv 1))))), ?_⟩
 refine ⟨(by show 0 ≤ sizeLine; decide), fun p hp => ?_⟩
 have k0 : But p H (upd H p (.lst [])) := fun b o n e => by rw [zag n]; exact e
 refine ⟨_, rfl, a, rfl, ⟨_, k0.sq hS hp⟩, ?_⟩
 refine zgx (xs := xs.map nV) (fun i σ H2 => ∃ x2 x3 x4 : Option V, σ = [some (.ref a), some (.ref p), x2, x3, x4] ∧ H2 p = some (.lst (((zb9 xs).take i).map nV)) ∧ But p H H2) ?_ ?_ ?_ ?_
 ·exact ⟨_, _, _, rfl, zac, k0⟩
 ·rintro i σ H2 _ ⟨x2, x3, x4, rfl, _, k2⟩
  exact k2.sq hS hp
 ·rintro i x σ H2 r hx ⟨x2, x3, x4, rfl, h2, k2⟩ hr
  obtain ⟨hi, rfl⟩ := zfU hx
  have hS2 := k2.sq hS hp
  have np : p ≠ r := zab h2 hr
  have h3 : upd H2 r (.tup [.int i, nV (xs.getD i 0)]) p = some (.lst (((zb9 xs).take i).map nV)) := by rw [zag np]; exact h2
  have k3 : But p H (upd H2 r (.tup [.int i, nV (xs.getD i 0)])) := fun b o n e => (zak hr _) b o (k2 b o n e)
  have hS3 := k3.sq hS hp
  have hlen : (((zb9 xs).take i).map nV).length < sizeLine := zam (by rw [List.length_map, List.length_take, zaV]; omega)
  refine ⟨r, _, rfl, SqT.of zac, rfl, _, _, rfl, _, _, rfl, rfl, ?_⟩
  generalize upd H2 r (.tup [.int i, nV (xs.getD i 0)]) = H3 at h3 k3 hS3 ⊢
  have fin : ∀ v : V, v = nV (zcU xs i) → ∃ y2 y3 y4 : Option V, [some (V.ref a), some (V.ref p), y2, y3, y4] = [some (V.ref a), some (V.ref p), y2, y3, y4] ∧ upd H3 p (.lst (((zb9 xs).take i).map nV ++ [v])) p = some (.lst (((zb9 xs).take (i + 1)).map nV)) ∧ But p H (upd H3 p (.lst (((zb9 xs).take i).map nV ++ [v]))) := by
   rintro v rfl
   refine ⟨none, none, none, rfl, ?_, fun b o n e => by rw [zag n]; exact k3 b o n e⟩
   rw [zac, zfG hi, List.map_append]
   rfl
  refine ⟨_, rfl, rfl, _, rfl, ?_⟩
  refine ite2 (fun c => ?_) (fun c => ?_)
  ·have c' : i = 0 := by
    have := V.int.inj (of_decide_eq_true c)
    omega
   refine ⟨_, rfl, .inl ⟨rfl, _, SqL.of h3⟩, _, rfl, _, _, rfl, rfl, (by show (0 : Int) < 2; decide), _, _, _, rfl, rfl, h3, hlen, ?_⟩
   obtain ⟨_, _, _, _, g2, g3⟩ := fin (.int (((xs.getD i 0 : Nat) : Int) % 2)) (by
    unfold zcU
    rw [if_pos c', c']
    show V.int _ = V.int _
    rw [Int.natCast_emod]
    rfl)
   exact ⟨_, _, _, rfl, g2, g3⟩
  ·have c' : i ≠ 0 := fun z => c (by subst z; decide)
   have hne : xs.getD (i - 1) 0 ≠ xs.getD i 0 := by
    have := hu (i - 1) (by omega)
    rw [show i - 1 + 1 = i by omega] at this
    exact this
   refine ⟨_, rfl, _, rfl, _, _, rfl, rfl, _, _, _, _, rfl, rfl, hS3, at_pred c' hi, _, rfl, _, _, rfl, hne, ?_⟩
   refine ⟨_, rfl, .inl ⟨rfl, _, SqL.of h3⟩, _, rfl, _, _, rfl, rfl, .inl ⟨by decide, by decide⟩, _, rfl, _, rfl, _, _, rfl, rfl, Int.natCast_nonneg _, _, _, rfl, rfl, _, _, rfl, rfl, _, _, _, rfl, rfl, h3, hlen, ?_⟩
   obtain ⟨_, _, _, _, g2, g3⟩ := fin (.int (2 * ((lu (xs.getD (i - 1) 0) (xs.getD i 0) : Nat) : Int) + Builtin.bitAnd (((xs.getD i 0 : Nat) : Int) / 2 ^ ((lu (xs.getD (i - 1) 0) (xs.getD i 0) : Nat) : Int).toNat) 1)) (by
    unfold zcU
    rw [if_neg c', fig_is])
   exact ⟨_, _, _, rfl, g2, g3⟩
 ·rintro σ H2 ⟨x2, x3, x4, rfl, h2, k2⟩
  refine ⟨_, rfl, ?_⟩
  refine q p H2 hp (fun b o e => k2 b o (zab e hp) e) ?_
  rw [h2, List.take_of_length_le (by rw [zaV, List.length_map]; exact Nat.le_refl _)]
def zcJ : Nat → List Nat → List Nat
 | 0, xs => xs
 | n + 1, xs => zb9 (zcJ n xs)
theorem zbn (n : Nat) (xs : List Nat) : (zcJ n xs).length = xs.length := by
 induction n with
 | zero => rfl
 | succ n ih => rw [zcJ, zaV, ih]
theorem zcI {xs : List Nat} (h : Unl xs) (n : Nat) : Unl (zcJ n xs) := by
 induction n with
 | zero => exact h
 | succ n ih => exact zjy ih
theorem zdV {m k : Nat} {xs : List Nat} (h : zdI m xs) (hk : m ≤ k) : zdI k xs := fun i hi => Nat.lt_of_lt_of_le (h i hi) hk
theorem turn_b1 {xs : List Nat} (h : Unl xs) (hb : zdI (2 ^ 207) xs) : zdI 414 (zcJ 1 xs) := zcK (k := 207) (by decide) h hb
theorem turn_b2 {xs : List Nat} (h : Unl xs) (hb : zdI (2 ^ 207) xs) : zdI 18 (zcJ 2 xs) := zcK (k := 9) (by decide) (zcI h 1) (zdV (turn_b1 h hb) (by decide))
theorem turn_b3 {xs : List Nat} (h : Unl xs) (hb : zdI (2 ^ 207) xs) : zdI 10 (zcJ 3 xs) := zcK (k := 5) (by decide) (zcI h 2) (zdV (turn_b2 h hb) (by decide))
theorem turn_b4 {xs : List Nat} (h : Unl xs) (hb : zdI (2 ^ 207) xs) : zdI 8 (zcJ 4 xs) := zcK (k := 4) (by decide) (zcI h 3) (zdV (turn_b3 h hb) (by decide))
theorem turn_b5 {xs : List Nat} (h : Unl xs) (hb : zdI (2 ^ 207) xs) : zdI 6 (zcJ 5 xs) := zcK (k := 3) (by decide) (zcI h 4) (zdV (turn_b4 h hb) (by decide))
def zb4 (es : List (Int × Int)) : List Nat := es.map zfC
theorem zaB (es : List (Int × Int)) : (zb4 es).length = es.length := List.length_map _
theorem zeN {es : List (Int × Int)} {i : Nat} (h : i < es.length) : (zb4 es).getD i 0 = zfC es[i] := by
 unfold zb4
 rw [List.getD_eq_getElem?_getD, List.getElem?_map, List.getElem?_eq_getElem h]
 rfl
theorem zhV {es : List (Int × Int)} (h : ∀ e ∈ es, zeQ 64 e) : zdI (2 ^ 207) (zb4 es) := fun i hi => by
 rw [zaB] at hi
 rw [zeN hi]
 exact codeN_lt (h _ (List.getElem_mem hi))
theorem zev {es : List (Int × Int)} (h : ∀ e ∈ es, zeQ 64 e) (hr : Rise es) : Unl (zb4 es) := fun i hi => by
 rw [zaB] at hi
 rw [zeN (by omega), zeN hi]
 intro z
 have e := codeN_inj (h _ (List.getElem_mem (by omega))) (h _ (List.getElem_mem hi)) z
 have := List.pairwise_iff_getElem.mp hr i (i + 1) (by omega) hi (by omega)
 rw [e] at this
 have q := zdz.mp this
 omega
theorem zf0 {es : List (Int × Int)} {i : Nat} (h : i < es.length) : (zb4 es).take (i + 1) = (zb4 es).take i ++ [zfC es[i]] := by
 have h' : i < (zb4 es).length := by rw [zaB]; exact h
 have z : (zb4 es)[i]'h' = zfC es[i] := List.getElem_map zfC
 rw [List.take_succ_eq_append_getElem h', z]
def zid (K : PySem.W.Frag) : Sp := fun vs H Q _ => ∃ (a : Addr) (ws : List V) (es : List (Int × Int)), vs = [.ref a] ∧ SqL K H a ws ∧ zaj K H es ws ∧ es.length ≤ 1000 ∧ (∀ e ∈ es, zeQ 64 e) ∧ Rise es ∧
 ∀ (p : Addr) (H' : Hp), H p = none → Same H H' → H' p = some (.lst ((zcJ 5 (zb4 es)).map nV)) → Q (.ref p) H'
theorem zf1 {K : PySem.W.Frag} {H0 H2 : Hp} {D : Addr} {es : List (Int × Int)} {ws : List V} {i : Nat} {x : V} (hD : H0 D = none) (hw : zaj K H0 es ws) (hx : ws[i]? = some x) (k : But D H0 H2) : ∃ h : i < es.length, Rep.has K H2 es[i] x := by
 obtain ⟨e, h1, h2⟩ := hw.get hx
 have hi := (List.getElem?_eq_some_iff.mp h1).1
 refine ⟨hi, ?_⟩
 have z : es[i] = e := (List.getElem?_eq_some_iff.mp h1).2
 rw [z]
 obtain ⟨a, x1, x2, rfl, q, e1, e2⟩ := (show hasP K H0 e x from h2)
 exact ⟨a, x1, x2, rfl, k _ _ (zab q hD) q, e1, e2⟩
theorem ok_labels (T : Txt K mg) (D_labels : DF K mg "labels" zcj zc3) (F_code : FC P w K mg base 1 "code" zeG (zig K)) (F_turned : FC P w K mg base 2 "turned" zc2 (ze4 K)) : FC P w K mg base 3 "labels" zc3 (zid K) := by
 refine D_labels.ok sc_labels (fun vs H Q E h => ?_) (fun f cdv A outer s H vs Q E hr h => ?_)
 ·obtain ⟨a, ws, es, rfl, _⟩ := h
  rfl
 obtain ⟨a, ws, es, rfl, hS, hw, hz, he, hri, q⟩ := h
 have hlen := hw.length
 refine ⟨_, (zae (zd1 (i := 1) (N := ["entry"]) (own := 1) (cap := []) sc_labels.nd rfl rfl rfl (zbg (pv 0)) ⟨rfl, rfl, rfl, rfl, rfl, rfl⟩ (fun _ _ _ _ _ => (zal (i := 0) (show List.Nodup (["entry"] : List Str) by decide +kernel) rfl (Or.inl rfl))) (fun _ _ _ _ _ => zcM) (fun _ _ _ _ _ => (zaG F_code hr (zaa (pv 0) zad))))
   (zae (zaN PassesOwn.never rfl (za0 rfl T.m_range (zaa (zim rfl T.g_TURNS) zad)) (zal (i := 2) sc_labels.nd rfl (Or.inl rfl)) (zai (zaw (i := 1) sc_labels.nd rfl (Or.inl rfl) (zaG F_turned hr (zaa (pv 1) zad)))))
   (zai (zaz (pv 1))))), ?_⟩
 refine ⟨_, rfl, a, rfl, ⟨_, hS⟩, fun D hD => ?_⟩
 have k0 : But D H (upd H D (.lst [])) := fun b o n e => by rw [zag n]; exact e
 refine zcS (xs := ws) (fun i σ H2 => ∃ x0 : Option V, σ = [x0] ∧ H2 D = some (.lst (((zb4 es).take i).map nV)) ∧ But D H H2) ?_ ?_ ?_ ?_
 ·exact ⟨_, rfl, zac, k0⟩
 ·rintro i σ H2 _ ⟨x0, rfl, _, k2⟩
  exact k2.sq hS hD
 ·rintro i m x σ H2 hx hm ⟨x0, rfl, h2, k2⟩
  obtain ⟨hi, hhas⟩ := zf1 hD hw hx k2
  refine zdC ?_
  refine ⟨_, rfl, x, es[i], rfl, hhas, ?_⟩
  refine ⟨_, h2, zam (by rw [List.length_map, List.length_take, zaB]; omega), m - 1, by omega, by omega, _, rfl, ?_, fun b o n e => by rw [zag n]; exact k2 b o n e⟩
  rw [zac, zf0 hi, List.map_append, ← zew (he _ (List.getElem_mem hi))]
  rfl
 ·rintro σ H2 ⟨x0, rfl, h2, k2⟩
  have e0 : H2 D = some (.lst ((zb4 es).map nV)) := by
   rw [h2, List.take_of_length_le (by rw [zaB]; omega)]
  have same0 : Same H H2 := fun b o e => k2 b o (zab e hD) e
  refine ⟨5, rfl, by decide, by decide, ?_⟩
  refine zbi (n := 5) (fun i σ H3 => ∃ (p : Addr) (x2 x3 : Option V), σ = [some (.ref a), some (.ref p), x2] ∧ H p = none ∧ Same H H3 ∧ H3 p = some (.lst ((zcJ i (zb4 es)).map nV))) ?_ ?_ ?_
  ·exact ⟨D, _, none, rfl, hD, same0, e0⟩
  ·rintro i σ H3 hi ⟨p, x2, x3, rfl, hp, s3, h3⟩
   refine ⟨_, rfl, p, _, rfl, SqL.of h3, zcI (zev he hri) i, by rw [zbn, zaB]; exact hz, fun p4 H4 hp4 s4 h4 => ?_⟩
   exact ⟨p4, _, none, rfl, s3.free hp4, s3.trans s4, h4⟩
  ·rintro σ H3 ⟨p, x2, x3, rfl, hp, s3, h3⟩
   refine ⟨_, rfl, ?_⟩
   exact q p H3 hp s3 h3
theorem ok_lcode (T : Txt K mg) (D_l_code : DF K mg "_law_code" zcn zc5) : FC P w K mg base 1 "_law_code" zc5 (zig K) := by
 refine D_l_code.ok sc_l_code (fun vs H Q E h => ?_) (fun f cdv A outer s H vs Q E hr h => ?_)
 ·obtain ⟨v, e, rfl, _⟩ := h
  rfl
 obtain ⟨v, e, rfl, he, q⟩ := h
 obtain ⟨p, x1, x2, rfl, hT, e1, e2⟩ := (show hasP K H e v from he)
 have hT := SqT.of (K := K) hT
 have e1 : x1 = .int e.1 := e1
 have e2 : x2 = .int e.2 := e2
 subst e1 e2
 refine ⟨_, (zae (zeS (pv 0) (zfe rfl (zbl (zal (i := 1) sc_l_code.nd rfl (Or.inl rfl)) (zbl (zal (i := 2) sc_l_code.nd rfl (Or.inl rfl)) zd3))))
   (zbk (zcq (zaI op_lt (pv 1) zaf (za8 _)) (zai (zaz (zau zbh (zau zcc zaf (zau zcb (zau zcc (zfA zdX zaf) (pv 1)) zaf)) (pv 2)))) zaT)
   (zai (zaz (zau zbh (zau zcc zaf (pv 1)) (pv 2)))))), ?_⟩
 refine ⟨_, rfl, p, _, rfl, hT, rfl, _, _, rfl, _, _, rfl, rfl, ?_⟩
 refine ⟨fun σ' H' => σ' = [some (.ref p), some (.int e.1), some (.int e.2)] ∧ H = H' ∧ 0 ≤ e.1, ?_, ?_⟩
 ·refine ⟨_, rfl, _, _, rfl, rfl, _, rfl, ?_⟩
  refine ite2 (fun c => ?_) (fun c => ?_)
  ·have c' : e.1 < 0 := of_decide_eq_true c
   refine ⟨_, rfl, _, rfl, _, _, rfl, rfl, .inl ⟨by decide, by decide⟩, _, _, rfl, rfl, _, _, rfl, rfl, .inl ⟨by decide, by decide⟩, _, rfl, _, _, rfl, rfl, ?_⟩
   unfold zfD at q
   rw [if_neg (by omega)] at q
   exact q
  ·exact ⟨rfl, rfl, by have := of_decide_eq_false (Bool.eq_false_iff.mpr c); omega⟩
 rintro σ' H' ⟨rfl, rfl, c⟩
 refine ⟨_, rfl, _, _, rfl, rfl, .inl ⟨by decide, by decide⟩, _, rfl, _, _, rfl, rfl, ?_⟩
 unfold zfD at q
 rw [if_pos c] at q
 have z : 64 * (2 * e.1) + e.2 = 128 * e.1 + e.2 := by omega
 rw [z] at q
 exact q
def wMes : L2.St → Hp → Nat := fun σ _ => match σ with
 | [_, _, _, some (.int x), some (.int y), _] => x.toNat + y.toNat
 | _ => 0
theorem zi6 (T : Txt K mg) (D_l_turned : DF K mg "_law_turned" zbq zb0) : FC P w K mg base 1 "_law_turned" zb0 (ze4 K) := by
 refine D_l_turned.ok sc_l_turned (fun vs H Q E h => ?_) (fun f cdv A outer s H vs Q E hr h => ?_)
 ·obtain ⟨a, xs, rfl, _⟩ := h
  rfl
 obtain ⟨a, xs, rfl, hS, hu, hz, q⟩ := h
 refine ⟨_, (zae (zaw (i := 1) sc_l_turned.nd rfl (Or.inl rfl) (zbL zad))
   (zae (zaN PassesOwn.never rfl (za0 rfl T.m_range (zaa (zao zaq rfl T.m_len boot_len (zaa (pv 0) zad)) zad)) (zal (i := 2) sc_l_turned.nd rfl (Or.inl rfl)) (zai (zcq (zaI zd7 (pv 2) zaf (za8 _)) (zai (za3 (zc7 F.plainAttrs_list F.slot_list_append F.type_list_append zaD (pv 1) (zaa (zau zds (zaK zaE (pv 0) zaf (fun _ _ => rfl)) zaf) zad)))) (zae (zaw (i := 3) sc_l_turned.nd rfl (Or.inl rfl) (zaK zaE (pv 0) (pv 2) (fun _ _ => rfl)))
   (zae (zaw (i := 4) sc_l_turned.nd rfl (Or.inl rfl) (zaK zaE (pv 0) (zau zcb (pv 2) zaf) (fun _ _ => rfl)))
   (zae (zaw (i := 5) sc_l_turned.nd rfl (Or.inl rfl) zaf)
   (zae (ps_while PassesOwn.never (zaI zd7 (zau zds (pv 3) zaf) (zau zds (pv 4) zaf) (za8 _)) (zae (zaw (i := 3) sc_l_turned.nd rfl (Or.inl rfl) (zau zgl (pv 3) zaf))
   (zae (zaw (i := 4) sc_l_turned.nd rfl (Or.inl rfl) (zau zgl (pv 4) zaf))
   (zai (zaw (i := 5) sc_l_turned.nd rfl (Or.inl rfl) (zau zbh (pv 5) zaf))))))
   (zai (za3 (zc7 F.plainAttrs_list F.slot_list_append F.type_list_append zaD (pv 1) (zaa (zau zbh (zau zcc zaf (pv 5)) (zau zds (pv 3) zaf)) zad)))))))))))
   (zai (zaz (pv 1))))), ?_⟩
 refine ⟨(by show 0 ≤ sizeLine; decide), fun p hp => ?_⟩
 have k0 : But p H (upd H p (.lst [])) := fun b o n e => by rw [zag n]; exact e
 refine ⟨_, rfl, _, _, rfl, .inl (k0.sq hS hp), _, rfl, by rw [List.length_map]; omega, by rw [List.length_map]; omega, ?_⟩
 have el : ((((xs.map nV).length : Nat) : Int)).toNat = xs.length := by rw [List.length_map, Int.toNat_natCast]
 rw [el]
 refine zbi (n := xs.length) (fun i σ H2 => ∃ x2 x3 x4 x5 : Option V, σ = [some (.ref a), some (.ref p), x2, x3, x4, x5] ∧ H2 p = some (.lst (((zb9 xs).take i).map nV)) ∧ But p H H2) ?_ ?_ ?_
 ·exact ⟨_, _, _, _, rfl, zac, k0⟩
 ·rintro i σ H2 hi ⟨x2, x3, x4, x5, rfl, h2, k2⟩
  have hS2 := k2.sq hS hp
  have hlen : (((zb9 xs).take i).map nV).length < sizeLine := zam (by rw [List.length_map, List.length_take, zaV]; omega)
  have fin : ∀ v : V, v = nV (zcU xs i) → upd H2 p (.lst (((zb9 xs).take i).map nV ++ [v])) p = some (.lst (((zb9 xs).take (i + 1)).map nV)) ∧ But p H (upd H2 p (.lst (((zb9 xs).take i).map nV ++ [v]))) := by
   rintro v rfl
   refine ⟨?_, fun b o n e => by rw [zag n]; exact k2 b o n e⟩
   rw [zac, zfG hi, List.map_append]
   rfl
  refine ⟨_, rfl, rfl, _, rfl, ?_⟩
  refine ite2 (fun c => ?_) (fun c => ?_)
  ·have c' : i = 0 := by
    have := V.int.inj (of_decide_eq_true c)
    omega
   have hat : atI (xs.map nV) 0 = some (nV (xs.getD 0 0)) := zfv (i := 0) (by omega)
   refine ⟨_, rfl, .inl ⟨rfl, _, SqL.of h2⟩, _, rfl, _, _, _, _, rfl, rfl, hS2, hat, _, _, rfl, rfl, (by show (0 : Int) < 2; decide), _, _, _, rfl, rfl, h2, hlen, ?_⟩
   obtain ⟨g2, g3⟩ := fin (.int (((xs.getD 0 0 : Nat) : Int) % 2)) (by
    unfold zcU
    rw [if_pos c']
    show V.int _ = V.int _
    rw [Int.natCast_emod]
    rfl)
   exact ⟨_, _, _, _, rfl, g2, g3⟩
  ·have c' : i ≠ 0 := fun z => c (by subst z; decide)
   have hne : xs.getD (i - 1) 0 ≠ xs.getD i 0 := by
    have := hu (i - 1) (by omega)
    rw [show i - 1 + 1 = i by omega] at this
    exact this
   have hat : atI (xs.map nV) (0 + (i : Int)) = some (nV (xs.getD i 0)) := by rw [Int.zero_add]; exact zfv hi
   have hatp : atI (xs.map nV) (0 + (i : Int) - 1) = some (nV (xs.getD (i - 1) 0)) := by rw [Int.zero_add]; exact at_pred c' hi
   refine ⟨_, rfl, _, rfl, _, _, _, _, rfl, rfl, hS2, hat, ?_⟩
   refine ⟨_, rfl, _, rfl, _, _, rfl, rfl, _, _, _, _, rfl, rfl, hS2, hatp, ?_⟩
   have et : zcU xs i = fig (xs.getD (i - 1) 0) (xs.getD i 0) := by unfold zcU; rw [if_neg c']
   rw [et] at fin
   generalize xs.getD (i - 1) 0 = Y at *
   generalize xs.getD i 0 = X at *
   refine while_by (fun σ H' => ∃ x y j : Nat, σ = [some (.ref a), some (.ref p), some (.int (0 + i)), some (.int x), some (.int y), some (.int j)] ∧ H' = H2 ∧ x ≠ y ∧ lu Y X = j + lu y x ∧ x = X / 2 ^ j) wMes ?_ ?_ ?_
   ·exact ⟨X, Y, 0, rfl, rfl, Ne.symm hne, by omega, by rw [Nat.pow_zero, Nat.div_one]⟩
   ·rintro σ H' ⟨x, y, j, rfl, rfl, hxy, hl, hx⟩
    refine ⟨_, rfl, _, _, rfl, rfl, (by show (0 : Int) < 2; decide), _, rfl, _, _, rfl, rfl, (by show (0 : Int) < 2; decide), rfl, _, rfl, ?_⟩
    refine ite2 (fun e => ?_) (fun e => ?_)
    ·have e' : x % 2 = y % 2 := by
      have := V.int.inj (of_decide_eq_true e)
      omega
     refine ⟨_, rfl, _, _, rfl, rfl, ⟨by decide, by decide⟩, _, rfl, _, _, rfl, rfl, ⟨by decide, by decide⟩, _, rfl, _, _, rfl, rfl, ?_⟩
     refine ⟨⟨x / 2, y / 2, j + 1, ?_, rfl, by omega, ?_, ?_⟩, ?_⟩
     ·rw [Int.natCast_ediv, Int.natCast_ediv, Int.natCast_add]
      rfl
     ·rw [hl, zgr (Ne.symm hxy) e'.symm]
      omega
     ·rw [hx, Nat.pow_succ, Nat.div_div_eq_div_mul]
     ·show ((x : Int) / 2).toNat + ((y : Int) / 2).toNat < (x : Int).toNat + (y : Int).toNat
      omega
    ·have e' : x % 2 ≠ y % 2 := fun z => e (by
      apply decide_eq_true
      show V.int _ = V.int _
      have z' : (x : Int) % 2 = (y : Int) % 2 := by omega
      rw [z'])
     rw [ziz (Ne.symm e')] at hl
     refine ⟨_, rfl, .inl ⟨rfl, _, SqL.of h2⟩, _, rfl, _, _, rfl, rfl, .inl ⟨by decide, by decide⟩, _, rfl, _, _, rfl, rfl, (by show (0 : Int) < 2; decide), _, _, rfl, rfl, _, _, _, rfl, rfl, h2, hlen, ?_⟩
     obtain ⟨g2, g3⟩ := fin (.int (2 * (j : Int) + (x : Int) % 2)) (by
      show V.int _ = V.int _
      unfold fig
      rw [hl, Nat.add_zero, ← hx, Int.natCast_add, Int.natCast_mul, Int.natCast_emod]
      rfl)
     exact ⟨_, _, _, _, rfl, g2, g3⟩
   ·intro σ H Q Q' m h
    obtain ⟨x1, e1, i1, j1, f1, g1, c1, x2, e2, i2, j2, f2, g2, c2, r1, b, e, q⟩ := h
    exact ⟨x1, e1, i1, j1, f1, g1, c1, x2, e2, i2, j2, f2, g2, c2, r1, b, e, m _ _ q⟩
 ·rintro σ H2 ⟨x2, x3, x4, x5, rfl, h2, k2⟩
  refine ⟨_, rfl, ?_⟩
  refine q p H2 hp (fun b o e => k2 b o (zab e hp) e) ?_
  rw [h2, List.take_of_length_le (by rw [zaV]; exact Nat.le_refl _)]
theorem zhr {n d i : Nat} : HT.sIx n d (some (i : Int)) = min i n := by
 unfold HT.sIx
 simp
 try omega
theorem zgz (xs : List V) (a b : Nat) : cutV xs (some (a : Int)) (some (b : Int)) = (xs.drop a).take (b - a) := by
 unfold cutV
 rw [zhr, zhr]
 by_cases h : a ≤ xs.length
 ·rw [Nat.min_eq_left h]
  by_cases h2 : b ≤ xs.length
  ·rw [Nat.min_eq_left h2]
  ·rw [Nat.min_eq_right (by omega), List.take_of_length_le (by rw [List.length_drop]; exact Nat.le_refl _), List.take_of_length_le (by rw [List.length_drop]; omega)]
 ·rw [Nat.min_eq_right (show xs.length ≤ a by omega), List.drop_eq_nil_of_le (Nat.le_refl _), List.drop_eq_nil_of_le (show xs.length ≤ a by omega)]
  simp
theorem zfI {α : Type} (xs : List α) (k : Nat) : (xs.drop k).take 1 = xs[k]?.toList := by
 by_cases h : k < xs.length
 ·rw [List.drop_eq_getElem_cons h, List.getElem?_eq_getElem h]
  rfl
 ·rw [List.drop_eq_nil_of_le (by omega), List.getElem?_eq_none (by omega)]
  rfl
theorem zg9 {xs : List V} {k : Nat} {i j : Int} (hi : i = if (k : Int) - 1 > 0 then (k : Int) - 1 else 0) (hj : j = (k : Int)) : cutV xs (some i) (some j) = (if k = 0 then none else xs[k - 1]?).toList := by
 subst hj
 have e : i = ((k - 1 : Nat) : Int) := by
  rw [hi]
  split <;> omega
 subst e
 rw [zgz]
 split
 ·rename_i h
  subst h
  simp
 ·rw [show k - (k - 1) = 1 by omega, zfI]
theorem zfZ {xs : List V} {k : Nat} {i j : Int} (hi : i = (k : Int) + 1) (hj : j = (k : Int) + 2) : cutV xs (some i) (some j) = xs[k + 1]?.toList := by
 subst hi hj
 rw [show (k : Int) + 1 = ((k + 1 : Nat) : Int) by omega, show (k : Int) + 2 = ((k + 2 : Nat) : Int) by omega, zgz, show k + 2 - (k + 1) = 1 by omega, zfI]
theorem zfr (xs : List Nat) (k : Nat) : (if k = 0 then none else (xs.map nV)[k - 1]?).toList ++ (xs.map nV)[k + 1]?.toList = (zaF xs k).map nV := by
 unfold zaF
 rw [List.map_append, List.getElem?_map, List.getElem?_map]
 congr 1
 ·split
  ·rfl
  ·cases xs[k - 1]? <;> rfl
 ·cases xs[k + 1]? <;> rfl
theorem zfE (xs : List Nat) (k : Nat) : (zaF xs k).length ≤ 2 := by
 have e : ∀ o : Option Nat, o.toList.length ≤ 1 := fun o => by cases o <;> simp
 unfold zaF
 rw [List.length_append]
 have := e (if k = 0 then none else xs[k - 1]?)
 have := e xs[k + 1]?
 omega
theorem But.new {p b : Addr} {H H2 : Hp} (k : But p H H2) (hb : H2 b = none) (o : HO) : But p H (upd H2 b o) := fun x o' n e => (zak hb o) x o' (k x o' n e)
theorem tBeside {K : PySem.W.Frag} {i j : Nat} {σ : L2.St} {H2 : Hp} {Q : VK} {a : Addr} {xs : List Nat} {k : Nat} {z : Int} (ez : z = (k : Int)) (e1 : σ[i]? = some (some (.ref a))) (e2 : σ[j]? = some (some (.int z))) (h2a : H2 a = some (.lst (xs.map nV)))
  (q : ∀ g H5, H2 g = none → Same H2 H5 → H5 g = some (.lst ((zaF xs k).map nV)) → Q (.ref g) H5) :
  tOp rCat (tSl (rSlL K) (tVar i) (zjD (tCB (fun xs H Q => ∃ i j, xs = [V.int i, V.int j] ∧ Q (V.int (if j > i then j else i)) H) (tCons (tC (V.int 0)) (tCons (tOp (rI0 fun i j => V.int (i - j)) (tVar j) (tC (V.int 1))) tNil)))) (zjD (tVar j)))
   (tSl (rSlL K) (tVar i) (zjD (tOp (rI0 fun i j => V.int (i + j)) (tVar j) (tC (V.int 1)))) (zjD (tOp (rI0 fun i j => V.int (i + j)) (tVar j) (tC (V.int 2))))) σ H2 Q := by
 subst ez
 refine ⟨_, e1, _, e2, _, _, rfl, rfl, _, _, rfl, _, rfl, _, e2, _, rfl, _, _, rfl, SqL.of h2a, fun b hb => ?_⟩
 have kb := zak hb (.lst (cutV (xs.map nV) (some (if (k : Int) - 1 > 0 then (k : Int) - 1 else 0)) (some (k : Int))))
 have hbb : upd H2 b (.lst (cutV (xs.map nV) (some (if (k : Int) - 1 > 0 then (k : Int) - 1 else 0)) (some (k : Int)))) b = some (.lst (if k = 0 then none else (xs.map nV)[k - 1]?).toList) := by
  rw [zac, zg9 (k := k) rfl rfl]
 generalize upd H2 b (.lst (cutV (xs.map nV) (some (if (k : Int) - 1 > 0 then (k : Int) - 1 else 0)) (some (k : Int)))) = H3 at kb hbb ⊢
 refine ⟨_, e1, _, e2, _, _, rfl, rfl, _, rfl, _, e2, _, _, rfl, rfl, _, rfl, _, _, rfl, SqL.of (kb _ _ h2a), fun c hc => ?_⟩
 have kc := zak hc (.lst (cutV (xs.map nV) (some ((k : Int) + 1)) (some ((k : Int) + 2))))
 have hcb := kc _ _ hbb
 have hcc : upd H3 c (.lst (cutV (xs.map nV) (some ((k : Int) + 1)) (some ((k : Int) + 2)))) c = some (.lst (xs.map nV)[k + 1]?.toList) := by
  rw [zac, zfZ (k := k) rfl rfl]
 generalize upd H3 c (.lst (cutV (xs.map nV) (some ((k : Int) + 1)) (some ((k : Int) + 2)))) = H4 at kc hcb hcc ⊢
 refine ⟨b, c, _, _, rfl, rfl, hcb, hcc, ?_, fun g hg => ?_⟩
 ·rw [← List.length_append, zfr, List.length_map]
  exact Nat.le_trans (zfE _ _) (by decide)
 rw [zfr]
 exact q g _ (kb.free (kc.free hg)) (kb.trans (kc.trans (zak hg _))) zac
def zeh (K : PySem.W.Frag) : Sp := fun vs H Q _ => ∃ (a : Addr) (xs : List Nat), vs = [.ref a] ∧ SqL K H a (xs.map nV) ∧ Unl xs ∧ zdI 6 xs ∧ xs.length ≤ 1000 ∧
 ∀ (p : Addr) (H' : Hp), H p = none → Same H H' → H' p = some (.lst ((colL xs).map nV)) → Q (.ref p) H'
def zbM (es : List (Int × Int)) : List Bool := zeV (colL (zcJ 5 (zb4 es)))
theorem zdl (es : List (Int × Int)) : (zbM es).length = es.length := by
 unfold zbM
 rw [zgp, zec, zbn, zaB]
theorem zgs {es : List (Int × Int)} (he : ∀ e ∈ es, zeQ 64 e) (hri : Rise es) : Unl (zcJ 5 (zb4 es)) := zcI (zev he hri) 5
theorem zg1 {es : List (Int × Int)} (he : ∀ e ∈ es, zeQ 64 e) (hri : Rise es) : zdI 6 (zcJ 5 (zb4 es)) := turn_b5 (zev he hri) (zhV he)
def zfa (K : PySem.W.Frag) : Sp := fun vs H Q _ => ∃ (a : Addr) (ws : List V) (es : List (Int × Int)), vs = [.ref a] ∧ H a = some (.lst ws) ∧ zaj K H es ws ∧ es.length ≤ 1000 ∧ (∀ e ∈ es, zeQ 64 e) ∧ Rise es ∧
 ∀ (p : Addr) (H' : Hp), H p = none → Same H H' → H' p = some (.lst ((zbM es).map V.bl)) → Q (.ref p) H'
def zif (K : PySem.W.Frag) : Sp := fun vs H Q _ => ∃ (a : Addr) (ws : List V) (es : List (Int × Int)), vs = [.ref a] ∧ H a = some (.lst ws) ∧ zaj K H es ws ∧ es.length ≤ 1000 ∧ (∀ e ∈ es, zeQ 64 e) ∧ Rise es ∧
 ∀ (p : Addr) (H' : Hp), H p = none → Same H H' → H' p = some (.lst (zbw ws (zbM es))) → Q (.ref p) H'
theorem zeC {α : Type} (xs : List α) (m j : Nat) : (xs.drop m).take (j + 1) = xs[m]?.toList ++ (xs.drop (m + 1)).take j := by
 by_cases h : m < xs.length
 ·rw [List.drop_eq_getElem_cons h, List.getElem?_eq_getElem h]
  rfl
 ·rw [List.drop_eq_nil_of_le (by omega), List.getElem?_eq_none (by omega), List.drop_eq_nil_of_le (by omega)]
  simp
theorem zc0 (o : Option Bool) : o.toList.any id = o.getD false := by
 cases o with
 | none => rfl
 | some b => cases b <;> rfl
theorem any3 (ms : List Bool) {k : Nat} (h : 1 ≤ k) : ((ms.drop (k - 1)).take 3).any id = !zdF ms k := by
 rw [zeC, zeC, zeC, List.any_append, List.any_append, List.any_append, zc0, zc0, zc0, show k - 1 + 1 = k by omega, List.take_zero]
 unfold zdF
 rw [List.getD_eq_getElem?_getD, List.getD_eq_getElem?_getD, List.getD_eq_getElem?_getD]
 generalize ms[k - 1]?.getD false = x
 generalize ms[k]?.getD false = y
 generalize ms[k + 1]?.getD false = z
 cases x <;> cases y <;> cases z <;> rfl
theorem ziJ (ms : List Bool) : inV (.bl true) (ms.map V.bl) = ms.any id := by
 unfold inV
 induction ms with
 | nil => rfl
 | cons m ms ih =>
  rw [List.map_cons, List.any_cons, ih, List.any_cons]
  cases m <;> rfl
theorem flat_bl (ms : List Bool) : (ms.map V.bl).all zfB = true := by
 rw [List.all_eq_true]
 intro x hx
 obtain ⟨n, _, rfl⟩ := List.mem_map.mp hx
 rfl
theorem cut_mid {ms : List Bool} {k : Nat} {i j : Int} (h : 1 ≤ k) (hi : i = (k : Int) - 1) (hj : j = (k : Int) + 2) : cutV (ms.map V.bl) (some i) (some j) = ((ms.drop (k - 1)).take 3).map V.bl := by
 subst hi hj
 rw [show (k : Int) - 1 = ((k - 1 : Nat) : Int) by omega, show (k : Int) + 2 = ((k + 2 : Nat) : Int) by omega, zgz, show k + 2 - (k - 1) = 3 by omega, List.map_take, List.map_drop]
theorem zg5 {α : Type} {as : List α} {bs : List Bool} {a : α} {b : Bool} (h : as.length = bs.length) : zbw (as ++ [a]) (bs ++ [b]) = zbw as bs ++ (if b = true then [a] else []) := by
 unfold zbw
 rw [List.zip_append h, List.filter_append, List.map_append]
 congr 1
 cases b <;> rfl
theorem zfj {α : Type} (as : List α) (bs : List Bool) : (zbw as bs).length ≤ as.length := by
 unfold zbw
 rw [List.length_map]
 refine Nat.le_trans (List.length_filter_le _ _) ?_
 rw [List.length_zip]
 omega
theorem ziN {α : Type} [Rep α] {K : PySem.W.Frag} {H : Hp} : ∀ {es : List α} {ws : List V} {ms : List Bool}, zaj K H es ws → zaj K H (zbw es ms) (zbw ws ms)
 | _, _, _, .nil => by
  unfold zbw
  exact .nil
 | e :: es, w :: ws, [], .cons h t => by
  unfold zbw
  exact .nil
 | e :: es, w :: ws, m :: ms, .cons h t => by
  have := ziN (ms := ms) t
  unfold zbw at this ⊢
  cases m with
  | false => exact this
  | true => exact .cons h this
theorem zb7 (bs : List Nat) (c : Nat) : ((List.range (c + 1)).filter fun c => !decide (c ∈ bs)) = ((List.range c).filter fun c => !decide (c ∈ bs)) ++ (if c ∈ bs then [] else [c]) := by
 rw [List.range_succ, List.filter_append]
 congr 1
 by_cases h : c ∈ bs
 ·rw [if_pos h]
  simp [List.filter, h]
 ·rw [if_neg h]
  simp [List.filter, h]
theorem zb5 {H : Hp} {p t : Addr} {xs ys : List V} (h1 : H p = some (.lst xs)) (h2 : H t = some (.tup ys)) : p ≠ t := fun z => by
 rw [z, h2] at h1
 cases h1
theorem zeK {n k : Nat} (h : k < n) : ixN n (k : Int) = some k := by
 unfold ixN
 simp
 omega
def besV (xs : List V) (k : Nat) : List V := (if k = 0 then none else xs[k - 1]?).toList ++ xs[k + 1]?.toList
theorem zhW (xs : List V) (k : Nat) : (besV xs k).length ≤ 2 := by
 have e : ∀ o : Option V, o.toList.length ≤ 1 := fun o => by cases o <;> simp
 unfold besV
 rw [List.length_append]
 have := e (if k = 0 then none else xs[k - 1]?)
 have := e xs[k + 1]?
 omega
def spNb (K : PySem.W.Frag) : Sp := fun vs H Q _ => ∃ (a : Addr) (xs : List V) (k : Nat), vs = [.ref a, .int k] ∧ H a = some (.lst xs) ∧
 ∀ (g : Addr) (H' : Hp), H g = none → Same H H' → H' g = some (.lst (besV xs k)) → Q (.ref g) H'
theorem zgm (T : Txt K mg) (D_neighbours : DF K mg "neighbours" zaW zbf) : FC P w K mg base 1 "neighbours" zbf (spNb K) := by
 refine D_neighbours.ok sc_neighbours (fun vs H Q E h => ?_) (fun f cdv A outer s H vs Q E hr h => ?_)
 ·obtain ⟨a, xs, k, rfl, _⟩ := h
  rfl
 obtain ⟨a, xs, k, rfl, ha, q⟩ := h
 refine ⟨_, (zai (zaz (zau op_cat (zel zfb (pv 0) (zcZ (zao (zfq rfl) rfl T.m_max boot_max (zaa (zau zcb (pv 1) zaf) (zaa zaf zad)))) (zcZ (pv 1))) (zel zfb (pv 0) (zcZ (zau zbh (pv 1) zaf)) (zcZ (zau zbh (pv 1) zaf)))))), ?_⟩
 refine ⟨_, rfl, _, rfl, _, _, rfl, rfl, _, _, rfl, _, rfl, _, rfl, _, rfl, _, _, rfl, SqL.of ha, fun b hb => ?_⟩
 have kb := zak hb (.lst (cutV xs (some (if 0 > (k : Int) - 1 then 0 else (k : Int) - 1)) (some (k : Int))))
 have hbb : upd H b (.lst (cutV xs (some (if 0 > (k : Int) - 1 then 0 else (k : Int) - 1)) (some (k : Int)))) b = some (.lst (if k = 0 then none else xs[k - 1]?).toList) := by
  rw [zac, zg9 (k := k) (by split <;> split <;> omega) rfl]
 generalize upd H b (.lst (cutV xs (some (if 0 > (k : Int) - 1 then 0 else (k : Int) - 1)) (some (k : Int)))) = H3 at kb hbb ⊢
 refine ⟨_, rfl, _, rfl, _, _, rfl, rfl, _, rfl, _, rfl, _, _, rfl, rfl, _, rfl, _, _, rfl, SqL.of (kb _ _ ha), fun c hc => ?_⟩
 have kc := zak hc (.lst (cutV xs (some ((k : Int) + 1)) (some ((k : Int) + 2))))
 have hcb := kc _ _ hbb
 have hcc : upd H3 c (.lst (cutV xs (some ((k : Int) + 1)) (some ((k : Int) + 2)))) c = some (.lst xs[k + 1]?.toList) := by
  rw [zac, zfZ (k := k) rfl rfl]
 generalize upd H3 c (.lst (cutV xs (some ((k : Int) + 1)) (some ((k : Int) + 2)))) = H4 at kc hcb hcc ⊢
 refine ⟨b, c, _, _, rfl, rfl, hcb, hcc, ?_, fun g hg => ?_⟩
 ·rw [← List.length_append]
  exact Nat.le_trans (zhW xs k) (by decide)
 exact q g _ (kb.free (kc.free hg)) (kb.trans (kc.trans (zak hg _))) zac
def spFree (K : PySem.W.Frag) : Sp := fun vs H Q _ => ∃ (a : Addr) (xs : List Nat) (k : Nat), vs = [.ref a] ∧ H a = some (.lst ((zaF xs k).map nV)) ∧
 ∀ H' : Hp, Same H H' → Q (.int (zcQ xs k : Nat)) H'
theorem zgn (T : Txt K mg) (D_least_free : DF K mg "least_free" zaX zbt) : FC P w K mg base 1 "least_free" zbt (spFree K) := by
 refine D_least_free.ok sc_least_free (fun vs H Q E h => ?_) (fun f cdv A outer s H vs Q E hr h => ?_)
 ·obtain ⟨a, xs, k, rfl, _⟩ := h
  rfl
 obtain ⟨a, xs, k, rfl, ha, q⟩ := h
 refine ⟨_, (zai (zaz (zao (call_minL rfl) rfl T.m_min boot_min (zaa (zdh (N := ["colour", "taken"]) (own := 1) (cap := [0]) rfl (zfd (zca (zaa zaf (zaa zaf (zaa zaf zad))))) ⟨rfl, rfl, rfl, rfl, rfl, rfl⟩ (fun _ _ _ _ _ => (zal (i := 0) (show List.Nodup (["colour", "taken"] : List Str) by decide +kernel) rfl (Or.inl rfl))) (fun _ _ _ _ _ => (zeF (zaI (zen (K := K)) (pv 0) (pv 1) (by with_unfolding_all rfl)))) (fun _ _ _ _ _ => (pv 0))) zad)))), ?_⟩
 refine ⟨(by show 3 ≤ sizeLine; decide), fun t ht => ?_⟩
 have st := zak ht (.tup [V.int 0, V.int 1, V.int 2])
 have ht1 : upd H t (.tup [V.int 0, V.int 1, V.int 2]) t = some (.tup [V.int 0, V.int 1, V.int 2]) := zac
 generalize upd H t (.tup [V.int 0, V.int 1, V.int 2]) = H1 at st ht1 ⊢
 have h1a := st _ _ ha
 refine ⟨t, rfl, ⟨_, SqT.of ht1⟩, fun D hD => ?_⟩
 refine zgA (xs := [V.int 0, V.int 1, V.int 2]) (fun c σ H6 => ∃ x0 : Option V, σ = [x0, some (.ref a)] ∧ H6 D = some (.lst (((List.range c).filter fun c => !decide (c ∈ zaF xs k)).map nV)) ∧ But D H1 H6) ?_ ?_ ?_ ?_
 ·exact ⟨_, rfl, zac, fun b o n e => by rw [zag n]; exact e⟩
 ·rintro i σ H6 _ ⟨x0, rfl, _, k6⟩
  exact SqT.of (k6 _ _ (zab ht1 hD) ht1)
 ·rintro c m x σ H6 hx hm ⟨x0, rfl, h6, k6⟩
  obtain ⟨hi, rfl⟩ : c < 3 ∧ x = V.int (c : Int) := by
   rcases c with _ | _ | _ | c
   ·exact ⟨by decide, (Option.some.inj hx).symm⟩
   ·exact ⟨by decide, (Option.some.inj hx).symm⟩
   ·exact ⟨by decide, (Option.some.inj hx).symm⟩
   ·cases hx
  have h6g := k6 _ _ (zab h1a hD) h1a
  have hlen := List.length_filter_le (fun c => !decide (c ∈ zaF xs k)) (List.range c)
  rw [List.length_range] at hlen
  refine ⟨_, rfl, _, rfl, _, _, rfl, .inl (SqL.of h6g), rfl, zhP _, _, rfl, ?_⟩
  show if (!inV (.int (c : Int)) ((zaF xs k).map nV)) = true then _ else _
  rw [inV_nV]
  have hm3 : c + m = 3 := hm
  refine ite2 (fun e => ?_) (fun e => ?_)
  ·have e' : c ∉ zaF xs k := fun z => by
    rw [decide_eq_true z] at e
    cases e
   refine ⟨_, rfl, _, h6, zam (by rw [List.length_map]; omega), m - 1, by omega, (by show c + 1 + (m - 1) = 3; omega), _, rfl, ?_, fun b o n e => by rw [zag n]; exact k6 b o n e⟩
   rw [zac, zb7, if_neg e', List.map_append]
   rfl
  ·have e' : c ∈ zaF xs k := Decidable.byContradiction fun z => e (by rw [decide_eq_false z]; rfl)
   refine ⟨m - 1, by omega, (by show c + 1 + (m - 1) = 3; omega), _, rfl, ?_, k6⟩
   rw [h6, zb7, if_pos e', List.append_nil]
 ·rintro σ H6 ⟨x0, rfl, h6, k6⟩
  have h6 : H6 D = some (.lst (((List.range 3).filter fun c => !decide (c ∈ zaF xs k)).map nV)) := h6
  have s6 : Same H1 H6 := fun b o e => k6 b o (zab e hD) e
  have mem : ∀ c, c ∈ ((List.range 3).filter fun c => !decide (c ∈ zaF xs k)) ↔ c < 3 ∧ c ∉ zaF xs k := fun c => by
   rw [List.mem_filter, List.mem_range]
   constructor
   ·rintro ⟨h1, h2⟩
    refine ⟨h1, fun z => ?_⟩
    rw [decide_eq_true z] at h2
    cases h2
   ·rintro ⟨h1, h2⟩
    exact ⟨h1, by rw [decide_eq_false h2]; rfl⟩
  have hf : zcQ xs k ∈ ((List.range 3).filter fun c => !decide (c ∈ zaF xs k)) := (mem _).mpr ⟨Nat.lt_succ_of_le (zg6 xs k), zfX⟩
  refine ⟨D, ((List.range 3).filter fun c => !decide (c ∈ zaF xs k)).map fun n : Nat => (n : Int), rfl, ?_, ?_, fun M hM hL => ?_⟩
  ·rw [List.map_map]
   exact SqL.of h6
  ·rw [List.length_map]
   exact List.length_pos_of_mem hf
  have eM : M = (zcQ xs k : Int) := by
   have h1 := hL _ (List.mem_map.mpr ⟨_, hf, rfl⟩)
   obtain ⟨c, hc, rfl⟩ := List.mem_map.mp hM
   have h2 : ¬ c < zcQ xs k := fun z => ((mem c).mp hc).2 (ze0 z)
   omega
  rw [eM]
  exact q _ (st.trans s6)
theorem besV_nV (xs : List Nat) (k : Nat) : besV (xs.map nV) k = (zaF xs k).map nV := zfr xs k
theorem zi8 (T : Txt K mg) (D_colours : DF K mg "colours" zbU zcB) (F_neighbours : FC P w K mg base 1 "neighbours" zbf (spNb K)) (F_least_free : FC P w K mg base 1 "least_free" zbt (spFree K)) : FC P w K mg base 3 "colours" zcB (zeh K) := by
 refine D_colours.ok sc_colours (fun vs H Q E h => ?_) (fun f cdv A outer s H vs Q E hr h => ?_)
 ·obtain ⟨a, xs, rfl, _⟩ := h
  rfl
 obtain ⟨a, xs, rfl, hS, hu, hb, hz, q⟩ := h
 refine ⟨_, (zae (zaw (i := 1) sc_colours.nd rfl (Or.inl rfl) (zcO ze1 rfl T.m_list boot_list (zaa (pv 0) zad)))
   (zae (zaN PassesOwn.never rfl (zfd (zca (zaa zaf (zaa zaf (zaa zaf zad))))) (zal (i := 2) sc_colours.nd rfl (Or.inl rfl)) (zai (zaN PassesOwn.never rfl (za0 rfl T.m_range (zaa (zao zaq rfl T.m_len boot_len (zaa (pv 0) zad)) zad)) (zal (i := 3) sc_colours.nd rfl (Or.inl rfl)) (zai (zcq (zaI zd7 (zaK zaE (pv 1) (pv 3) (fun _ _ => rfl)) (pv 2) (za8 _)) (zai (zeS (zaG F_least_free hr (zaa (zaG F_neighbours hr (zaa (pv 1) (zaa (pv 3) zad))) zad)) (zfN (pv 1) (pv 3) zdJ))) zaT)))))
   (zai (zaz (pv 1))))), ?_⟩
 refine ⟨_, rfl, a, _, rfl, .inl hS, fun p hp => ?_⟩
 have k0 : But p H (upd H p (.lst (xs.map nV))) := fun b o n e => by rw [zag n]; exact e
 refine ⟨(by show 3 ≤ sizeLine; decide), fun t ht => ?_⟩
 have npt : p ≠ t := zab zac ht
 refine ⟨t, rfl, ⟨_, SqT.of zac⟩, ?_⟩
 refine zgw (xs := [V.int 3, V.int 4, V.int 5]) (fun i σ H2 => ∃ x2 x3 : Option V, σ = [some (.ref a), some (.ref p), x2, x3] ∧ H2 p = some (.lst ((colN xs i).map nV)) ∧ H2 t = some (.tup [V.int 3, V.int 4, V.int 5]) ∧ But p H H2) ?_ ?_ ?_ ?_
 ·exact ⟨_, _, rfl, by rw [zag npt]; exact zac, zac, k0.new ht _⟩
 ·rintro i σ H2 _ ⟨x2, x3, rfl, _, h2t, _⟩
  exact SqT.of h2t
 ·rintro i x σ H2 hx ⟨x2, x3, rfl, h2, h2t, k2⟩
  obtain ⟨hi, rfl⟩ : i < 3 ∧ x = V.int ((3 + i : Nat) : Int) := by
   rcases i with _ | _ | _ | i
   ·exact ⟨by decide, (Option.some.inj hx).symm⟩
   ·exact ⟨by decide, (Option.some.inj hx).symm⟩
   ·exact ⟨by decide, (Option.some.inj hx).symm⟩
   ·cases hx
  have hyl := zfm xs i
  have hyu := ziP hu i
  have hnx : colN xs (i + 1) = recL (3 + i) (colN xs i) := rfl
  rw [hnx]
  generalize colN xs i = ys at h2 hyl hyu ⊢
  generalize 3 + i = v
  have hSa : SqL K H2 a (xs.map nV) := k2.sq hS hp
  refine ⟨_, rfl, _, _, rfl, .inl hSa, _, rfl, by rw [List.length_map]; omega, by rw [List.length_map]; omega, ?_⟩
  have el : ((((xs.map nV).length : Nat) : Int)).toNat = ys.length := by rw [List.length_map, Int.toNat_natCast, hyl]
  rw [el]
  refine zbi (n := ys.length) (fun k σ H3 => ∃ x3 : Option V, σ = [some (.ref a), some (.ref p), some (.int v), x3] ∧ H3 p = some (.lst ((mixL v ys k).map nV)) ∧ H3 t = some (.tup [V.int 3, V.int 4, V.int 5]) ∧ But p H H3) ?_ ?_ ?_
  ·exact ⟨_, rfl, h2, h2t, k2⟩
  ·rintro k σ H3 hk ⟨x3, rfl, h3, h3t, k3⟩
   rw [Int.zero_add]
   have ml := zd8 v ys k
   have eg : (mixL v ys k).getD k 0 = ys.getD k 0 := by
    rw [List.getD_eq_getElem?_getD, mixL_at (Nat.le_refl k), ← List.getD_eq_getElem?_getD]
   have hat : atI ((mixL v ys k).map nV) (k : Int) = some (nV (ys.getD k 0)) := by
    rw [← eg]
    exact zfv (by omega)
   refine ⟨_, rfl, _, rfl, _, _, _, _, rfl, rfl, SqL.of h3, hat, _, rfl, rfl, _, rfl, ?_⟩
   refine ite2 (fun c => ?_) (fun c => ?_)
   ·have c' : ys.getD k 0 = v := by
     have := V.int.inj (of_decide_eq_true c)
     omega
    refine ⟨_, rfl, _, rfl, p, _, k, rfl, h3, fun g H4 hg s4 h4 => ?_⟩
    rw [besV_nV, zfg hyu hk c'] at h4
    refine ⟨g, ys, k, rfl, h4, fun H5 s5 => ?_⟩
    have s35 := s4.trans s5
    have same : ∀ b o, b ≠ p → H3 b = some o → upd H5 p (.lst (((mixL v ys k).map nV).set k (nV (zcQ ys k)))) b = some o := fun b o n e => by
     rw [zag n]
     exact s35 _ _ e
    refine ⟨_, rfl, _, rfl, _, _, _, k, rfl, rfl, s35 _ _ h3, zeK (by rw [List.length_map, ml]; exact hk), ?_⟩
    refine ⟨_, rfl, ?_, same _ _ (Ne.symm (zb5 h3 h3t)) h3t, fun b o n e => same _ _ n (k3 b o n e)⟩
    rw [zac, ziv hk c', List.map_set]
   ·have c' : ys.getD k 0 ≠ v := fun z => c (by rw [z]; exact decide_eq_true rfl)
    exact ⟨_, rfl, by rw [zgW hk c']; exact h3, h3t, k3⟩
  ·rintro σ H3 ⟨x3, rfl, h3, h3t, k3⟩
   rw [ziw (Nat.le_refl _)] at h3
   exact ⟨_, _, rfl, h3, h3t, k3⟩
 ·rintro σ H2 ⟨x2, x3, rfl, h2, _, k2⟩
  refine ⟨_, rfl, ?_⟩
  exact q p H2 hp (fun b o e => k2 b o (zab e hp) e) h2
def zdG (ms : List Bool) (k : Nat) : Bool := !ms.getD (k - 1) false && !ms.getD (k + 1) false
def besB (ms : List Bool) (k : Nat) : List Bool := (if k = 0 then none else ms[k - 1]?).toList ++ ms[k + 1]?.toList
theorem besV_bl (ms : List Bool) (k : Nat) : besV (ms.map V.bl) k = (besB ms k).map V.bl := by
 unfold besV besB
 rw [List.map_append, List.getElem?_map, List.getElem?_map]
 congr 1
 ·split
  ·rfl
  ·cases ms[k - 1]? <;> rfl
 ·cases ms[k + 1]? <;> rfl
theorem besB_any {ms : List Bool} {k : Nat} (h : 1 ≤ k) : (besB ms k).any id = !zdG ms k := by
 unfold besB zdG
 rw [if_neg (by omega), List.any_append, zc0, zc0, List.getD_eq_getElem?_getD, List.getD_eq_getElem?_getD]
 generalize ms[k - 1]?.getD false = x
 generalize ms[k + 1]?.getD false = z
 cases x <;> cases z <;> rfl
theorem zhz {sh : Nat} {cs : List Nat} {ms : List Bool} (hu : Unl cs) (hl : cs.length = ms.length) {k : Nat} (h : k < cs.length) (h1 : 1 ≤ k) (hs : cs.getD k 0 = sh) : zdG (mixM sh cs ms k) k = zdG ms k := by
 unfold zdG
 have e : ∀ j, k ≤ j → (mixM sh cs ms k).getD j false = ms.getD j false := fun j hj => by
  rw [List.getD_eq_getElem?_getD, List.getD_eq_getElem?_getD, zbB hl, if_neg (by omega)]
 rw [e (k + 1) (by omega)]
 have e2 : (mixM sh cs ms k).getD (k - 1) false = ms.getD (k - 1) false := by
  rw [List.getD_eq_getElem?_getD, zbB hl, if_pos (by omega), zcE hl (by omega)]
  have := hu (k - 1) (by omega)
  rw [show k - 1 + 1 = k by omega, hs] at this
  rw [decide_eq_false this]
  simp
 rw [e2]
theorem zfQ {sh : Nat} {cs : List Nat} {ms : List Bool} (hl : cs.length = ms.length) {k : Nat} (h : k < cs.length) (hn : ¬ (cs.getD k 0 = sh ∧ zdG ms k = true)) : mixM sh cs ms (k + 1) = mixM sh cs ms k := by
 apply List.ext_getElem?
 intro j
 rw [zbB hl, zbB hl]
 by_cases c : j < k
 ·rw [if_pos c, if_pos (by omega)]
 ·rw [if_neg c]
  split
  ·have : j = k := by omega
   subst this
   rw [zcE hl h]
   unfold zdG at hn
   rw [List.getElem?_eq_getElem (by omega)]
   have e : ms.getD j false = ms[j]'(by omega) := by
    rw [List.getD_eq_getElem?_getD, List.getElem?_eq_getElem (by omega)]
    rfl
   rw [e]
   congr 1
   generalize ms[j] = a
   generalize ms.getD (j - 1) false = b at hn ⊢
   generalize ms.getD (j + 1) false = d at hn ⊢
   by_cases z : cs.getD j 0 = sh
   ·have hn' : ¬ ((!b && !d) = true) := fun y => hn ⟨z, y⟩
    cases b with
    | true => simp
    | false =>
     cases d with
     | true => simp
     | false => exact absurd rfl hn'
   ·rw [decide_eq_false z]
    simp
  ·rfl
theorem mixM_put2 {sh : Nat} {cs : List Nat} {ms : List Bool} (hl : cs.length = ms.length) {k : Nat} (h : k < cs.length) (hp : 1 ≤ k ∧ cs.getD k 0 = sh ∧ zdG ms k = true) : mixM sh cs ms (k + 1) = (mixM sh cs ms k).set k true := by
 apply List.ext_getElem?
 intro j
 rw [List.getElem?_set, zdk hl, zbB hl, zbB hl]
 by_cases c : k = j
 ·subst c
  rw [if_pos rfl, if_pos h, if_pos (by omega), zcE hl h]
  obtain ⟨p1, p2, p3⟩ := hp
  unfold zdG at p3
  simp only [Bool.and_eq_true, Bool.not_eq_true'] at p3
  rw [p2, p3.1, p3.2, decide_eq_true p1]
  simp
 ·rw [if_neg c]
  by_cases c2 : j < k
  ·rw [if_pos c2, if_pos (by omega)]
  ·rw [if_neg c2, if_neg (by omega)]
theorem ok_marks (T : Txt K mg) (D_marks : DF K mg "marks" zdd zdL) (F_labels : FC P w K mg base 3 "labels" zc3 (zid K)) (F_colours : FC P w K mg base 3 "colours" zcB (zeh K)) (F_neighbours : FC P w K mg base 1 "neighbours" zbf (spNb K)) : FC P w K mg base 5 "marks" zdL (zfa K) := by
 refine D_marks.ok sc_marks (fun vs H Q E h => ?_) (fun f cdv A outer s H vs Q E hr h => ?_)
 ·obtain ⟨a, ws, es, rfl, _⟩ := h
  rfl
 obtain ⟨a, ws, es, rfl, ha, hw, hz, he, hri, q⟩ := h
 refine ⟨_, (zae (zaw (i := 1) sc_marks.nd rfl (Or.inl rfl) (zaG F_colours hr (zaa (zaG F_labels hr (zaa (pv 0) zad)) zad)))
   (zae (zd1 (i := 2) (N := ["tint"]) (own := 1) (cap := []) sc_marks.nd rfl rfl rfl (zbg (pv 1)) ⟨rfl, rfl, rfl, rfl, rfl, rfl⟩ (fun _ _ _ _ _ => (zal (i := 0) (show List.Nodup (["tint"] : List Str) by decide +kernel) rfl (Or.inl rfl))) (fun _ _ _ _ _ => zcM) (fun _ _ _ _ _ => zd6))
   (zae (zaN PassesOwn.never rfl (zfd (zca (zaa zaf (zaa zaf (zaa zaf zad))))) (zal (i := 3) sc_marks.nd rfl (Or.inl rfl)) (zai (zaN PassesOwn.never rfl (zek rfl T.m_range (zaa zaf (zaa (zao zaq rfl T.m_len boot_len (zaa (pv 1) zad)) zad))) (zal (i := 4) sc_marks.nd rfl (Or.inl rfl)) (zai (zcq (PW.pt (pw_and (zaI zd7 (zaK zaE (pv 1) (pv 4) (fun _ _ => rfl)) (pv 3) (za8 _)) (zht (zaI zdA zd6 (zaG F_neighbours hr (zaa (pv 2) (zaa (pv 4) zad))) (by with_unfolding_all rfl))))) (zai (zeS zd6 (zfN (pv 2) (pv 4) zdJ))) zaT)))))
   (zai (zaz (pv 2)))))), ?_⟩
 refine ⟨_, rfl, a, ws, es, rfl, SqL.of ha, hw, hz, he, hri, fun p H3 hp s3 h3 => ?_⟩
 refine ⟨p, _, rfl, SqL.of h3, zgs he hri, zg1 he hri, by rw [zbn, zaB]; exact hz, fun c H4 hc s4 h4 => ?_⟩
 have cu : Unl (colL (zcJ 5 (zb4 es))) := zju (ziQ (unlZ (zgs he hri)))
 have cl : (colL (zcJ 5 (zb4 es))).length = es.length := by rw [zec, zbn, zaB]
 have fin : zbM es = mkN (colL (zcJ 5 (zb4 es))) 3 := (zgV _).symm
 generalize colL (zcJ 5 (zb4 es)) = cs at h4 cu cl fin
 have s04 := s3.trans s4
 refine ⟨_, rfl, c, rfl, ⟨_, SqL.of h4⟩, fun F hF => ?_⟩
 refine zcS (xs := cs.map nV) (fun i σ H5 => ∃ x0 : Option V, σ = [x0] ∧ H5 F = some (.lst ((List.replicate i false).map V.bl)) ∧ But F H4 H5) ?_ ?_ ?_ ?_
 ·exact ⟨_, rfl, zac, fun b o n e => by rw [zag n]; exact e⟩
 ·rintro i σ H5 _ ⟨x0, rfl, _, k5⟩
  exact k5.sq (SqL.of h4) hF
 ·rintro i m x σ H5 hx hm ⟨x0, rfl, h5, k5⟩
  have hi := (List.getElem?_eq_some_iff.mp hx).1
  rw [List.length_map] at hi hm
  refine zdC ?_
  refine ⟨_, h5, zam (by rw [List.length_map, List.length_replicate]; omega), m - 1, by omega, by rw [List.length_map]; omega, _, rfl, ?_, fun b o n e => by rw [zag n]; exact k5 b o n e⟩
  rw [zac, List.replicate_succ', List.map_append]
  rfl
 rintro σ H5 ⟨x0, rfl, h5, k5⟩
 have s45 : Same H4 H5 := fun b o e => k5 b o (zab e hF) e
 have h5c := s45 _ _ h4
 have nFc : c ≠ F := zab h4 hF
 have hF0 : H F = none := s04.free hF
 have k05 : But F H H5 := fun b o _ e => s45 _ _ (s04 _ _ e)
 have e5 : H5 F = some (.lst ((mkN cs 0).map V.bl)) := by
  rw [h5, mkN, List.length_map, show List.replicate cs.length false = cs.map (fun _ => false) from by rw [List.map_const']]
 refine ⟨(by show 3 ≤ sizeLine; decide), fun t ht => ?_⟩
 have st := zak ht (.tup [V.int 2, V.int 1, V.int 0])
 refine ⟨t, rfl, ⟨_, SqT.of zac⟩, ?_⟩
 refine zgw (xs := [V.int 2, V.int 1, V.int 0]) (fun i σ H6 => ∃ (x3 x4 : Option V), σ = [some (.ref a), some (.ref c), some (.ref F), x3, x4] ∧ H6 F = some (.lst ((mkN cs i).map V.bl)) ∧ H6 c = some (.lst (cs.map nV)) ∧ H6 t = some (.tup [V.int 2, V.int 1, V.int 0]) ∧ But F H H6) ?_ ?_ ?_ ?_
 ·exact ⟨_, _, rfl, st _ _ e5, st _ _ h5c, zac, k05.new ht _⟩
 ·rintro i σ H6 _ ⟨x3, x4, rfl, _, _, h6t, _⟩
  exact SqT.of h6t
 ·rintro i x σ H6 hx ⟨x3, x4, rfl, h6, h6c, h6t, k6⟩
  obtain ⟨hi, rfl⟩ : i < 3 ∧ x = V.int ((2 - i : Nat) : Int) := by
   rcases i with _ | _ | _ | i
   ·exact ⟨by decide, (Option.some.inj hx).symm⟩
   ·exact ⟨by decide, (Option.some.inj hx).symm⟩
   ·exact ⟨by decide, (Option.some.inj hx).symm⟩
   ·cases hx
  have hml := zfP cs i
  have hnx : mkN cs (i + 1) = zce (2 - i) cs (mkN cs i) := rfl
  rw [hnx]
  generalize mkN cs i = ms at h6 hml ⊢
  generalize 2 - i = sh
  refine ⟨_, rfl, _, _, rfl, .inl (SqL.of h6c), 1, _, rfl, ⟨by omega, by omega, by rw [List.length_map]; omega, by rw [List.length_map]; omega⟩, ?_⟩
  have en : ((((cs.map nV).length : Nat) : Int) - 1).toNat = cs.length - 1 := by rw [List.length_map]; omega
  rw [en]
  have km : ∀ k, (mixM sh cs ms k).length = cs.length := zdk hml
  refine zbi (n := cs.length - 1) (fun j σ H7 => ∃ (x4 : Option V), σ = [some (.ref a), some (.ref c), some (.ref F), some (.int sh), x4] ∧ H7 F = some (.lst ((mixM sh cs ms (1 + j)).map V.bl)) ∧ H7 c = some (.lst (cs.map nV)) ∧ H7 t = some (.tup [V.int 2, V.int 1, V.int 0]) ∧ But F H H7) ?_ ?_ ?_
  ·exact ⟨_, rfl, by rw [zit hml]; exact h6, h6c, h6t, k6⟩
  ·rintro j σ H7 hj ⟨x4, rfl, h7, h7c, h7t, k7⟩
   have ek : (1 : Int) + (j : Int) = ((1 + j : Nat) : Int) := by omega
   have hk1 : 1 ≤ 1 + j := by omega
   have hkl : 1 + j < cs.length := by omega
   rw [ek]
   have es1 : 1 + (j + 1) = 1 + j + 1 := by omega
   rw [es1]
   generalize 1 + j = k at h7 hk1 hkl ⊢
   have hat := zfv (xs := cs) hkl
   have mc : cs.getD k 0 = sh → zdG (mixM sh cs ms k) k = zdG ms k := fun z => zhz cu hml hkl hk1 z
   refine ⟨_, rfl, _, rfl, _, _, _, _, rfl, rfl, SqL.of h7c, hat, _, rfl, rfl, _, rfl, ?_⟩
   refine ite2 (fun e => ?_) (fun e => ?_)
   ·have e' : cs.getD k 0 = sh := by
     have := V.int.inj (of_decide_eq_true e)
     omega
    refine ⟨_, rfl, _, rfl, F, _, k, rfl, h7, fun b H8 hb sb hbb => ?_⟩
    rw [besV_bl] at hbb
    have kb : But F H H8 := fun x o n e => sb _ _ (k7 x o n e)
    refine ⟨_, _, rfl, .inl (SqL.of hbb), rfl, flat_bl _, _, rfl, ?_⟩
    show if (!inV (.bl true) ((besB (mixM sh cs ms k) k).map V.bl)) = true then _ else _
    rw [ziJ, besB_any hk1, mc e', Bool.not_not]
    refine ite2 (fun y => ?_) (fun y => ?_)
    ·refine ⟨_, rfl, _, rfl, _, _, _, k, rfl, rfl, sb _ _ h7, zeK (by rw [List.length_map, km]; exact hkl), ?_⟩
     have same : ∀ b o, b ≠ F → H8 b = some o → upd H8 F (.lst (((mixM sh cs ms k).map V.bl).set k (.bl true))) b = some o := fun b o n e => by
      rw [zag n]
      exact e
     refine ⟨_, rfl, ?_, same _ _ (fun z => ?_) (sb _ _ h7c), same _ _ (Ne.symm (zb5 (sb _ _ h7) (sb _ _ h7t))) (sb _ _ h7t), fun b o n e => same _ _ n (kb b o n e)⟩
     ·rw [zac, mixM_put2 hml hkl ⟨hk1, e', y⟩, List.map_set]
     ·exact nFc z
    ·exact ⟨_, rfl, by rw [zfQ hml hkl (fun z => y z.2)]; exact sb _ _ h7, sb _ _ h7c, sb _ _ h7t, kb⟩
   ·have e' : cs.getD k 0 ≠ sh := fun z => e (by rw [z]; exact decide_eq_true rfl)
    refine iteF ?_
    exact ⟨_, rfl, by rw [zfQ hml hkl (fun z => e' z.1)]; exact h7, h7c, h7t, k7⟩
  ·rintro σ H7 ⟨x4, rfl, h7, h7c, h7t, k7⟩
   rw [ziu hml (by omega)] at h7
   exact ⟨_, _, rfl, h7, h7c, h7t, k7⟩
 ·rintro σ H6 ⟨x3, x4, rfl, h6, _, _, k6⟩
  refine ⟨_, rfl, ?_⟩
  refine q F H6 hF0 (fun b o e => k6 b o (zab e hF0) e) ?_
  rw [fin]
  exact h6
theorem hand_nil {α : Type} : zbw ([] : List α) [] = [] := rfl
theorem get_bl {ms : List Bool} {i : Nat} {x : V} (h : (ms.map V.bl)[i]? = some x) : ∃ hi : i < ms.length, x = .bl ms[i] := by
 rw [List.getElem?_map] at h
 cases e : ms[i]? with
 | none => rw [e] at h; cases h
 | some y =>
  rw [e] at h
  obtain ⟨hi, rfl⟩ := List.getElem?_eq_some_iff.mp e
  exact ⟨hi, (Option.some.inj h).symm⟩
theorem zgH {α : Type} {l : List α} {i : Nat} (h : i < l.length) : l.take (i + 1) = l.take i ++ [l[i]] := List.take_succ_eq_append_getElem h
theorem ok_handed (T : Txt K mg) (D_handed : DF K mg "handed" zco zc6) (F_marks : FC P w K mg base 5 "marks" zdL (zfa K)) : FC P w K mg base 6 "handed" zc6 (zif K) := by
 refine D_handed.ok sc_handed (fun vs H Q E h => ?_) (fun f cdv A outer s H vs Q E hr h => ?_)
 ·obtain ⟨a, ws, es, rfl, _⟩ := h
  rfl
 obtain ⟨a, ws, es, rfl, ha, hw, hz, he, hri, q⟩ := h
 have hwl := hw.length
 have hml := zdl es
 refine ⟨_, (zai (zaz (zdh (N := ["entry", "mark"]) (own := 2) (cap := []) rfl (pi_zip rfl T.m_zip (zaa (pv 0) (zaa (zaG F_marks hr (zaa (pv 0) zad)) zad))) ⟨rfl, rfl, rfl, rfl, rfl, rfl⟩ (fun _ _ _ _ _ => (pg_tupC (K := K) (n := 2) rfl (zbl (zal (i := 0) (show List.Nodup (["entry", "mark"] : List Str) by decide +kernel) rfl (Or.inl rfl)) (zbl (zal (i := 1) (show List.Nodup (["entry", "mark"] : List Str) by decide +kernel) rfl (Or.inl rfl)) zd3)))) (fun _ _ _ _ _ => (zeF (zcW (pv 1)))) (fun _ _ _ _ _ => (pv 0))))), ?_⟩
 refine ⟨_, rfl, _, rfl, a, ws, es, rfl, ha, hw, hz, he, hri, fun u H6 hu g6 h6u => ?_⟩
 have h6p := g6 _ _ ha
 generalize zbM es = ms at hml h6u q
 refine ⟨a, u, rfl, ⟨_, SqL.of h6p⟩, ⟨_, SqL.of h6u⟩, fun D hD => ?_⟩
 refine comp_zip (xs := ws) (ys := ms.map V.bl) (by rw [List.length_map, hml]; exact hwl.symm) (fun j σ H7 => ∃ x0 x1 : Option V, σ = [x0, x1] ∧ H7 D = some (.lst (zbw (ws.take j) (ms.take j))) ∧ But D H6 H7) ?_ ?_ ?_ ?_
 ·exact ⟨_, _, rfl, by rw [List.take_zero, List.take_zero, hand_nil]; exact zac, fun b o n e => by rw [zag n]; exact e⟩
 ·rintro j σ H7 _ ⟨x0, x1, rfl, _, k7⟩
  exact ⟨k7.sq (SqL.of h6p) hD, k7.sq (SqL.of h6u) hD⟩
 ·rintro j m' x y σ H7 r' hx hy hm' ⟨x0, x1, rfl, h7, k7⟩ hr'
  obtain ⟨hj, rfl⟩ := get_bl hy
  obtain ⟨hjw, rfl⟩ := List.getElem?_eq_some_iff.mp hx
  have hsn := zg5 (a := ws[j]) (b := ms[j]) (show (ws.take j).length = (ms.take j).length by rw [List.length_take, List.length_take]; omega)
  rw [← zgH hjw, ← zgH hj] at hsn
  refine ⟨r', _, rfl, SqT.of zac, rfl, _, _, rfl, _, _, rfl, rfl, ?_⟩
  have s7 := zak hr' (.tup [ws[j], .bl ms[j]])
  have h8 := s7 _ _ h7
  have k8 := k7.new hr' (.tup [ws[j], .bl ms[j]])
  generalize upd H7 r' (.tup [ws[j], .bl ms[j]]) = H8 at h8 k8 ⊢
  refine ⟨_, rfl, _, rfl, ?_⟩
  have hl8 := zfj (ws.take j) (ms.take j)
  rw [List.length_take] at hl8
  refine ite2 (fun e => ?_) (fun e => ?_)
  ·refine ⟨_, rfl, _, h8, zam (by omega), m' - 1, by omega, by omega, _, _, rfl, ?_, fun b o n e => by rw [zag n]; exact k8 b o n e⟩
   rw [zac, hsn, if_pos e]
  ·refine ⟨m' - 1, by omega, by omega, _, _, rfl, ?_, k8⟩
   rw [h8, hsn, if_neg e, List.append_nil]
 ·rintro σ H7 ⟨x0, x1, rfl, h7, k7⟩
  rw [List.take_of_length_le (Nat.le_refl _), List.take_of_length_le (by omega)] at h7
  have s7 : Same H6 H7 := fun b o e => k7 b o (zab e hD) e
  exact q D H7 (g6.free hD) (g6.trans s7) h7
theorem zhi {v : Nat} {xs : List Nat} {k : Nat} : ((List.range (k + 1)).filter fun k => decide (xs.getD k 0 = v)) = ((List.range k).filter fun k => decide (xs.getD k 0 = v)) ++ (if xs.getD k 0 = v then [k] else []) := by
 rw [List.range_succ, List.filter_append]
 congr 1
 by_cases h : xs.getD k 0 = v
 ·rw [if_pos h, List.filter_cons_of_pos (by exact decide_eq_true h)]
  rfl
 ·rw [if_neg h, List.filter_cons_of_neg (by rw [decide_eq_false h]; decide)]
  rfl
theorem zhx (T : Txt K mg) (D_l_colours : DF K mg "_law_colours" zbb zbI) : FC P w K mg base 1 "_law_colours" zbI (zeh K) := by
 refine D_l_colours.ok sc_l_colours (fun vs H Q E h => ?_) (fun f cdv A outer s H vs Q E hr h => ?_)
 ·obtain ⟨a, xs, rfl, _⟩ := h
  rfl
 obtain ⟨a, xs, rfl, hS, hu, hb, hz, q⟩ := h
 refine ⟨_, (zae (zaw (i := 1) sc_l_colours.nd rfl (Or.inr rfl) (zcO ze1 rfl T.m_list boot_list (zaa (pv 0) zad)))
   (zae (zaN PassesOwn.never rfl (zfd (zca (zaa zaf (zaa zaf (zaa zaf zad))))) (zal (i := 2) sc_l_colours.nd rfl (Or.inr rfl)) (zae (zd1 (i := 3) (N := ["_law_k", "_law_found", "_law_high"]) (own := 1) (cap := [1, 2]) sc_l_colours.nd rfl rfl rfl (za0 rfl T.m_range (zaa (zao zaq rfl T.m_len boot_len (zaa (pv 1) zad)) zad)) ⟨rfl, rfl, rfl, rfl, rfl, rfl⟩ (fun _ _ _ _ _ => (zal (i := 0) (show List.Nodup (["_law_k", "_law_found", "_law_high"] : List Str) by decide +kernel) rfl (Or.inl rfl))) (fun _ _ _ _ _ => (zeF (zaI zd7 (zaK (ziH (K := K)) (pv 1) (pv 0) (fun _ _ => rfl)) (pv 2) (za8 _)))) (fun _ _ _ _ _ => (pv 0)))
   (zai (zaN PassesOwn.never rfl (zbg (pv 3)) (zal (i := 4) sc_l_colours.nd rfl (Or.inl rfl)) (zae (zaw (i := 5) sc_l_colours.nd rfl (Or.inr rfl) (zau op_cat (zel zfb (pv 1) (zcZ (zao (zfq rfl) rfl T.m_max boot_max (zaa zaf (zaa (zau zcb (pv 4) zaf) zad)))) (zcZ (pv 4))) (zel zfb (pv 1) (zcZ (zau zbh (pv 4) zaf)) (zcZ (zau zbh (pv 4) zaf)))))
   (zai (zeS (zaK zaE (zdh (N := ["_law_colour", "_law_beside"]) (own := 1) (cap := [5]) rfl (za0 rfl T.m_range (zaa zaf zad)) ⟨rfl, rfl, rfl, rfl, rfl, rfl⟩ (fun _ _ _ _ _ => (zal (i := 0) (show List.Nodup (["_law_colour", "_law_beside"] : List Str) by decide +kernel) rfl (Or.inl rfl))) (fun _ _ _ _ _ => (zeF (zaI (zen (K := K)) (pv 0) (pv 1) (by with_unfolding_all rfl)))) (fun _ _ _ _ _ => (pv 0))) zaf (fun _ _ => rfl)) (zfN (pv 1) (pv 4) zdJ))))))))
   (zai (zaz (pv 1))))), ?_⟩
 refine ⟨_, rfl, a, _, rfl, .inl hS, fun p hp => ?_⟩
 have k0 : But p H (upd H p (.lst (xs.map nV))) := fun b o n e => by rw [zag n]; exact e
 refine ⟨(by show 3 ≤ sizeLine; decide), fun t ht => ?_⟩
 have npt : p ≠ t := zab zac ht
 refine ⟨t, rfl, ⟨_, SqT.of zac⟩, ?_⟩
 refine zgw (xs := [V.int 3, V.int 4, V.int 5]) (fun i σ H2 => ∃ x2 x3 x4 x5 : Option V, σ = [some (.ref a), some (.ref p), x2, x3, x4, x5] ∧ H2 p = some (.lst ((colN xs i).map nV)) ∧ H2 t = some (.tup [V.int 3, V.int 4, V.int 5]) ∧ But p H H2) ?_ ?_ ?_ ?_
 ·exact ⟨_, _, _, _, rfl, by rw [zag npt]; exact zac, zac, k0.new ht _⟩
 ·rintro i σ H2 _ ⟨x2, x3, x4, x5, rfl, _, h2t, _⟩
  exact SqT.of h2t
 ·rintro i x σ H2 hx ⟨x2, x3, x4, x5, rfl, h2, h2t, k2⟩
  obtain ⟨hi, rfl⟩ : i < 3 ∧ x = V.int ((3 + i : Nat) : Int) := by
   rcases i with _ | _ | _ | i
   ·exact ⟨by decide, (Option.some.inj hx).symm⟩
   ·exact ⟨by decide, (Option.some.inj hx).symm⟩
   ·exact ⟨by decide, (Option.some.inj hx).symm⟩
   ·cases hx
  have hyl := zfm xs i
  have hyu := ziP hu i
  have hnx : colN xs (i + 1) = recL (3 + i) (colN xs i) := rfl
  rw [hnx]
  generalize colN xs i = ys at h2 hyl hyu ⊢
  generalize 3 + i = v
  refine ⟨_, rfl, _, _, rfl, .inl (SqL.of h2), _, rfl, by rw [List.length_map]; omega, by rw [List.length_map]; omega, fun D hD => ?_⟩
  have el : ((((ys.map nV).length : Nat) : Int)).toNat = ys.length := by rw [List.length_map, Int.toNat_natCast]
  rw [el]
  refine zcG (n := ys.length) (fun k σ H3 => ∃ x0 : Option V, σ = [x0, some (.ref p), some (.int v)] ∧ H3 D = some (.lst (((List.range k).filter fun k => decide (ys.getD k 0 = v)).map nV)) ∧ But D H2 H3) ?_ ?_ ?_
  ·exact ⟨_, rfl, zac, fun b o n e => by rw [zag n]; exact e⟩
  ·rintro k m σ H3 hm hk ⟨x0, rfl, h3, k3⟩
   have h3p : H3 p = some (.lst (ys.map nV)) := k3 _ _ (zab h2 hD) h2
   have hat : atI (ys.map nV) (0 + (k : Int)) = some (nV (ys.getD k 0)) := by
    rw [Int.zero_add]
    exact zfv hk
   have hlen := List.length_filter_le (fun k => decide (ys.getD k 0 = v)) (List.range k)
   rw [List.length_range] at hlen
   refine ⟨_, rfl, _, rfl, _, _, _, _, rfl, rfl, SqL.of h3p, hat, _, rfl, rfl, _, rfl, ?_⟩
   refine ite2 (fun c => ?_) (fun c => ?_)
   ·have c' : ys.getD k 0 = v := by
     have := V.int.inj (of_decide_eq_true c)
     omega
    refine ⟨_, rfl, _, h3, zam (by rw [List.length_map]; omega), m - 1, by omega, by omega, _, rfl, ?_, fun b o n e => by rw [zag n]; exact k3 b o n e⟩
    rw [zac, zhi, if_pos c', List.map_append, Int.zero_add]
    rfl
   ·have c' : ys.getD k 0 ≠ v := fun z => c (by rw [z]; exact decide_eq_true rfl)
    refine ⟨m - 1, by omega, by omega, _, rfl, ?_, k3⟩
    rw [h3, zhi, if_neg c', List.append_nil]
  ·rintro σ H3 ⟨x0, rfl, h3, k3⟩
   have h3 : H3 D = some (.lst ((atsL v ys).map nV)) := h3
   have h3p : H3 p = some (.lst (ys.map nV)) := k3 _ _ (zab h2 hD) h2
   have h3t := k3 _ _ (zab h2t hD) h2t
   have kk3 : But p H H3 := fun b o n e => k3 b o (zab (k2 b o n e) hD) (k2 b o n e)
   have npD : p ≠ D := zab h2 hD
   have A := zft v ys
   refine ⟨_, rfl, D, rfl, ⟨_, SqL.of h3⟩, ?_⟩
   refine zbD (xs := (atsL v ys).map nV) (fun j σ H4 => ∃ x4 x5 : Option V, σ = [some (.ref a), some (.ref p), some (.int v), some (.ref D), x4, x5] ∧ H4 p = some (.lst ((mixL v ys ((atsL v ys).getD j ys.length)).map nV)) ∧ H4 D = some (.lst ((atsL v ys).map nV)) ∧ H4 t = some (.tup [V.int 3, V.int 4, V.int 5]) ∧ But p H H4) ?_ ?_ ?_ ?_
   ·exact ⟨_, _, rfl, by rw [mix_first]; exact h3p, h3, h3t, kk3⟩
   ·rintro j σ H4 _ ⟨x4, x5, rfl, _, h4D, _⟩
    exact SqL.of h4D
   ·rintro j x σ H4 hx ⟨x4, x5, rfl, h4, h4D, h4t, k4⟩
    obtain ⟨hj, rfl⟩ := zfU hx
    have eg : (atsL v ys).getD j 0 = (atsL v ys)[j] := by
     rw [List.getD_eq_getElem?_getD, List.getElem?_eq_getElem hj]
     rfl
    have eg2 : (atsL v ys).getD j ys.length = (atsL v ys)[j] := by
     rw [List.getD_eq_getElem?_getD, List.getElem?_eq_getElem hj]
     rfl
    obtain ⟨g1, g2⟩ := A.get hj
    have nx := mix_next hj
    rw [eg2] at h4
    rw [eg]
    generalize (atsL v ys)[j] = k at h4 g1 g2 nx ⊢
    have g2 : ys.getD k 0 = v := of_decide_eq_true g2
    have hb2 := zfg hyu g1 g2
    have ml := zd8 v ys k
    refine tBeside (k := k) rfl rfl rfl h4 fun g H5 hg s5 h5 => ?_
    rw [hb2] at h5
    have h5p := s5 _ _ h4
    have npg : p ≠ g := zab h4 hg
    refine ⟨3, rfl, by decide, by decide, fun D2 hD2 => ?_⟩
    refine zcG (n := 3) (fun c σ H6 => ∃ x0 : Option V, σ = [x0, some (.ref g)] ∧ H6 D2 = some (.lst (((List.range c).filter fun c => !decide (c ∈ zaF ys k)).map nV)) ∧ But D2 H5 H6) ?_ ?_ ?_
    ·exact ⟨_, rfl, zac, fun b o n e => by rw [zag n]; exact e⟩
    ·rintro c m σ H6 hm hc ⟨x0, rfl, h6, k6⟩
     have h6g := k6 _ _ (zab h5 hD2) h5
     have hlen := List.length_filter_le (fun c => !decide (c ∈ zaF ys k)) (List.range c)
     rw [List.length_range] at hlen
     refine ⟨_, rfl, _, rfl, _, _, rfl, .inl (SqL.of h6g), rfl, zhP _, _, rfl, ?_⟩
     show if (!inV (.int (0 + (c : Int))) ((zaF ys k).map nV)) = true then _ else _
     rw [Int.zero_add, inV_nV]
     refine ite2 (fun e => ?_) (fun e => ?_)
     ·have e' : c ∉ zaF ys k := fun z => by
       rw [decide_eq_true z] at e
       cases e
      refine ⟨_, rfl, _, h6, zam (by rw [List.length_map]; omega), m - 1, by omega, by omega, _, rfl, ?_, fun b o n e => by rw [zag n]; exact k6 b o n e⟩
      rw [zac, zb7, if_neg e', List.map_append]
      rfl
     ·have e' : c ∈ zaF ys k := Decidable.byContradiction fun z => e (by rw [decide_eq_false z]; rfl)
      refine ⟨m - 1, by omega, by omega, _, rfl, ?_, k6⟩
      rw [h6, zb7, if_pos e', List.append_nil]
    ·rintro σ H6 ⟨x0, rfl, h6, k6⟩
     have h6p := k6 _ _ (zab h5p hD2) h5p
     have hff := zg7 (xs := ys) (k := k)
     have hat0 : atI (((List.range 3).filter fun c => !decide (c ∈ zaF ys k)).map nV) 0 = some (nV (zcQ ys k)) := by
      rw [show (0 : Int) = ((0 : Nat) : Int) from rfl]
      refine zed ?_
      rw [List.getElem?_map, ← List.head?_eq_getElem?, hff]
      rfl
     refine ⟨_, _, _, _, rfl, rfl, SqL.of h6, hat0, ?_⟩
     refine ⟨_, rfl, _, rfl, _, _, _, k, rfl, rfl, h6p, zeK (by rw [List.length_map, ml]; exact g1), ?_⟩
     have same : ∀ b o, b ≠ p → H4 b = some o → upd H6 p (.lst (((mixL v ys k).map nV).set k (nV (zcQ ys k)))) b = some o := fun b o n e => by
      rw [zag n]
      exact k6 _ _ (zab (s5 _ _ e) hD2) (s5 _ _ e)
     refine ⟨_, _, rfl, ?_, same _ _ (Ne.symm npD) h4D, same _ _ (Ne.symm (zb5 h4 h4t)) h4t, fun b o n e => same _ _ n (k4 b o n e)⟩
     rw [zac, nx, List.map_set]
   ·rintro σ H4 ⟨x4, x5, rfl, h4, h4D, h4t, k4⟩
    rw [List.length_map, mix_last] at h4
    exact ⟨_, _, _, _, rfl, h4, h4t, k4⟩
 ·rintro σ H2 ⟨x2, x3, x4, x5, rfl, h2, _, k2⟩
  refine ⟨_, rfl, ?_⟩
  exact q p H2 hp (fun b o e => k2 b o (zab e hp) e) h2
theorem ok_lmarks (T : Txt K mg) (D_l_marks : DF K mg "_law_marks" zbR zb2) (F_l_code : FC P w K mg base 1 "_law_code" zc5 (zig K)) (F_l_turned : FC P w K mg base 1 "_law_turned" zb0 (ze4 K)) (F_l_colours : FC P w K mg base 1 "_law_colours" zbI (zeh K)) : FC P w K mg base 2 "_law_marks" zb2 (zfa K) := by
 refine D_l_marks.ok sc_l_marks (fun vs H Q E h => ?_) (fun f cdv A outer s H vs Q E hr h => ?_)
 ·obtain ⟨a, ws, es, rfl, _⟩ := h
  rfl
 obtain ⟨a, ws, es, rfl, ha, hw, hz, he, hri, q⟩ := h
 have hlen := hw.length
 refine ⟨_, (zae (zd1 (i := 1) (N := ["_law_entry"]) (own := 1) (cap := []) sc_l_marks.nd rfl rfl rfl (zbg (pv 0)) ⟨rfl, rfl, rfl, rfl, rfl, rfl⟩ (fun _ _ _ _ _ => (zal (i := 0) (show List.Nodup (["_law_entry"] : List Str) by decide +kernel) rfl (Or.inl rfl))) (fun _ _ _ _ _ => zcM) (fun _ _ _ _ _ => (zaG F_l_code hr (zaa (pv 0) zad))))
   (zae (zaN PassesOwn.never rfl (za0 rfl T.m_range (zaa zaf zad)) (zal (i := 2) sc_l_marks.nd rfl (Or.inl rfl)) (zai (zaw (i := 1) sc_l_marks.nd rfl (Or.inl rfl) (zaG F_l_turned hr (zaa (pv 1) zad)))))
   (zae (zaw (i := 3) sc_l_marks.nd rfl (Or.inl rfl) (zaG F_l_colours hr (zaa (pv 1) zad)))
   (zae (zd1 (i := 4) (N := ["_law_entry"]) (own := 1) (cap := []) sc_l_marks.nd rfl rfl rfl (zbg (pv 0)) ⟨rfl, rfl, rfl, rfl, rfl, rfl⟩ (fun _ _ _ _ _ => (zal (i := 0) (show List.Nodup (["_law_entry"] : List Str) by decide +kernel) rfl (Or.inl rfl))) (fun _ _ _ _ _ => zcM) (fun _ _ _ _ _ => zd6))
   (zae (zaN PassesOwn.never rfl (zfd (zca (zaa zaf (zaa zaf (zaa zaf zad))))) (zal (i := 5) sc_l_marks.nd rfl (Or.inl rfl)) (zai (zaN PassesOwn.never rfl (zek rfl T.m_range (zaa zaf (zaa (zao zaq rfl T.m_len boot_len (zaa (pv 0) zad)) zad))) (zal (i := 2) sc_l_marks.nd rfl (Or.inl rfl)) (zai (zcq (PW.pt (pw_and (zaI zd7 (zaK zaE (pv 3) (pv 2) (fun _ _ => rfl)) (pv 5) (za8 _)) (zht (zaI zdA zd6 (zel zfb (pv 4) (zcZ (zau zcb (pv 2) zaf)) (zcZ (zau zbh (pv 2) zaf))) (by with_unfolding_all rfl))))) (zai (zeS zd6 (zfN (pv 4) (pv 2) zdJ))) zaT)))))
   (zai (zaz (pv 4)))))))), ?_⟩
 refine ⟨_, rfl, a, rfl, ⟨_, SqL.of ha⟩, fun D hD => ?_⟩
 have k0 : But D H (upd H D (.lst [])) := fun b o n e => by rw [zag n]; exact e
 refine zcS (xs := ws) (fun i σ H2 => ∃ x0 : Option V, σ = [x0] ∧ H2 D = some (.lst (((zb4 es).take i).map nV)) ∧ But D H H2) ?_ ?_ ?_ ?_
 ·exact ⟨_, rfl, zac, k0⟩
 ·rintro i σ H2 _ ⟨x0, rfl, _, k2⟩
  exact k2.sq (SqL.of ha) hD
 ·rintro i m x σ H2 hx hm ⟨x0, rfl, h2, k2⟩
  obtain ⟨hi, hhas⟩ := zf1 hD hw hx k2
  refine zdC ?_
  refine ⟨_, rfl, x, es[i], rfl, hhas, ?_⟩
  refine ⟨_, h2, zam (by rw [List.length_map, List.length_take, zaB]; omega), m - 1, by omega, by omega, _, rfl, ?_, fun b o n e => by rw [zag n]; exact k2 b o n e⟩
  rw [zac, zf0 hi, List.map_append, ← zew (he _ (List.getElem_mem hi))]
  rfl
 rintro σ H2 ⟨x0, rfl, h2, k2⟩
 have e0 : H2 D = some (.lst ((zb4 es).map nV)) := by
  rw [h2, List.take_of_length_le (by rw [zaB]; omega)]
 have same0 : Same H H2 := fun b o e => k2 b o (zab e hD) e
 refine ⟨5, rfl, by decide, by decide, ?_⟩
 refine zbi (n := 5) (fun i σ H3 => ∃ (p : Addr) (x2 : Option V), σ = [some (.ref a), some (.ref p), x2, none, none, none] ∧ Same H H3 ∧ H3 p = some (.lst ((zcJ i (zb4 es)).map nV))) ?_ ?_ ?_
 ·exact ⟨D, _, rfl, same0, e0⟩
 ·rintro i σ H3 hi ⟨p, x2, rfl, s3, h3⟩
  refine ⟨_, rfl, p, _, rfl, SqL.of h3, zcI (zev he hri) i, by rw [zbn, zaB]; exact hz, fun p4 H4 hp4 s4 h4 => ?_⟩
  exact ⟨p4, _, rfl, s3.trans s4, h4⟩
 rintro σ H3 ⟨p, x2, rfl, s3, h3⟩
 refine ⟨_, rfl, p, _, rfl, SqL.of h3, zgs he hri, zg1 he hri, by rw [zbn, zaB]; exact hz, fun c H4 hc s4 h4 => ?_⟩
 have cu : Unl (colL (zcJ 5 (zb4 es))) := zju (ziQ (unlZ (zgs he hri)))
 have cl : (colL (zcJ 5 (zb4 es))).length = es.length := by rw [zec, zbn, zaB]
 have fin : zbM es = mkN (colL (zcJ 5 (zb4 es))) 3 := (zgV _).symm
 generalize colL (zcJ 5 (zb4 es)) = cs at h4 cu cl fin
 have s04 := s3.trans s4
 have h4a := s04 _ _ ha
 refine ⟨_, rfl, a, rfl, ⟨_, SqL.of h4a⟩, fun F hF => ?_⟩
 refine zcS (xs := ws) (fun i σ H5 => ∃ x0 : Option V, σ = [x0] ∧ H5 F = some (.lst ((List.replicate i false).map V.bl)) ∧ But F H4 H5) ?_ ?_ ?_ ?_
 ·exact ⟨_, rfl, zac, fun b o n e => by rw [zag n]; exact e⟩
 ·rintro i σ H5 _ ⟨x0, rfl, _, k5⟩
  exact k5.sq (SqL.of h4a) hF
 ·rintro i m x σ H5 hx hm ⟨x0, rfl, h5, k5⟩
  have hi := (List.getElem?_eq_some_iff.mp hx).1
  refine zdC ?_
  refine ⟨_, h5, zam (by rw [List.length_map, List.length_replicate]; omega), m - 1, by omega, by omega, _, rfl, ?_, fun b o n e => by rw [zag n]; exact k5 b o n e⟩
  rw [zac, List.replicate_succ', List.map_append]
  rfl
 rintro σ H5 ⟨x0, rfl, h5, k5⟩
 have s45 : Same H4 H5 := fun b o e => k5 b o (zab e hF) e
 have h5c := s45 _ _ h4
 have h5a := s45 _ _ h4a
 have nFc : c ≠ F := zab h4 hF
 have hF0 : H F = none := s04.free hF
 have k05 : But F H H5 := fun b o _ e => s45 _ _ (s04 _ _ e)
 have e5 : H5 F = some (.lst ((mkN cs 0).map V.bl)) := by
  rw [h5, mkN, show List.replicate ws.length false = cs.map (fun _ => false) from by rw [List.map_const', cl, hlen]]
 refine ⟨(by show 3 ≤ sizeLine; decide), fun t ht => ?_⟩
 have st := zak ht (.tup [V.int 2, V.int 1, V.int 0])
 refine ⟨t, rfl, ⟨_, SqT.of zac⟩, ?_⟩
 refine zgw (xs := [V.int 2, V.int 1, V.int 0]) (fun i σ H6 => ∃ (x1 x2 x5 : Option V), σ = [some (.ref a), x1, x2, some (.ref c), some (.ref F), x5] ∧ H6 F = some (.lst ((mkN cs i).map V.bl)) ∧ H6 c = some (.lst (cs.map nV)) ∧ H6 t = some (.tup [V.int 2, V.int 1, V.int 0]) ∧ But F H H6) ?_ ?_ ?_ ?_
 ·exact ⟨_, _, _, rfl, st _ _ e5, st _ _ h5c, zac, k05.new ht _⟩
 ·rintro i σ H6 _ ⟨x1, x2, x5, rfl, _, _, h6t, _⟩
  exact SqT.of h6t
 ·rintro i x σ H6 hx ⟨x1, x2, x5, rfl, h6, h6c, h6t, k6⟩
  obtain ⟨hi, rfl⟩ : i < 3 ∧ x = V.int ((2 - i : Nat) : Int) := by
   rcases i with _ | _ | _ | i
   ·exact ⟨by decide, (Option.some.inj hx).symm⟩
   ·exact ⟨by decide, (Option.some.inj hx).symm⟩
   ·exact ⟨by decide, (Option.some.inj hx).symm⟩
   ·cases hx
  have hml := zfP cs i
  have hnx : mkN cs (i + 1) = zce (2 - i) cs (mkN cs i) := rfl
  rw [hnx]
  generalize mkN cs i = ms at h6 hml ⊢
  generalize 2 - i = sh
  have h6a := k6 _ _ (zab ha hF0) ha
  refine ⟨_, rfl, _, _, rfl, .inl (SqL.of h6a), 1, _, rfl, ⟨by omega, by omega, by omega, by omega⟩, ?_⟩
  have en : (((ws.length : Nat) : Int) - 1).toNat = cs.length - 1 := by omega
  rw [en]
  have km : ∀ k, (mixM sh cs ms k).length = cs.length := zdk hml
  refine zbi (n := cs.length - 1) (fun j σ H7 => ∃ (x2 : Option V), σ = [some (.ref a), x1, x2, some (.ref c), some (.ref F), some (.int sh)] ∧ H7 F = some (.lst ((mixM sh cs ms (1 + j)).map V.bl)) ∧ H7 c = some (.lst (cs.map nV)) ∧ H7 t = some (.tup [V.int 2, V.int 1, V.int 0]) ∧ But F H H7) ?_ ?_ ?_
  ·exact ⟨_, rfl, by rw [zit hml]; exact h6, h6c, h6t, k6⟩
  ·rintro j σ H7 hj ⟨x2, rfl, h7, h7c, h7t, k7⟩
   have ek : (1 : Int) + (j : Int) = ((1 + j : Nat) : Int) := by omega
   have hk1 : 1 ≤ 1 + j := by omega
   have hkl : 1 + j < cs.length := by omega
   rw [ek]
   have es1 : 1 + (j + 1) = 1 + j + 1 := by omega
   rw [es1]
   generalize 1 + j = k at h7 hk1 hkl ⊢
   have hat := zfv (xs := cs) hkl
   have mc : cs.getD k 0 = sh → zdF (mixM sh cs ms k) k = zdF ms k := fun z => zjc cu hml hkl hk1 z
   refine ⟨_, rfl, _, rfl, _, _, _, _, rfl, rfl, SqL.of h7c, hat, _, rfl, rfl, _, rfl, ?_⟩
   refine ite2 (fun e => ?_) (fun e => ?_)
   ·have e' : cs.getD k 0 = sh := by
     have := V.int.inj (of_decide_eq_true e)
     omega
    refine ⟨_, rfl, _, rfl, _, _, rfl, rfl, _, rfl, _, rfl, _, _, rfl, rfl, _, rfl, _, _, rfl, SqL.of h7, fun b hb => ?_⟩
    have sb := zak hb (.lst (cutV ((mixM sh cs ms k).map V.bl) (some ((k : Int) - 1)) (some ((k : Int) + 2))))
    have hbb : upd H7 b (.lst (cutV ((mixM sh cs ms k).map V.bl) (some ((k : Int) - 1)) (some ((k : Int) + 2)))) b = some (.lst ((((mixM sh cs ms k).drop (k - 1)).take 3).map V.bl)) := by
     rw [zac, cut_mid hk1 rfl rfl]
    have kb := k7.new hb (.lst (cutV ((mixM sh cs ms k).map V.bl) (some ((k : Int) - 1)) (some ((k : Int) + 2))))
    generalize upd H7 b (.lst (cutV ((mixM sh cs ms k).map V.bl) (some ((k : Int) - 1)) (some ((k : Int) + 2)))) = H8 at sb hbb kb ⊢
    refine ⟨_, _, rfl, .inl (SqL.of hbb), rfl, flat_bl _, _, rfl, ?_⟩
    show if (!inV (.bl true) ((((mixM sh cs ms k).drop (k - 1)).take 3).map V.bl)) = true then _ else _
    rw [ziJ, any3 _ hk1, mc e', Bool.not_not]
    refine ite2 (fun y => ?_) (fun y => ?_)
    ·refine ⟨_, rfl, _, rfl, _, _, _, k, rfl, rfl, sb _ _ h7, zeK (by rw [List.length_map, km]; exact hkl), ?_⟩
     have same : ∀ b o, b ≠ F → H8 b = some o → upd H8 F (.lst (((mixM sh cs ms k).map V.bl).set k (.bl true))) b = some o := fun b o n e => by
      rw [zag n]
      exact e
     refine ⟨_, rfl, ?_, same _ _ (fun z => ?_) (sb _ _ h7c), same _ _ (Ne.symm (zb5 (sb _ _ h7) (sb _ _ h7t))) (sb _ _ h7t), fun b o n e => same _ _ n (kb b o n e)⟩
     ·rw [zac, mixM_put hml hkl ⟨hk1, e', y⟩, List.map_set]
     ·exact nFc z
    ·exact ⟨_, rfl, by rw [zff hml hkl (fun z => y z.2.2)]; exact sb _ _ h7, sb _ _ h7c, sb _ _ h7t, kb⟩
   ·have e' : cs.getD k 0 ≠ sh := fun z => e (by rw [z]; exact decide_eq_true rfl)
    refine iteF ?_
    exact ⟨_, rfl, by rw [zff hml hkl (fun z => e' z.2.1)]; exact h7, h7c, h7t, k7⟩
  ·rintro σ H7 ⟨x2, rfl, h7, h7c, h7t, k7⟩
   rw [ziu hml (by omega)] at h7
   exact ⟨_, _, _, rfl, h7, h7c, h7t, k7⟩
 ·rintro σ H6 ⟨x1, x2, x5, rfl, h6, _, _, k6⟩
  refine ⟨_, rfl, ?_⟩
  refine q F H6 hF0 (fun b o e => k6 b o (zab e hF0) e) ?_
  rw [fin]
  exact h6
set_option maxHeartbeats 1000000 in
theorem zaO {K : PySem.W.Frag} {H : Hp} {q : Addr} {zs : List V} {o : HO} (hq : H q = some (.lst zs)) : ∀ {es : List (Int × Int)} {ws : List V}, zaj K H es ws → zaj K (upd H q o) es ws
 | _, _, .nil => .nil
 | _, _, .cons h t => by
  refine .cons ?_ (zaO hq t)
  obtain ⟨a, x1, x2, rfl, hT, e1, e2⟩ := (show hasP K H _ _ from h)
  exact ⟨a, x1, x2, rfl, by rw [zag (ne_of hT hq (by intro z; cases z))]; exact hT, e1, e2⟩
def Own (K : PySem.W.Frag) (H : Hp) : List Addr → List (List (Int × Int)) → Prop := Paired fun q l => ∃ ws, H q = some (.lst ws) ∧ zaj K H l ws
section
variable {K : PySem.W.Frag} {H H' : Hp}
theorem Own.length {qs : List Addr} {ls : List (List (Int × Int))} (h : Own K H qs ls) : qs.length = ls.length := Paired.length h
theorem Own.ext (e : Ext H H') : ∀ {qs : List Addr} {ls : List (List (Int × Int))}, Own K H qs ls → Own K H' qs ls
 | _, _, .nil => .nil
 | _, _, .cons ⟨ws, h1, h2⟩ t => .cons ⟨ws, e _ _ h1 (fun _ z => nomatch z), zaj.mono e h2⟩ (Own.ext e t)
theorem Own.all : ∀ {qs : List Addr} {ls : List (List (Int × Int))}, Own K H qs ls → zaj K H ls (qs.map V.ref)
 | _, _, .nil => .nil
 | _, _, .cons ⟨ws, h1, h2⟩ t => .cons ⟨_, ws, rfl, SqL.of h1, h2⟩ (Own.all t)
theorem Own.has {qs : List Addr} {ls : List (List (Int × Int))} {p : Addr} (h : Own K H qs ls) (hp : H p = some (.lst (qs.map V.ref))) : Rep.has K H ls (.ref p) := ⟨p, _, rfl, SqL.of hp, h.all⟩
theorem Own.get : ∀ {qs : List Addr} {ls : List (List (Int × Int))} {i : Nat} {x : V}, Own K H qs ls → (qs.map V.ref)[i]? = some x → ∃ q l ws, qs[i]? = some q ∧ x = .ref q ∧ ls[i]? = some l ∧ H q = some (.lst ws) ∧ zaj K H l ws
 | _, _, _, _, .nil, e => by simp at e
 | _, _, 0, _, .cons ⟨ws, h1, h2⟩ _, e => by
  simp at e
  exact ⟨_, _, ws, rfl, e.symm, rfl, h1, h2⟩
 | _, _, i + 1, x, .cons _ t, e => by
  obtain ⟨q, l, ws, h1, h2, h3, h4, h5⟩ := Own.get (i := i) (x := x) t (by simpa using e)
  exact ⟨q, l, ws, by simpa using h1, h2, by simpa using h3, h4, h5⟩
theorem Own.append : ∀ {qs qs' : List Addr} {ls ls' : List (List (Int × Int))}, Own K H qs ls → Own K H qs' ls' → Own K H (qs ++ qs') (ls ++ ls')
 | _, _, _, _, .nil, s => s
 | _, _, _, _, .cons r t, s => .cons r (Own.append t s)
theorem Own.rev : ∀ {qs : List Addr} {ls : List (List (Int × Int))}, Own K H qs ls → Own K H qs.reverse ls.reverse
 | _, _, .nil => .nil
 | _, _, .cons r t => by
  rw [List.reverse_cons, List.reverse_cons]
  exact Own.append (Own.rev t) (.cons r .nil)
theorem Own.other {q : Addr} {o : HO} {zs : List V} (hq : H q = some (.lst zs)) : ∀ {qs : List Addr} {ls : List (List (Int × Int))}, Own K H qs ls → q ∉ qs → Own K (upd H q o) qs ls
 | _, _, .nil, _ => .nil
 | _, _, .cons ⟨ws, h1, h2⟩ t, hn => by
  rw [List.mem_cons, not_or] at hn
  exact .cons ⟨ws, by rw [zag (Ne.symm hn.1)]; exact h1, zaO hq h2⟩ (Own.other hq t hn.2)
theorem Own.put {e : Int × Int} {x : V} (hx : Rep.has K H e x) : ∀ {qs : List Addr} {ls : List (List (Int × Int))} {i : Nat} {q : Addr} {ws : List V}, Own K H qs ls → qs.Nodup → qs[i]? = some q → H q = some (.lst ws) →
  ∃ ls', Own K (upd H q (.lst (ws ++ [x]))) qs ls' ∧ ls'.length = ls.length ∧ ls'.flatten.length = ls.flatten.length + 1
 | _, _, _, _, _, .nil, _, e, _ => by simp at e
 | q' :: qs, l :: ls, 0, q, ws, .cons ⟨ws', h1, h2⟩ t, hn, e, hq => by
  have e : q' = q := by simpa using e
  subst e
  rw [h1] at hq
  cases hq
  rw [List.nodup_cons] at hn
  refine ⟨(l ++ [_]) :: ls, .cons ⟨_, zac, (zaO h1 h2).append (zaO h1 (.one hx))⟩ (Own.other h1 t hn.1), rfl, ?_⟩
  rw [List.flatten_cons, List.flatten_cons, List.length_append, List.length_append, List.length_append, List.length_singleton]
  omega
 | q' :: qs, l :: ls, i + 1, q, ws, .cons ⟨ws', h1, h2⟩ t, hn, e, hq => by
  have e : qs[i]? = some q := by simpa using e
  rw [List.nodup_cons] at hn
  obtain ⟨ls', g1, g2, g3⟩ := Own.put hx t hn.2 e hq
  have hne : q' ≠ q := fun z => hn.1 (by rw [z]; exact List.mem_of_getElem? e)
  refine ⟨l :: ls', .cons ⟨ws', by rw [zag hne]; exact h1, zaO hq h2⟩ g1, by rw [List.length_cons, List.length_cons, g2], ?_⟩
  rw [List.flatten_cons, List.flatten_cons, List.length_append, List.length_append, g3]
  omega
end
theorem zg8 {ls : List (List (Int × Int))} {i : Nat} {l : List (Int × Int)} (h : ls[i]? = some l) : (ls.take (i + 1)).flatten = (ls.take i).flatten ++ l := by
 have hi := (List.getElem?_eq_some_iff.mp h).1
 rw [List.take_succ_eq_append_getElem hi, List.flatten_append, (List.getElem?_eq_some_iff.mp h).2]
 simp
theorem flat_le {ls : List (List (Int × Int))} (i : Nat) : (ls.take i).flatten.length ≤ ls.flatten.length := by
 have e : ls.flatten = (ls.take i).flatten ++ (ls.drop i).flatten := by rw [← List.flatten_append, List.take_append_drop]
 rw [e, List.length_append]
 omega
def spJoin (K : PySem.W.Frag) : Sp := fun vs H Q _ => ∃ (a : Addr) (qs : List Addr) (ls : List (List (Int × Int))), vs = [.ref a] ∧ H a = some (.lst (qs.map V.ref)) ∧ Own K H qs ls ∧ ls.flatten.length ≤ 1000 ∧
 ∀ (p : Addr) (ws : List V) (H' : Hp), H p = none → Same H H' → H' p = some (.lst ws) → zaj K H' (zdt ls.flatten) ws → Q (.ref p) H'
theorem ok_joined (T : Txt K mg) (D_joined_up : DF K mg "joined_up" zbc zbJ) : FC P w K mg base 1 "joined_up" zbJ (spJoin K) := by
 refine D_joined_up.ok sc_joined_up (fun vs H Q E h => ?_) (fun f cdv A outer s H vs Q E hr h => ?_)
 ·obtain ⟨a, qs, ls, rfl, _⟩ := h
  rfl
 obtain ⟨a, qs, ls, rfl, ha, ho, hz, q⟩ := h
 have hll := ho.length
 refine ⟨_, (zae (zaw (i := 1) sc_joined_up.nd rfl (Or.inl rfl) (zbL zad))
   (zae (zaN PassesOwn.never rfl (zbg (pv 0)) (zal (i := 2) sc_joined_up.nd rfl (Or.inl rfl)) (zai (za3 (zc7 F.plainAttrs_list F.slot_list_extend F.type_list_extend mt_extend (pv 1) (zaa (pv 2) zad)))))
   (zai (zaz (zao (zdT (Int × Int)) rfl T.m_sorted boot_sorted (zaa (pv 1) zad)))))), ?_⟩
 refine ⟨(by show 0 ≤ sizeLine; decide), fun t ht => ?_⟩
 have k0 : But t H (upd H t (.lst [])) := fun b o n e => by rw [zag n]; exact e
 refine ⟨_, rfl, a, rfl, ⟨_, SqL.of (k0 _ _ (zab ha ht) ha)⟩, ?_⟩
 refine zbD (xs := qs.map V.ref) (fun i σ H2 => ∃ (zs : List V) (x2 : Option V), σ = [some (.ref a), some (.ref t), x2] ∧ H2 t = some (.lst zs) ∧ zaj K H2 (ls.take i).flatten zs ∧ But t H H2 ∧ Own K H2 qs ls) ?_ ?_ ?_ ?_
 ·exact ⟨[], _, rfl, zac, .nil, k0, ho.ext (zak ht _).ext⟩
 ·rintro i σ H2 _ ⟨zs, x2, rfl, h2, _, k2, _⟩
  exact SqL.of (k2 _ _ (zab ha ht) ha)
 ·rintro i x σ H2 hx ⟨zs, x2, rfl, h2, hw, k2, o2⟩
  obtain ⟨g, l, ws, e1, rfl, e3, e4, e5⟩ := o2.get hx
  have hlen : zs.length + ws.length ≤ 1000 := by
   have z1 := hw.length
   have z2 := e5.length
   have z3 := flat_le (ls := ls) (i + 1)
   rw [zg8 e3, List.length_append] at z3
   omega
  have hgo : ∀ b ∈ qs, b ≠ t := fun b hb z => by
   obtain ⟨j, hj, rfl⟩ := List.getElem_of_mem hb
   obtain ⟨_, _, ws0, f1, f2, _, f4, _⟩ := ho.get (i := j) (x := .ref qs[j]) (by rw [List.getElem?_map, List.getElem?_eq_getElem hj]; rfl)
   cases f2
   rw [z, ht] at f4
   cases f4
  refine ⟨_, rfl, .inl ⟨rfl, _, SqL.of h2⟩, _, rfl, t, g, zs, ws, rfl, rfl, h2, e4, Nat.le_of_lt (zam hlen), ?_⟩
  refine ⟨_, _, rfl, zac, ?_, fun b o n e => by rw [zag n]; exact k2 b o n e, o2.other h2 (fun z => hgo t z rfl)⟩
  rw [zg8 e3]
  exact (zaO h2 hw).append (zaO h2 e5)
 ·rintro σ H2 ⟨zs, x2, rfl, h2, hw, k2, o2⟩
  rw [List.take_of_length_le (by rw [List.length_map]; omega)] at hw
  refine ⟨_, rfl, t, zs, _, rfl, SqL.of h2, hw, fun l ws hl hs => ?_⟩
  have e2 := zak hl (.lst ws)
  have s2 : Same H H2 := fun b o e => k2 b o (zab e ht) e
  exact q l ws _ (s2.free hl) (s2.trans e2) zac (zaj.mono e2.ext hs)
def zch (ps : List Nat) : List V := .non :: ps.map nV
def parV (ps : List Nat) (k : Nat) : V := match par ps k with
 | none => .non
 | some p => nV p
theorem zap (ps : List Nat) : (zch ps).length = ps.length + 1 := by
 unfold zch
 rw [List.length_cons, List.length_map]
theorem zgB {ps : List Nat} {k : Nat} (h : k < ps.length + 1) : atI (zch ps) (k : Int) = some (parV ps k) := by
 refine zed ?_
 unfold zch parV
 cases k with
 | zero => rfl
 | succ k =>
  show (ps.map nV)[k]? = some (match ps[k]? with | none => _ | some p => nV p)
  rw [List.getElem?_map, List.getElem?_eq_getElem (show k < ps.length by omega)]
  rfl
theorem zem {ps : List Nat} {k p : Nat} (h : par ps k = some p) : parV ps k = nV p := by
 unfold parV
 rw [h]
theorem zgQ {ps : List Nat} {k : Nat} (h : par ps k = none) : parV ps k = .non := by
 unfold parV
 rw [h]
theorem zgi {ps : List Nat} {k m : Nat} : parV ps k = .int (m : Int) ↔ par ps k = some m := by
 cases e : par ps k with
 | none =>
  rw [zgQ e]
  exact ⟨(fun z => nomatch z), (fun z => nomatch z)⟩
 | some p =>
  rw [zem e]
  constructor
  ·intro z
   have := Int.ofNat.inj (V.int.inj z)
   rw [this]
  ·intro z
   rw [Option.some.inj z]
theorem zgO (ps : List Nat) (k : Nat) (i : Int) : scal (parV ps k) (.int i) = true := by
 cases e : par ps k with
 | none => rw [zgQ e]; rfl
 | some p => rw [zem e]; rfl
theorem But.new' {p b : Addr} {H H2 : Hp} (k : But p H H2) (hb : H2 b = none) (o : HO) : But p H (upd H2 b o) := fun x o' n e => (zak hb o) x o' (k x o' n e)
def spTree (K : PySem.W.Frag) : Sp := fun vs H Q _ => ∃ (d L : Addr) (m : Int), vs = [.ref d, .int m] ∧ (0 < m ∧ m ≤ 40) ∧ LS K L d H ∧
 ∀ (t : Addr) (ps : List Nat) (H' : Hp), H t = none → zaL ps → (ps.length : Int) < m → H' t = some (.tup (zch ps)) → Keep d H H' → LS K L d H' → Q (.ref t) H'
theorem zjC {ps : List Nat} {u : Nat} (T : zaL ps) (h : u ≤ ps.length) : zaL (ps ++ [u]) := by
 intro i hi
 rw [List.length_append, List.length_singleton] at hi
 by_cases c : i < ps.length
 ·rw [List.getElem_append_left c]
  exact T i c
 ·have : i = ps.length := by omega
  subst this
  rw [List.getElem_append_right (Nat.le_refl _)]
  simp
  exact h
theorem ok_ltree (T : Txt K mg) (D_l_tree : DF K mg "_law_tree" zck zc4) (F_l_take : FC P w K mg base 2 "_law_take" zbX (zgI K)) : FC P w K mg base 3 "_law_tree" zc4 (spTree K) := by
 refine D_l_tree.ok sc_l_tree (fun vs H Q E h => ?_) (fun f cdv A outer s H vs Q E hr h => ?_)
 ·obtain ⟨d, L, m, rfl, _⟩ := h
  rfl
 obtain ⟨d, L, m, rfl, ⟨hm0, hm1⟩, hs, q⟩ := h
 refine ⟨_, (zae (zaw (i := 2) sc_l_tree.nd rfl (Or.inl rfl) (zaG F_l_take hr (zaa (pv 0) (zaa zaf zad))))
   (zae (zaw (i := 3) sc_l_tree.nd rfl (Or.inl rfl) (zbL (zaa pe_non zad)))
   (zae (zaN PassesOwn.never rfl (zek rfl T.m_range (zaa zaf (zaa (zau zbh zaf (zaG F_l_take hr (zaa (pv 0) (zaa (pv 1) zad)))) zad))) (zal (i := 4) sc_l_tree.nd rfl (Or.inl rfl)) (zai (za3 (zc7 F.plainAttrs_list F.slot_list_append F.type_list_append zaD (pv 3) (zaa (zaK zaE (zbL (zaa (zau zcb (pv 4) zaf) (zaa zaf (zaa (zaG F_l_take hr (zaa (pv 0) (zaa (pv 4) zad))) (zaa (zao (zfq rfl) rfl T.m_max boot_max (zaa zaf (zaa (zau zcb (zau zcb (pv 4) zaf) (zaG F_l_take hr (zaa (pv 0) (zaa zaf zad)))) zad))) zad))))) (pv 2) (fun _ _ => rfl)) zad)))))
   (zai (zaz (zcO zdr rfl T.m_tuple boot_tuple (zaa (pv 3) zad))))))), ?_⟩
 refine ⟨_, rfl, d, L, 4, rfl, by decide, hs, fun w1 H1 w0 w4 k1 s1 => ?_⟩
 refine ⟨(by show 1 ≤ sizeLine; decide), fun p hp => ?_⟩
 have g0 := zak hp (.lst [V.non])
 have hpd : p ≠ d := by
  obtain ⟨ns, a, l, e, _⟩ := s1.ex
  exact Ne.symm (zab e hp)
 have hp0 : H p = none := by
  cases e : H p with
  | none => rfl
  | some o =>
   have := k1 p o hpd e
   rw [hp] at this
   cases this
 refine ⟨_, rfl, _, rfl, d, L, m, rfl, ⟨hm0, by omega⟩, s1.same g0, fun n H2 n0 n1 k2 s2 => ⟨_, _, rfl, rfl, 1, _, rfl, ⟨by omega, by omega, by omega, by omega⟩, ?_⟩⟩
 have en : ((1 : Int) + n - 1).toNat = n.toNat := by omega
 rw [en]
 refine zbi (n := n.toNat) (fun i σ H3 => ∃ (ps : List Nat) (x4 : Option V), σ = [some (.ref d), some (.int m), some (.int w1), some (.ref p), x4] ∧ H3 p = some (.lst (zch ps)) ∧ ps.length = i ∧ zaL ps ∧ (∀ b o, b ≠ d → b ≠ p → H b = some o → H3 b = some o) ∧ LS K L d H3) ?_ ?_ ?_
 ·exact ⟨[], _, rfl, k2 p _ hpd zac, rfl, fun i hi => absurd hi (by simp), fun b o n1 n2 e => k2 b o n1 (g0 b o (k1 b o n1 e)), s2⟩
 ·rintro i σ H3 hi ⟨ps, x4, rfl, h3, rfl, hT, k3, s3⟩
  have ek : (1 : Int) + ((ps.length : Nat) : Int) = ((ps.length + 1 : Nat) : Int) := by omega
  rw [ek]
  refine ⟨_, rfl, .inl ⟨rfl, _, SqL.of h3⟩, ?_⟩
  refine ⟨_, rfl, _, _, rfl, rfl, _, rfl, _, rfl, d, L, _, rfl, ⟨by omega, by omega⟩, s3, fun v1 H4 v10 v11 k4 s4 => ?_⟩
  refine ⟨_, rfl, _, _, rfl, rfl, _, rfl, d, L, 2, rfl, by decide, s4, fun v2 H5 v20 v21 k5 s5 => ⟨_, _, rfl, rfl, _, _, rfl, (by show 4 ≤ sizeLine; decide), fun l hl => ?_⟩⟩
  have h4 := k4 p _ hpd h3
  have h5 := k5 p _ hpd h4
  obtain ⟨u, hat, hu⟩ : ∃ u : Nat, atI [V.int (((ps.length + 1 : Nat) : Int) - 1), V.int 0, V.int v1, V.int (if ((ps.length + 1 : Nat) : Int) - 1 - v2 > 0 then ((ps.length + 1 : Nat) : Int) - 1 - v2 else 0)] w1 = some (nV u) ∧ u ≤ ps.length := by
   have z : w1 = 0 ∨ w1 = 1 ∨ w1 = 2 ∨ w1 = 3 := by omega
   rcases z with rfl | rfl | rfl | rfl
   ·refine ⟨ps.length, ?_, Nat.le_refl _⟩
    rw [show ((ps.length + 1 : Nat) : Int) - 1 = ((ps.length : Nat) : Int) by omega]
    rfl
   ·exact ⟨0, rfl, Nat.zero_le _⟩
   ·obtain ⟨u, rfl⟩ := nat_ex v10
    exact ⟨u, rfl, by omega⟩
   ·refine ⟨(if ((ps.length + 1 : Nat) : Int) - 1 - v2 > 0 then ((ps.length + 1 : Nat) : Int) - 1 - v2 else 0).toNat, ?_, ?_⟩
    ·show some (V.int _) = some (V.int _)
     rw [Int.toNat_of_nonneg (by split <;> omega)]
    ·split <;> omega
  refine ⟨_, rfl, _, _, _, _, rfl, rfl, SqL.of zac, hat, _, _, _, rfl, rfl, by rw [zag (zab h5 hl)]; exact h5, zam (by rw [zap]; omega), ?_⟩
  refine ⟨ps ++ [u], _, rfl, ?_, by rw [List.length_append, List.length_singleton], zjC hT hu, fun b o n1 n2 e => ?_, ?_⟩
  ·rw [zac]
   unfold zch
   rw [List.map_append]
   rfl
  ·rw [zag n2]
   have e5 := k5 b o n1 (k4 b o n1 (k3 b o n1 n2 e))
   exact (zak hl _) _ _ e5
  ·exact LS.put hs hp0 (fun b o n1 n2 e => (zak hl _) _ _ (k5 b o n1 (k4 b o n1 (k3 b o n1 n2 e)))) (s5.of_new hl _)
 ·rintro σ H3 ⟨ps, x4, rfl, h3, hl, hT, k3, s3⟩
  refine ⟨_, rfl, p, _, rfl, .inl ⟨SqL.of h3, fun t ht => ?_⟩⟩
  have sn := zak ht (.tup (zch ps))
  have htp : t ≠ p := Ne.symm (zab h3 ht)
  have ht0 : H t = none := by
   cases e : H t with
   | none => rfl
   | some o =>
    have htd : t ≠ d := by
     obtain ⟨ns, a, l, e, _⟩ := s3.ex
     exact Ne.symm (zab e ht)
    have := k3 t o htd htp e
    rw [ht] at this
    cases this
  exact q t ps _ ht0 hT (by omega) zac (fun b o n e => sn _ _ (k3 b o n (zab e hp0) e)) (s3.of_new ht _)
def zc1 (K : PySem.W.Frag) : Sp := fun vs H Q _ => ∃ (t : Addr) (ps : List Nat) (k : Nat), vs = [.ref t, .int k] ∧ H t = some (.tup (zch ps)) ∧ ps.length ≤ 900 ∧
 ∀ (p : Addr) (H' : Hp), H p = none → Same H H' → H' p = some (.lst ((zaM ps k (ps.length + 1)).map nV)) → Q (.ref p) H'
theorem zhy (T : Txt K mg) (D_children : DF K mg "children" zbs zbE) : FC P w K mg base 1 "children" zbE (zc1 K) := by
 refine D_children.ok sc_children (fun vs H Q E h => ?_) (fun f cdv A outer s H vs Q E hr h => ?_)
 ·obtain ⟨t, ps, k, rfl, _⟩ := h
  rfl
 obtain ⟨t, ps, k, rfl, ht, hz, q⟩ := h
 refine ⟨_, (zai (zaz (zdh (N := ["other", "tree", "knot"]) (own := 1) (cap := [0, 1]) rfl (za0 rfl T.m_range (zaa (zao zaq rfl T.m_len boot_len (zaa (pv 0) zad)) zad)) ⟨rfl, rfl, rfl, rfl, rfl, rfl⟩ (fun _ _ _ _ _ => (zal (i := 0) (show List.Nodup (["other", "tree", "knot"] : List Str) by decide +kernel) rfl (Or.inl rfl))) (fun _ _ _ _ _ => (zeF (zaI zd7 (zaK (zhL (K := K)) (pv 1) (pv 0) (fun _ _ => rfl)) (pv 2) (za8 _)))) (fun _ _ _ _ _ => (pv 0))))), ?_⟩
 refine ⟨_, rfl, _, _, rfl, .inr (SqT.of ht), _, rfl, by omega, by rw [zap]; omega, fun D hD => ?_⟩
 have el : ((((zch ps).length : Nat) : Int)).toNat = ps.length + 1 := by rw [zap, Int.toNat_natCast]
 rw [el]
 refine zcG (n := ps.length + 1) (fun j σ H3 => ∃ x0 : Option V, σ = [x0, some (.ref t), some (.int k)] ∧ H3 D = some (.lst ((zaM ps k j).map nV)) ∧ But D H H3) ?_ ?_ ?_
 ·exact ⟨_, rfl, zac, fun b o n e => by rw [zag n]; exact e⟩
 ·rintro j m σ H3 hm hj ⟨x0, rfl, h3, k3⟩
  rw [Int.zero_add]
  have h3t := k3 _ _ (zab ht hD) ht
  have hlen := zcH ps k j
  refine ⟨_, rfl, _, rfl, _, _, _, _, rfl, rfl, SqT.of h3t, zgB hj, _, rfl, zgO _ _ _, _, rfl, ?_⟩
  refine ite2 (fun c => ?_) (fun c => ?_)
  ·have c' : par ps j = some k := zgi.mp (of_decide_eq_true c)
   refine ⟨_, rfl, _, h3, zam (by rw [List.length_map]; omega), m - 1, by omega, by omega, _, rfl, ?_, fun b o n e => by rw [zag n]; exact k3 b o n e⟩
   rw [zac, zdq, if_pos c', List.map_append]
   rfl
  ·have c' : ¬ par ps j = some k := fun z => c (decide_eq_true (zgi.mpr z))
   refine ⟨m - 1, by omega, by omega, _, rfl, ?_, k3⟩
   rw [h3, zdq, if_neg c', List.append_nil]
 ·rintro σ H3 ⟨x0, rfl, h3, k3⟩
  exact q D H3 hD (fun b o e => k3 b o (zab e hD) e) h3
def zgK (K : PySem.W.Frag) : Sp := fun vs H Q _ => ∃ (t : Addr) (ps : List Nat) (k : Nat), vs = [.ref t, .int k] ∧ H t = some (.tup (zch ps)) ∧ zaL ps ∧ k < ps.length + 1 ∧ ps.length ≤ 900 ∧
 ∀ (p : Addr) (H' : Hp), H p = none → Same H H' → H' p = some (.lst ((benL ps k (ps.length + 1)).map nV)) → Q (.ref p) H'
theorem zja (T : Txt K mg) (D_beneath : DF K mg "beneath" zbW zcD) : FC P w K mg base 1 "beneath" zcD (zgK K) := by
 refine D_beneath.ok sc_beneath (fun vs H Q E h => ?_) (fun f cdv A outer s H vs Q E hr h => ?_)
 ·obtain ⟨t, ps, k, rfl, _⟩ := h
  rfl
 obtain ⟨t, ps, k, rfl, ht, hT, hk, hz, q⟩ := h
 refine ⟨_, (zae (zaw (i := 2) sc_beneath.nd rfl (Or.inl rfl) (zbL (zaa (pv 1) zad)))
   (zae (zaN PassesOwn.never rfl (zek rfl T.m_range (zaa (zau zbh (pv 1) zaf) (zaa (zao zaq rfl T.m_len boot_len (zaa (pv 0) zad)) zad))) (zal (i := 3) sc_beneath.nd rfl (Or.inl rfl)) (zai (zcq (zaI op_in_seq (zaK zbm (pv 0) (pv 3) (fun _ _ => rfl)) (pv 2) (by with_unfolding_all rfl)) (zai (za3 (zc7 F.plainAttrs_list F.slot_list_append F.type_list_append zaD (pv 2) (zaa (pv 3) zad)))) zaT)))
   (zai (zaz (pv 2))))), ?_⟩
 refine ⟨_, rfl, (by show 1 ≤ sizeLine; decide), fun p hp => ?_⟩
 have k0 : But p H (upd H p (.lst [.int (k : Int)])) := fun b o n e => by rw [zag n]; exact e
 have ntp : t ≠ p := zab ht hp
 refine ⟨_, rfl, _, _, rfl, rfl, _, rfl, _, _, rfl, .inr (SqT.of (k0 _ _ ntp ht)), _, _, rfl, ⟨by omega, by omega, by omega, by rw [zap]; omega⟩, ?_⟩
 have en : ((((zch ps).length : Nat) : Int) - ((k : Int) + 1)).toNat = ps.length - k := by rw [zap]; omega
 rw [en]
 refine zbi (n := ps.length - k) (fun i σ H3 => ∃ x3 : Option V, σ = [some (.ref t), some (.int k), some (.ref p), x3] ∧ H3 p = some (.lst ((benL ps k (k + 1 + i)).map nV)) ∧ But p H H3) ?_ ?_ ?_
 ·refine ⟨_, rfl, ?_, k0⟩
  rw [zac, Nat.add_zero, benL_one hT]
  rfl
 ·rintro i σ H3 hi ⟨x3, rfl, h3, k3⟩
  have ek : (k : Int) + 1 + (i : Int) = ((k + 1 + i : Nat) : Int) := by omega
  rw [ek]
  have hj : k + 1 + i < ps.length + 1 := by omega
  have hj1 : 1 ≤ k + 1 + i := by omega
  have hjk : k + 1 + i ≠ k := by omega
  have ei : k + 1 + (i + 1) = k + 1 + i + 1 := by omega
  rw [ei]
  generalize k + 1 + i = j at h3 hj hj1 hjk ⊢
  obtain ⟨u, hu⟩ := zgh hj1 hj
  have h3t := k3 _ _ ntp ht
  have hat := zgB hj
  rw [zem hu] at hat
  have hlen := ziT ps k j
  refine ⟨_, rfl, _, rfl, _, _, _, _, rfl, rfl, SqT.of h3t, hat, _, rfl, _, _, rfl, .inl (SqL.of h3), rfl, zhP _, _, rfl, ?_⟩
  show if inV (.int (u : Int)) ((benL ps k j).map nV) = true then _ else _
  rw [inV_nV]
  have hB : isB ps k j = isB ps k u := zb6 hT hjk hu
  have hult := (za6 hT hu).1
  refine ite2 (fun c => ?_) (fun c => ?_)
  ·have c' : isB ps k u = true := (zcs.mp (of_decide_eq_true c)).2
   refine ⟨_, rfl, .inl ⟨rfl, _, SqL.of h3⟩, _, rfl, _, _, _, rfl, rfl, h3, zam (by rw [List.length_map]; omega), ?_⟩
   refine ⟨_, rfl, ?_, fun b o n e => by rw [zag n]; exact k3 b o n e⟩
   rw [zac, zhh, hB, if_pos c', List.map_append]
   rfl
  ·have c' : ¬ isB ps k u = true := fun z => c (decide_eq_true (zcs.mpr ⟨hult, z⟩))
   refine ⟨_, rfl, ?_, k3⟩
   rw [h3, zhh, hB, if_neg c', List.append_nil]
 ·rintro σ H3 ⟨x3, rfl, h3, k3⟩
  refine ⟨_, rfl, ?_⟩
  rw [show k + 1 + (ps.length - k) = ps.length + 1 by omega] at h3
  exact q p H3 hp (fun b o e => k3 b o (zab e hp) e) h3
def zea (es : List (Int × Int)) : List (Int × Int) := zbw es (zbM es)
def zcp (rows : List (List Int)) (k : Nat) : List Int := rows.getD k []
def ownE (rows : List (List Int)) (k : Nat) : List (Int × Int) := (zcp rows k).map fun x => (x, (k : Int))
def zji (ps : List Nat) (rows : List (List Int)) : Nat → Nat → List (Int × Int)
 | 0, _ => []
 | f + 1, k => zdt (((zaM ps k (ps.length + 1)).map fun c => zea (zji ps rows f c)).flatten ++ ownE rows k)
theorem zfW {ps : List Nat} (T : zaL ps) {rows : List (List Int)} : ∀ f g k, k < ps.length + 1 → ps.length + 1 - k ≤ f → ps.length + 1 - k ≤ g → zji ps rows f k = zji ps rows g k
 | 0, _, k, hk, h, _ => by omega
 | _, 0, k, hk, _, h => by omega
 | f + 1, g + 1, k, hk, hf, hg => by
  unfold zji
  congr 3
  refine List.map_congr_left fun c hc => ?_
  have h := zaC.mp hc
  have := za6 T h.2
  show zea _ = zea _
  rw [zfW T f g c h.1 (by omega) (by omega)]
def zar (ps : List Nat) (rows : List (List Int)) (k : Nat) : List (Int × Int) := zji ps rows (ps.length + 1 - k) k
def zdY (ps : List Nat) (rows : List (List Int)) (k : Nat) : List (List (Int × Int)) := ((zaM ps k (ps.length + 1)).map fun c => zea (zar ps rows c)) ++ [ownE rows k]
theorem zcX {ps : List Nat} (T : zaL ps) {rows : List (List Int)} {k : Nat} (hk : k < ps.length + 1) : zar ps rows k = zdt (zdY ps rows k).flatten := by
 unfold zar zdY
 obtain ⟨f, hf⟩ : ∃ f, ps.length + 1 - k = f + 1 := ⟨ps.length - k, by omega⟩
 rw [hf, zji, List.flatten_append, List.flatten_singleton]
 congr 3
 refine List.map_congr_left fun c hc => ?_
 have h := zaC.mp hc
 have := za6 T h.2
 show zea _ = zea _
 rw [zfW T f (ps.length + 1 - c) c h.1 (by omega) (by omega)]
 rfl
structure zbx (rows : List (List Int)) : Prop where
 up : ∀ row ∈ rows, row.Pairwise (· < ·)
 key : ∀ row ∈ rows, ∀ x ∈ row, -(10 ^ 60) < x ∧ x < 10 ^ 60
theorem zbx.at_up {rows : List (List Int)} (R : zbx rows) (k : Nat) : (zcp rows k).Pairwise (· < ·) := by
 unfold zcp
 rw [List.getD_eq_getElem?_getD]
 cases e : rows[k]? with
 | none => exact .nil
 | some row => exact R.up row (List.mem_of_getElem? e)
theorem zbx.at_key {rows : List (List Int)} (R : zbx rows) (k : Nat) : ∀ x ∈ zcp rows k, -(10 ^ 60) < x ∧ x < 10 ^ 60 := by
 unfold zcp
 rw [List.getD_eq_getElem?_getD]
 cases e : rows[k]? with
 | none => exact fun x hx => nomatch hx
 | some row => exact R.key row (List.mem_of_getElem? e)
theorem zdE {α : Type} : ∀ (es : List α) (ms : List Bool), (zbw es ms).Sublist es
 | [], _ => by
  unfold zbw
  exact List.Sublist.refl _
 | e :: es, [] => by
  unfold zbw
  exact List.nil_sublist _
 | e :: es, m :: ms => by
  have ih := zdE es ms
  unfold zbw at ih ⊢
  cases m with
  | false => exact List.Sublist.cons e ih
  | true => exact List.Sublist.cons₂ e ih
theorem zbo (es : List (Int × Int)) : (zea es).Sublist es := zdE _ _
def Of (ps : List Nat) (rows : List (List Int)) (k : Nat) (e : Int × Int) : Prop := ∃ j, j < ps.length + 1 ∧ isB ps k j = true ∧ e.2 = (j : Int) ∧ e.1 ∈ zcp rows j
theorem zir {ps : List Nat} {rows : List (List Int)} {k : Nat} (hk : k < ps.length + 1) {e : Int × Int} (h : e ∈ ownE rows k) : Of ps rows k e ∧ e.2 = (k : Int) := by
 obtain ⟨x, hx, rfl⟩ := List.mem_map.mp h
 exact ⟨⟨k, hk, zdo, rfl, hx⟩, rfl⟩
theorem zgR {rows : List (List Int)} (R : zbx rows) (k : Nat) : (ownE rows k).Nodup := by
 unfold ownE
 rw [List.nodup_iff_pairwise_ne, List.pairwise_map]
 exact List.Pairwise.imp (fun {a b} (h : a < b) z => by
  have := congrArg Prod.fst z
  have : a = b := this
  omega) (R.at_up k)
theorem ze7 {ps : List Nat} (T : zaL ps) {rows : List (List Int)} (R : zbx rows) : ∀ (m k : Nat), ps.length + 1 - k ≤ m → k < ps.length + 1 → (∀ e ∈ zar ps rows k, Of ps rows k e) ∧ (zdY ps rows k).flatten.Nodup
 | 0, k, hm, hk => by omega
 | m + 1, k, hm, hk => by
  have ih : ∀ c, par ps c = some k → (∀ e ∈ zar ps rows c, Of ps rows c e) ∧ (zar ps rows c).Nodup := fun c hc => by
   have := za6 T hc
   have q := ze7 T R m c (by omega) this.2
   refine ⟨q.1, ?_⟩
   rw [zcX T this.2]
   exact (zct _).nodup_iff.mpr q.2
  have up : ∀ {c : Nat} {e : Int × Int}, par ps c = some k → Of ps rows c e → Of ps rows k e := fun {c e} hc h => by
   obtain ⟨j, h1, h2, h3, h4⟩ := h
   exact ⟨j, h1, (zes T j j (Nat.le_refl _) h1).mpr (.inr ⟨c, hc, h2⟩), h3, h4⟩
  refine ⟨fun e he => ?_, ?_⟩
  ·rw [zcX T hk, zei] at he
   obtain ⟨l, hl, he⟩ := List.mem_flatten.mp he
   rcases List.mem_append.mp hl with q | q
   ·obtain ⟨c, hc, rfl⟩ := List.mem_map.mp q
    have hp := (zaC.mp hc).2
    exact up hp ((ih c hp).1 e ((zbo _).mem he))
   ·rw [List.mem_singleton.mp q] at he
    exact (zir hk he).1
  ·show List.Pairwise _ _
   unfold zdY
   rw [List.pairwise_flatten]
   refine ⟨fun l hl => ?_, ?_⟩
   ·rcases List.mem_append.mp hl with q | q
    ·obtain ⟨c, hc, rfl⟩ := List.mem_map.mp q
     exact (ih c (zaC.mp hc).2).2.sublist (zbo _)
    ·rw [List.mem_singleton.mp q]
     exact zgR R k
   ·rw [List.pairwise_append]
    refine ⟨?_, List.pairwise_singleton _ _, ?_⟩
    ·rw [List.pairwise_map]
     refine List.Pairwise.imp_of_mem (fun {c d} hc hd hcd => ?_) (zhb ps k _)
     intro x hx y hy z
     subst z
     have pc := (zaC.mp hc).2
     have pd := (zaC.mp hd).2
     obtain ⟨j, _, h2, h3, _⟩ := (ih c pc).1 x ((zbo _).mem hx)
     obtain ⟨i, _, g2, g3, _⟩ := (ih d pd).1 x ((zbo _).mem hy)
     have : j = i := by omega
     subst this
     exact zdD T pc pd (Nat.ne_of_lt hcd) j j (Nat.le_refl _) h2 g2
    ·intro l hl l' hl' x hx y hy z
     subst z
     obtain ⟨c, hc, rfl⟩ := List.mem_map.mp hl
     rw [List.mem_singleton.mp hl'] at hy
     have pc := (zaC.mp hc).2
     obtain ⟨j, _, h2, h3, _⟩ := (ih c pc).1 x ((zbo _).mem hx)
     have h4 := (zir hk hy).2
     have : j = k := by omega
     subst this
     rw [zeY T (za6 T pc).1] at h2
     cases h2
theorem zet {ps : List Nat} (T : zaL ps) {rows : List (List Int)} (R : zbx rows) {k : Nat} (hk : k < ps.length + 1) : ∀ e ∈ zar ps rows k, Of ps rows k e := (ze7 T R _ k (Nat.le_refl _) hk).1
theorem zeb {ps : List Nat} (T : zaL ps) {rows : List (List Int)} (R : zbx rows) {k : Nat} (hk : k < ps.length + 1) : (zar ps rows k).Nodup := by
 rw [zcX T hk]
 exact (zct _).nodup_iff.mpr (ze7 T R _ k (Nat.le_refl _) hk).2
theorem zdQ {ps : List Nat} (T : zaL ps) {rows : List (List Int)} (R : zbx rows) {k : Nat} (hk : k < ps.length + 1) : Rise (zar ps rows k) := by
 rw [zcX T hk]
 exact zeD (ze7 T R _ k (Nat.le_refl _) hk).2
theorem zfk {ps : List Nat} (T : zaL ps) {rows : List (List Int)} (R : zbx rows) (hz : ps.length ≤ 40) {k : Nat} (hk : k < ps.length + 1) : ∀ e ∈ zar ps rows k, zeQ 64 e := fun e he => by
 obtain ⟨j, h1, h2, h3, h4⟩ := zet T R hk e he
 have := R.at_key j _ h4
 exact ⟨this.1, this.2, by omega, by omega⟩
def wtR (ps : List Nat) (rows : List (List Int)) (k : Nat) : Nat := ((benL ps k (ps.length + 1)).map fun j => (zcp rows j).length).sum
def wtF (ps : List Nat) (rows : List (List Int)) (k : Nat) : Nat := ((benL ps k (ps.length + 1)).map fun j => (zar ps rows j).length).sum
theorem sum_perm {l m : List Nat} (h : l.Perm m) : l.sum = m.sum := by
 induction h with
 | nil => rfl
 | cons x _ ih => rw [List.sum_cons, List.sum_cons, ih]
 | swap x y l => rw [List.sum_cons, List.sum_cons, List.sum_cons, List.sum_cons]; omega
 | trans _ _ h1 h2 => rw [h1, h2]
theorem zh9 (f : Nat → Nat) : ∀ (ls : List (List Nat)), (ls.flatten.map f).sum = (ls.map fun l => (l.map f).sum).sum
 | [] => rfl
 | l :: ls => by
  rw [List.flatten_cons, List.map_append, List.sum_append, zh9 f ls, List.map_cons, List.sum_cons]
theorem zjo {ps : List Nat} (T : zaL ps) (f : Nat → Nat) {k : Nat} (hk : k < ps.length + 1) : ((benL ps k (ps.length + 1)).map f).sum = f k + ((zaM ps k (ps.length + 1)).map fun c => ((benL ps c (ps.length + 1)).map f).sum).sum := by
 have h := sum_perm ((zi5 T hk).map f)
 rw [List.map_cons, List.sum_cons, zh9, List.map_map] at h
 exact h.symm
theorem sum_le {f g : Nat → Nat} : ∀ {l : List Nat}, (∀ x ∈ l, f x ≤ g x) → (l.map f).sum ≤ (l.map g).sum
 | [], _ => Nat.le_refl _
 | x :: l, h => by
  rw [List.map_cons, List.sum_cons, List.map_cons, List.sum_cons]
  have h1 := h x List.mem_cons_self
  have h2 := sum_le (f := f) (g := g) (l := l) fun y hy => h y (List.mem_cons_of_mem _ hy)
  omega
theorem ziB {α : Type} : ∀ (ls : List (List α)), ls.flatten.length = (ls.map List.length).sum
 | [] => rfl
 | l :: ls => by
  rw [List.flatten_cons, List.length_append, ziB ls, List.map_cons, List.sum_cons]
theorem fullL_len {ps : List Nat} (T : zaL ps) {rows : List (List Int)} {k : Nat} (hk : k < ps.length + 1) : (zar ps rows k).length = (zcp rows k).length + ((zaM ps k (ps.length + 1)).map fun c => (zea (zar ps rows c)).length).sum := by
 rw [zcX T hk, zcV]
 unfold zdY
 rw [List.flatten_append, List.length_append, List.flatten_singleton, ziB, List.map_map]
 unfold ownE
 rw [List.length_map, Nat.add_comm]
 rfl
theorem zfV {ps : List Nat} (T : zaL ps) {rows : List (List Int)} : ∀ (m k : Nat), ps.length + 1 - k ≤ m → k < ps.length + 1 → (zar ps rows k).length ≤ wtR ps rows k
 | 0, k, hm, hk => by omega
 | m + 1, k, hm, hk => by
  unfold wtR
  rw [fullL_len T hk, zjo T _ hk]
  refine Nat.add_le_add_left (sum_le fun c hc => ?_) _
  have h := zaC.mp hc
  have := za6 T h.2
  exact Nat.le_trans (zbo _).length_le (zfV T m c (by omega) h.1)
theorem zfJ (f : Nat → Nat) (P : Nat → Bool) : ∀ (l : List Nat), ((l.filter P).map f).sum ≤ (l.map f).sum
 | [] => Nat.le_refl _
 | x :: l => by
  have ih := zfJ f P l
  rw [List.map_cons, List.sum_cons]
  by_cases h : P x = true
  ·rw [List.filter_cons_of_pos h, List.map_cons, List.sum_cons]
   omega
  ·rw [List.filter_cons_of_neg h]
   omega
def zd9 (rows : List (List Int)) : Nat := (rows.map List.length).sum
theorem zjF (rows : List (List Int)) : ((List.range rows.length).map fun j => (zcp rows j).length).sum = zd9 rows := by
 unfold zd9
 congr 1
 apply List.ext_getElem?
 intro i
 rw [List.getElem?_map, List.getElem?_map]
 by_cases h : i < rows.length
 ·rw [List.getElem?_range h, List.getElem?_eq_getElem h]
  show some (zcp rows i).length = some rows[i].length
  unfold zcp
  rw [List.getD_eq_getElem?_getD, List.getElem?_eq_getElem h]
  rfl
 ·rw [List.getElem?_eq_none (by rw [List.length_range]; omega), List.getElem?_eq_none (by omega)]
  rfl
theorem wtR_le {ps : List Nat} {rows : List (List Int)} (hl : rows.length = ps.length + 1) (k : Nat) : wtR ps rows k ≤ zd9 rows := by
 unfold wtR benL
 refine Nat.le_trans (zfJ _ _ _) ?_
 rw [← hl, zjF]
 exact Nat.le_refl _
theorem zdp {ps : List Nat} (T : zaL ps) {rows : List (List Int)} (hl : rows.length = ps.length + 1) {k : Nat} (hk : k < ps.length + 1) : (zar ps rows k).length ≤ zd9 rows := Nat.le_trans (zfV T _ k (Nat.le_refl _) hk) (wtR_le hl k)
def za2 (H : Hp) (as : List Addr) (rows : List (List Int)) : Prop := Paired (fun a row => H a = some (.tup (row.map V.int))) as rows
theorem za2.ext {H H' : Hp} (e : ∀ b o, H b = some o → H' b = some o) : ∀ {as : List Addr} {rows : List (List Int)}, za2 H as rows → za2 H' as rows
 | _, _, .nil => .nil
 | _, _, .cons h t => .cons (e _ _ h) (za2.ext e t)
theorem za2.keep {d p : Addr} {H H' : Hp} (hd : ∀ a row, H a = some (.tup row) → a ≠ d) (e : ∀ b o, b ≠ d → H b = some o → H' b = some o) : ∀ {as : List Addr} {rows : List (List Int)}, za2 H as rows → za2 H' as rows
 | _, _, .nil => .nil
 | _, _, .cons h t => .cons (e _ _ (hd _ _ h) h) (za2.keep (p := p) hd e t)
theorem za2.length {H : Hp} {as : List Addr} {rows : List (List Int)} (h : za2 H as rows) : as.length = rows.length := Paired.length h
theorem za2.get {H : Hp} : ∀ {as : List Addr} {rows : List (List Int)} {k : Nat}, za2 H as rows → k < rows.length → ∃ a, as[k]? = some a ∧ H a = some (.tup ((zcp rows k).map V.int))
 | _, _, _, .nil, hk => by simp at hk
 | a :: as, row :: rows, 0, .cons h t, _ => ⟨a, rfl, h⟩
 | a :: as, row :: rows, k + 1, .cons h t, hk => by
  obtain ⟨b, h1, h2⟩ := za2.get (k := k) t (by simpa using hk)
  refine ⟨b, by rw [List.getElem?_cons_succ]; exact h1, ?_⟩
  have : zcp (row :: rows) (k + 1) = zcp rows k := by
   unfold zcp
   rw [List.getD_eq_getElem?_getD, List.getD_eq_getElem?_getD, List.getElem?_cons_succ]
  rw [this]
  exact h2
theorem za2.snoc {H : Hp} {a : Addr} {row : List Int} : ∀ {as : List Addr} {rows : List (List Int)}, za2 H as rows → H a = some (.tup (row.map V.int)) → za2 H (as ++ [a]) (rows ++ [row])
 | _, _, .nil, h => .cons h .nil
 | _, _, .cons h t, h2 => .cons h (za2.snoc t h2)
structure zbZ (H : Hp) (st : Addr) (ps : List Nat) (rows : List (List Int)) (t rs : Addr) (as : List Addr) : Prop where
 st : H st = some (.tup [.ref t, .ref rs])
 tr : H t = some (.tup (zch ps))
 rs : H rs = some (.tup (as.map V.ref))
 at_ : za2 H as rows
 len : rows.length = ps.length + 1
 T : zaL ps
 R : zbx rows
 few : ps.length ≤ 40
 keys : zd9 rows ≤ 400
theorem zbZ.same {H H' : Hp} {st t rs : Addr} {ps : List Nat} {rows : List (List Int)} {as : List Addr} (S : zbZ H st ps rows t rs as) (e : Same H H') : zbZ H' st ps rows t rs as :=
 ⟨e _ _ S.st, e _ _ S.tr, e _ _ S.rs, S.at_.ext e, S.len, S.T, S.R, S.few, S.keys⟩
theorem zcY {as : List Addr} {k : Nat} {a : Addr} (h : as[k]? = some a) : atI (as.map V.ref) (k : Int) = some (.ref a) := zed (by rw [List.getElem?_map, h]; rfl)
theorem zgU {α : Type} {l : List α} (h : l.Nodup) : l.reverse.Nodup := (List.reverse_perm l).nodup_iff.mpr h
def zfy (K : PySem.W.Frag) (H : Hp) (ps : List Nat) (rows : List (List Int)) (j : Nat) (q : Addr) : Prop := ∃ ws, H q = some (.lst ws) ∧ zaj K H (zar ps rows j) ws
def zaA (K : PySem.W.Frag) (H : Hp) (ps : List Nat) (rows : List (List Int)) : List Nat → List Addr → Prop := Paired (zfy K H ps rows)
theorem zfy.same {K : PySem.W.Frag} {H H' : Hp} {ps : List Nat} {rows : List (List Int)} {j : Nat} {q : Addr} (h : zfy K H ps rows j q) (e : Same H H') : zfy K H' ps rows j q := by
 obtain ⟨ws, h1, h2⟩ := h
 exact ⟨ws, e _ _ h1, h2.mono e.ext⟩
theorem zaA.same {K : PySem.W.Frag} {H H' : Hp} {ps : List Nat} {rows : List (List Int)} (e : Same H H') : ∀ {js : List Nat} {qs : List Addr}, zaA K H ps rows js qs → zaA K H' ps rows js qs
 | _, _, .nil => .nil
 | _, _, .cons h t => .cons (zfy.same h e) (zaA.same e t)
theorem zaA.ext {K : PySem.W.Frag} {H H' : Hp} {ps : List Nat} {rows : List (List Int)} (e : Ext H H') : ∀ {js : List Nat} {qs : List Addr}, zaA K H ps rows js qs → zaA K H' ps rows js qs
 | _, _, .nil => .nil
 | _, _, .cons h t => by
  obtain ⟨ws, a1, a2⟩ := h
  exact .cons ⟨ws, e _ _ a1 (fun _ z => nomatch z), a2.mono e⟩ (zaA.ext e t)
theorem zaA.length {K : PySem.W.Frag} {H : Hp} {ps : List Nat} {rows : List (List Int)} {js : List Nat} {qs : List Addr} (h : zaA K H ps rows js qs) : js.length = qs.length := Paired.length h
theorem zaA.snoc {K : PySem.W.Frag} {H : Hp} {ps : List Nat} {rows : List (List Int)} {j : Nat} {q : Addr} : ∀ {js : List Nat} {qs : List Addr}, zaA K H ps rows js qs → zfy K H ps rows j q → zaA K H ps rows (js ++ [j]) (qs ++ [q])
 | _, _, .nil, h => .cons h .nil
 | _, _, .cons h t, h2 => .cons h (zaA.snoc t h2)
theorem zaA.get {K : PySem.W.Frag} {H : Hp} {ps : List Nat} {rows : List (List Int)} : ∀ {js : List Nat} {qs : List Addr} {i j : Nat}, zaA K H ps rows js qs → js[i]? = some j → ∃ q, qs[i]? = some q ∧ zfy K H ps rows j q
 | _, _, i, j, .nil, h => by simp at h
 | _ :: _, q :: _, 0, j, .cons h t, e => by
  have := Option.some.inj (show some _ = some j from e)
  subst this
  exact ⟨q, rfl, h⟩
 | _ :: _, _ :: _, i + 1, j, .cons h t, e => by
  obtain ⟨q, h1, h2⟩ := zaA.get (i := i) t (by simpa using e)
  exact ⟨q, by simpa using h1, h2⟩
theorem zaA.rev {K : PySem.W.Frag} {H : Hp} {ps : List Nat} {rows : List (List Int)} : ∀ {js : List Nat} {qs : List Addr}, zaA K H ps rows js qs → zaA K H ps rows js.reverse qs.reverse
 | _, _, .nil => .nil
 | j :: js, q :: qs, .cons h t => by
  rw [List.reverse_cons, List.reverse_cons]
  exact zaA.snoc (zaA.rev t) h
theorem zaA.alloc {K : PySem.W.Frag} {H : Hp} {ps : List Nat} {rows : List (List Int)} : ∀ {js : List Nat} {qs : List Addr}, zaA K H ps rows js qs → ∀ q ∈ qs, ∃ ws, H q = some (.lst ws)
 | _, _, .nil => fun q hq => nomatch hq
 | _ :: _, _ :: _, .cons h t => fun q hq => by
  rcases List.mem_cons.mp hq with e | e
  ·obtain ⟨ws, h1, _⟩ := h
   exact ⟨ws, e ▸ h1⟩
  ·exact zaA.alloc t q e
abbrev kN (j : Nat) : Key := Sum.inl (j : Int)
def zdB : List Nat → List Addr → List (Key × V)
 | j :: js, q :: qs => (kN j, .ref q) :: zdB js qs
 | _, _ => []
theorem ziD {j : Nat} : ∀ {js : List Nat} {qs : List Addr}, j ∉ js → valV (zdB js qs) (kN j) = none
 | [], _, _ => rfl
 | _ :: _, [], _ => rfl
 | i :: js, q :: qs, h => by
  have h1 : ¬ kN i = kN j := fun z => h (by
   have := Int.ofNat.inj (Sum.inl.inj z)
   rw [this]
   exact List.mem_cons_self)
  show valV ((kN i, V.ref q) :: zdB js qs) (kN j) = none
  rw [zbp h1]
  exact ziD fun z => h (List.mem_cons_of_mem _ z)
theorem zhE {j : Nat} {q : Addr} : ∀ {js : List Nat} {qs : List Addr} {i : Nat}, js.Nodup → js[i]? = some j → qs[i]? = some q → valV (zdB js qs) (kN j) = some (.ref q)
 | [], _, _, _, h, _ => by simp at h
 | _ :: _, [], _, _, _, h => by simp at h
 | a :: js, b :: qs, 0, _, h1, h2 => by
  have := Option.some.inj (show some a = some j from h1)
  subst this
  have := Option.some.inj (show some b = some q from h2)
  subst this
  exact zcg (p := (kN a, V.ref b)) rfl
 | a :: js, b :: qs, i + 1, hn, h1, h2 => by
  have g1 : js[i]? = some j := by simpa using h1
  have hne : ¬ kN a = kN j := fun z => by
   have e := Int.ofNat.inj (Sum.inl.inj z)
   exact (List.nodup_cons.mp hn).1 (e ▸ List.mem_of_getElem? g1)
  show valV ((kN a, V.ref b) :: zdB js qs) (kN j) = _
  rw [zbp hne]
  exact zhE (List.nodup_cons.mp hn).2 g1 (by simpa using h2)
theorem ziC {j : Nat} {q : Addr} : ∀ {js : List Nat} {qs : List Addr}, js.length = qs.length → zdB (js ++ [j]) (qs ++ [q]) = zdB js qs ++ [(kN j, .ref q)]
 | [], [], _ => rfl
 | [], _ :: _, h => by cases h
 | _ :: _, [], h => by cases h
 | a :: js, b :: qs, h => by
  show (kN a, V.ref b) :: zdB (js ++ [j]) (qs ++ [q]) = (kN a, V.ref b) :: (zdB js qs ++ [(kN j, V.ref q)])
  rw [ziC (Nat.succ.inj h)]
theorem kvs_put {j : Nat} {q : Addr} {js : List Nat} {qs : List Addr} (hl : js.length = qs.length) (h : j ∉ js) : putK (zdB js qs) (kN j) (.ref q) = zdB (js ++ [j]) (qs ++ [q]) := by
 rw [zdK _ (ziD h), ziC hl]
theorem kvs_len : ∀ {js : List Nat} {qs : List Addr}, js.length = qs.length → (zdB js qs).length = js.length
 | [], [], _ => rfl
 | [], _ :: _, h => by cases h
 | _ :: _, [], h => by cases h
 | a :: js, b :: qs, h => by
  show (zdB js qs).length + 1 = js.length + 1
  rw [kvs_len (Nat.succ.inj h)]
theorem ahead_of {l : List Nat} (h : l.Pairwise (· > ·)) {i j c : Nat} (hj : l[i]? = some j) (hc : c ∈ l) (hcj : j < c) : c ∈ l.take i := by
 obtain ⟨u, hu, rfl⟩ := List.getElem_of_mem hc
 obtain ⟨hi, rfl⟩ := List.getElem?_eq_some_iff.mp hj
 have : u < i := by
  refine Nat.lt_of_not_le fun z => ?_
  by_cases e : i = u
  ·subst e
   omega
  ·have := List.pairwise_iff_getElem.mp h i u hi hu (by omega)
   omega
 rw [List.mem_iff_getElem?]
 exact ⟨u, by rw [List.getElem?_take, if_pos this, List.getElem?_eq_getElem hu]⟩
theorem isB_down {ps : List Nat} (T : zaL ps) {k j c : Nat} (h : isB ps k j = true) (hc : par ps c = some j) : isB ps k c = true := by
 by_cases e : c = k
 ·rw [e]
  exact zdo
 ·rw [zb6 T e hc]
  exact h
def spOwn (K : PySem.W.Frag) : Sp := fun vs H Q _ => ∃ (st : Addr) (ps : List Nat) (rows : List (List Int)) (t rs : Addr) (as : List Addr) (j : Nat), vs = [.ref st, .int j] ∧ zbZ H st ps rows t rs as ∧ j < ps.length + 1 ∧
 ∀ (D : Addr) (us : List V) (H' : Hp), H D = none → Same H H' → H' D = some (.lst us) → zaj K H' (ownE rows j) us → Q (.ref D) H'
theorem ok_own (T : Txt K mg) (D_own_entries : DF K mg "own_entries" zaQ zbj) : FC P w K mg base 1 "own_entries" zbj (spOwn K) := by
 refine D_own_entries.ok sc_own_entries (fun vs H Q E h => ?_) (fun f cdv A outer s H vs Q E hr h => ?_)
 ·obtain ⟨st, ps, rows, t, rs, as, k, rfl, _⟩ := h
  rfl
 obtain ⟨st, ps, rows, t, rs, as, j, rfl, S4, hjn, q⟩ := h
 refine ⟨_, (zai (zaz (zdh (N := ["key", "knot"]) (own := 1) (cap := [1]) rfl (zfd (zaK zbm (zaK zbm (pv 0) zaf (fun _ _ => rfl)) (pv 1) (fun _ _ => rfl))) ⟨rfl, rfl, rfl, rfl, rfl, rfl⟩ (fun _ _ _ _ _ => (zal (i := 0) (show List.Nodup (["key", "knot"] : List Str) by decide +kernel) rfl (Or.inl rfl))) (fun _ _ _ _ _ => zcM) (fun _ _ _ _ _ => (zca (zaa (pv 0) (zaa (pv 1) zad))))))), ?_⟩
 obtain ⟨a, ha1, ha4⟩ := S4.at_.get (k := j) (by rw [S4.len]; exact hjn)
 have hkeys := S4.keys
 refine ⟨_, rfl, _, _, _, _, rfl, rfl, SqT.of S4.st, rfl, _, rfl, _, _, _, _, rfl, rfl, SqT.of S4.rs, zcY ha1, a, rfl, ⟨_, SqT.of ha4⟩, fun D3 hD3 => ?_⟩
 refine zgA (xs := (zcp rows j).map V.int) (fun m σ H5 => ∃ (us : List V) (x0 : Option V), σ = [x0, some (.int j)] ∧ H5 D3 = some (.lst us) ∧ zaj K H5 ((ownE rows j).take m) us ∧ But D3 H H5) ?_ ?_ ?_ ?_
 ·exact ⟨[], _, rfl, zac, .nil, fun b o n e => by rw [zag n]; exact e⟩
 ·rintro m σ H5 _ ⟨us, x0, rfl, _, _, k5⟩
  exact SqT.of (k5 _ _ (zab ha4 hD3) ha4)
 ·rintro m r x σ H5 hx hm ⟨us, x0, rfl, h5, hw5, k5⟩
  rw [List.getElem?_map] at hx
  obtain ⟨y, hy, rfl⟩ := Option.map_eq_some_iff.mp hx
  have hlow := (List.getElem?_eq_some_iff.mp hy).1
  have htk3 : (ownE rows j).take (m + 1) = (ownE rows j).take m ++ [(y, (j : Int))] := by
   unfold ownE
   rw [← List.map_take, ← List.map_take, List.take_succ_eq_append_getElem hlow, List.map_append]
   rw [(List.getElem?_eq_some_iff.mp hy).2]
   rfl
  have hul := hw5.length
  rw [List.length_take] at hul
  rw [List.length_map] at hm
  have hrl : (zcp rows j).length ≤ zd9 rows := by
   have := wtR_le S4.len (k := j) (ps := ps)
   have e2 : wtR ps rows j = (zcp rows j).length + _ := zjo S4.T _ hjn
   omega
  refine zdC ?_
  refine ⟨_, rfl, _, rfl, (by show 2 ≤ sizeLine; decide), fun u hu => ?_⟩
  have su := zak hu (.tup [.int y, .int (j : Int)])
  have h6 := su _ _ h5
  have hut : upd H5 u (.tup [.int y, .int (j : Int)]) u = some (.tup [.int y, .int (j : Int)]) := zac
  have k6 := k5.new' hu (.tup [.int y, .int (j : Int)])
  have hw6 := hw5.mono su.ext
  generalize upd H5 u (.tup [.int y, .int (j : Int)]) = H6 at su h6 hut k6 hw6 ⊢
  refine ⟨_, h6, zam (by omega), r - 1, by omega, by rw [List.length_map]; omega, us ++ [.ref u], _, rfl, zac, ?_, fun b o n e => by rw [zag n]; exact k6 b o n e⟩
  rw [htk3]
  exact (zaO h6 hw6).append (zaO h6 (.cons ⟨u, .int y, .int (j : Int), rfl, hut, rfl, rfl⟩ .nil))
 ·rintro σ H5 ⟨us, x0, rfl, h5, hw5, k5⟩
  rw [List.length_map, List.take_of_length_le (by unfold ownE; rw [List.length_map]; exact Nat.le_refl _)] at hw5
  exact q D3 us H5 hD3 (fun x o e => k5 x o (zab e hD3) e) h5 hw5
def spFRB (K : PySem.W.Frag) : Sp := fun vs H Q _ => ∃ (st : Addr) (ps : List Nat) (rows : List (List Int)) (t rs : Addr) (as : List Addr) (k : Nat), vs = [.ref st, .int k] ∧ zbZ H st ps rows t rs as ∧ k < ps.length + 1 ∧
 ∀ (D : Addr) (qs : List Addr) (H' : Hp), H D = none → Same H H' → H' D = some (.dK (zdB (benL ps k (ps.length + 1)).reverse qs)) → qs.Nodup → (∀ q ∈ qs, H q = none) → zaA K H' ps rows (benL ps k (ps.length + 1)).reverse qs → Q (.ref D) H'
theorem ok_frb (T : Txt K mg) (D_full_rows_beneath : DF K mg "full_rows_beneath" zay zaJ) (F_beneath : FC P w K mg base 1 "beneath" zcD (zgK K)) (F_children : FC P w K mg base 1 "children" zbE (zc1 K)) (F_handed : FC P w K mg base 6 "handed" zc6 (zif K)) (F_own_entries : FC P w K mg base 1 "own_entries" zbj (spOwn K)) (F_joined_up : FC P w K mg base 1 "joined_up" zbJ (spJoin K)) : FC P w K mg base 7 "full_rows_beneath" zaJ (spFRB K) := by
 refine D_full_rows_beneath.ok sc_full_rows_beneath (fun vs H Q E h => ?_) (fun f cdv A outer s H vs Q E hr h => ?_)
 ·obtain ⟨st, ps, rows, t, rs, as, k, rfl, _⟩ := h
  rfl
 obtain ⟨st, ps, rows, t, rs, as, k, rfl, S, hk, q⟩ := h
 refine ⟨_, (zae (zaw (i := 2) sc_full_rows_beneath.nd rfl (Or.inl rfl) (zaK zbm (pv 0) zaf (fun _ _ => rfl)))
   (zae (zaw (i := 3) sc_full_rows_beneath.nd rfl (Or.inr rfl) zio)
   (zae (zaN PassesOwn.never rfl (zhu rfl T.m_reversed (zaa (zaG F_beneath hr (zaa (pv 2) (zaa (pv 1) zad))) zad)) (zal (i := 4) sc_full_rows_beneath.nd rfl (Or.inl rfl)) (zae (zd1 (i := 5) (N := ["child", "told"]) (own := 1) (cap := [3]) sc_full_rows_beneath.nd rfl rfl rfl (zbg (zaG F_children hr (zaa (pv 2) (zaa (pv 4) zad)))) ⟨rfl, rfl, rfl, rfl, rfl, rfl⟩ (fun _ _ _ _ _ => (zal (i := 0) (show List.Nodup (["child", "told"] : List Str) by decide +kernel) rfl (Or.inl rfl))) (fun _ _ _ _ _ => zcM) (fun _ _ _ _ _ => (zaG F_handed hr (zaa (zd4 (zdW hr) (pv 1) (pv 0) (fun _ _ => rfl)) zad))))
   (zae (za3 (zc7 F.plainAttrs_list F.slot_list_append F.type_list_append zaD (pv 5) (zaa (zaG F_own_entries hr (zaa (pv 0) (zaa (pv 4) zad))) zad)))
   (zai (zd2 (zdW hr) (pv 3) (pv 4) (zaG F_joined_up hr (zaa (pv 5) zad)) rfl)))))
   (zai (zaz (pv 3)))))), ?_⟩
 refine ⟨_, rfl, _, _, _, _, rfl, rfl, SqT.of S.st, rfl, fun D hD => ?_⟩
 have s0 := zak hD (.dK [])
 have hD0 : upd H D (.dK []) D = some (.dK []) := zac
 generalize upd H D (.dK []) = H0 at s0 hD0 ⊢
 refine ⟨_, rfl, _, rfl, t, ps, k, rfl, s0 _ _ S.tr, S.T, hk, by have := S.few; omega, fun b H1 hb s1 h1 => ?_⟩
 refine ⟨b, _, rfl, SqL.of h1, ?_⟩
 have hup := zhY ps k (ps.length + 1)
 have hmem := fun j => zcs (ps := ps) (k := k) (n := ps.length + 1) (j := j)
 have hbl := ziT ps k (ps.length + 1)
 generalize benL ps k (ps.length + 1) = bs at h1 q hup hmem hbl ⊢
 have hdn : bs.reverse.Pairwise (· > ·) := by
  rw [List.pairwise_reverse]
  exact hup
 have hnd : bs.reverse.Nodup := List.Pairwise.imp (fun {a b} (q : a > b) => Nat.ne_of_gt q) hdn
 refine for_rev (xs := bs.map nV) (fun i σ H2 => ∃ (qs : List Addr) (x5 x6 : Option V), σ = [some (.ref st), some (.int k), some (.ref t), some (.ref D), x5, x6] ∧ H2 D = some (.dK (zdB (bs.reverse.take i) qs)) ∧ qs.Nodup ∧ (∀ q ∈ qs, H q = none) ∧ zaA K H2 ps rows (bs.reverse.take i) qs ∧ H2 b = some (.lst (bs.map nV)) ∧ But D H H2) ?_ ?_ ?_ ?_
 ·exact ⟨[], _, _, rfl, s1 _ _ hD0, List.nodup_nil, (fun q hq => nomatch hq), .nil, h1, fun x o _ e => s1 _ _ (s0 _ _ e)⟩
 ·rintro i σ H2 _ ⟨qs, x5, x6, rfl, _, _, _, _, h2b, _⟩
  exact SqL.of h2b
 ·rintro i x σ H2 hx ⟨qs, x5, x6, rfl, h2, hqn, hqf, hF, h2b, k2⟩
  rw [← List.map_reverse] at hx
  obtain ⟨hi, hxe⟩ := zfU hx
  have hji : bs.reverse[i]? = some (bs.reverse.getD i 0) := by
   rw [List.getD_eq_getElem?_getD, List.getElem?_eq_getElem hi]
   rfl
  subst hxe
  have htk : bs.reverse.take (i + 1) = bs.reverse.take i ++ [bs.reverse.getD i 0] := by
   rw [List.take_succ_eq_append_getElem hi, List.getD_eq_getElem?_getD, List.getElem?_eq_getElem hi]
   rfl
  rw [htk]
  generalize bs.reverse.getD i 0 = j at hji htk ⊢
  have hjm : j ∈ bs := List.mem_reverse.mp (List.mem_of_getElem? hji)
  obtain ⟨hjn, hjB⟩ := (hmem j).mp hjm
  have hjnot : j ∉ bs.reverse.take i := fun z => by
   have hnd' := hnd
   rw [← List.take_append_drop (i + 1) bs.reverse, htk] at hnd'
   have := (List.nodup_append.mp hnd').1
   exact (List.nodup_append.mp this).2.2 j z j (List.mem_singleton.mpr rfl) rfl
  have noD : ∀ {p : Addr} {o : HO}, H p = some o → p ≠ D := fun {p o} e => zab e hD
  have S2 : zbZ H2 st ps rows t rs as := ⟨k2 _ _ (noD S.st) S.st, k2 _ _ (noD S.tr) S.tr, k2 _ _ (noD S.rs) S.rs, za2.keep (p := D) (d := D) (fun a row e => noD e) k2 S.at_, S.len, S.T, S.R, S.few, S.keys⟩
  have hkeys := S.keys
  have hfew := S.few
  refine ⟨_, rfl, _, rfl, t, ps, j, rfl, S2.tr, by omega, fun c H3 hc s3 h3 => ?_⟩
  refine ⟨c, rfl, ⟨_, SqL.of h3⟩, fun D2 hD2 => ?_⟩
  have hcmem := fun m => zaC (ps := ps) (k := j) (n := ps.length + 1) (j := m)
  have hcl := zcH ps j (ps.length + 1)
  have hparts : zdY ps rows j = ((zaM ps j (ps.length + 1)).map fun c => zea (zar ps rows c)) ++ [ownE rows j] := rfl
  generalize zaM ps j (ps.length + 1) = cs at h3 hcmem hcl hparts ⊢
  have h3D := s3 _ _ h2
  have nDD2 : D ≠ D2 := zab h3D hD2
  have F3 : zaA K H3 ps rows (bs.reverse.take i) qs := hF.same s3
  refine zcS (xs := cs.map nV) (fun m σ H4 => ∃ (gs : List Addr) (x0 : Option V), σ = [x0, some (.ref D)] ∧ H4 D2 = some (.lst (gs.map V.ref)) ∧ Own K H4 gs ((cs.take m).map fun c => zea (zar ps rows c)) ∧ D2 ∉ gs ∧ But D2 H3 H4) ?_ ?_ ?_ ?_
  ·exact ⟨[], _, rfl, zac, .nil, (fun z => nomatch z), fun b o n e => by rw [zag n]; exact e⟩
  ·rintro m σ H4 _ ⟨gs, x0, rfl, _, _, _, k4⟩
   exact k4.sq (SqL.of h3) hD2
  ·rintro m r x σ H4 hx hm ⟨gs, x0, rfl, h4, hO, hg, k4⟩
   obtain ⟨hmi, rfl⟩ := zfU hx
   have hcm : cs[m]? = some (cs.getD m 0) := by
    rw [List.getD_eq_getElem?_getD, List.getElem?_eq_getElem hmi]
    rfl
   have htk2 : cs.take (m + 1) = cs.take m ++ [cs.getD m 0] := by
    rw [List.take_succ_eq_append_getElem hmi, List.getD_eq_getElem?_getD, List.getElem?_eq_getElem hmi]
    rfl
   rw [htk2]
   generalize cs.getD m 0 = ch at hcm ⊢
   obtain ⟨hchn, hchp⟩ := (hcmem ch).mp (List.mem_of_getElem? hcm)
   have hlt := (za6 S.T hchp).1
   have hin : ch ∈ bs.reverse.take i := ahead_of hdn hji (List.mem_reverse.mpr ((hmem ch).mpr ⟨hchn, isB_down S.T hjB hchp⟩)) hlt
   obtain ⟨u, hu, hue⟩ := List.getElem_of_mem hin
   have hu2 : (bs.reverse.take i)[u]? = some ch := by rw [List.getElem?_eq_getElem hu, hue]
   obtain ⟨qq, hq1, ws, hq2, hq3⟩ := F3.get hu2
   have hnd2 : (bs.reverse.take i).Nodup := hnd.sublist (List.take_sublist _ _)
   have hv := zhE hnd2 hu2 hq1
   have k4D := k4 _ _ nDD2 h3D
   have hq4 := k4 _ _ (zab hq2 hD2) hq2
   have hq5 : zaj K H4 (zar ps rows ch) ws := by
    have key : ∀ {es : List (Int × Int)} {vs : List V}, zaj K H3 es vs → zaj K H4 es vs := by
     intro es vs hh
     induction hh with
     | nil => exact .nil
     | cons a _ ih =>
      obtain ⟨b, x1, x2, rfl, q, e1, e2⟩ := (show hasP K H3 _ _ from a)
      exact .cons ⟨b, x1, x2, rfl, k4 _ _ (zab q hD2) q, e1, e2⟩ ih
    exact key hq3
   have hlen := zdp S.T S.len (rows := rows) hchn
   refine zdC ?_
   have hdg : DGet H4 D (.int (ch : Int)) (some (.ref qq)) := by
    rw [← hv]
    exact DGet.k (k := kN ch) k4D
   refine ⟨_, rfl, _, rfl, D, _, rfl, hdg, ?_⟩
   refine ⟨qq, ws, zar ps rows ch, rfl, hq4, hq5, by omega, zfk S.T S.R hfew hchn, zdQ S.T S.R hchn, fun g H5 hg5 s5 h5 => ?_⟩
   have hgl := hO.length
   rw [List.length_map, List.length_take] at hgl
   have h5D2 := s5 _ _ h4
   have ngD2 : D2 ≠ g := zab h4 hg5
   rw [List.length_map] at hm
   refine ⟨_, h5D2, zam (by rw [List.length_map]; omega), r - 1, by omega, by rw [List.length_map]; omega, gs ++ [g], _, rfl, ?_, ?_, ?_, fun x o n e => by rw [zag n]; exact s5 _ _ (k4 x o n e)⟩
   ·rw [zac, List.map_append]
    rfl
   ·rw [List.map_append]
    refine Own.other h5D2 (Own.append (hO.ext s5.ext) (.cons ⟨_, h5, ?_⟩ .nil)) ?_
    ·exact ziN (hq5.mono s5.ext)
    ·intro z
     rcases List.mem_append.mp z with z | z
     ·exact hg z
     ·exact ngD2 (List.mem_singleton.mp z)
   ·intro z
    rcases List.mem_append.mp z with z | z
    ·exact hg z
    ·exact ngD2 (List.mem_singleton.mp z)
  ·rintro σ H4 ⟨gs, x0, rfl, h4, hO, hg, k4⟩
   rw [List.length_map, List.take_of_length_le (Nat.le_refl _)] at hO
   have hgl := hO.length
   rw [List.length_map] at hgl
   have s34 : Same H3 H4 := fun x o e => k4 x o (zab e hD2) e
   have s24 : Same H2 H4 := s3.trans s34
   have S4 := S2.same s24
   refine ⟨_, rfl, .inl ⟨rfl, _, SqL.of h4⟩, _, rfl, _, rfl, st, ps, rows, t, rs, as, j, rfl, S4, hjn, fun D3 us H5 hD3 s45 h5 hw5 => ?_⟩
   have h5D2 := s45 _ _ h4
   have n23 : D2 ≠ D3 := zab h4 hD3
   refine ⟨_, _, _, rfl, rfl, h5D2, zam (by rw [List.length_map]; omega), ?_⟩
   have O5 : Own K H5 (gs ++ [D3]) (zdY ps rows j) := by
    rw [hparts]
    exact Own.append (hO.ext s45.ext) (.cons ⟨us, h5, hw5⟩ .nil)
   have nin : D2 ∉ gs ++ [D3] := fun z => by
    rcases List.mem_append.mp z with z | z
    ·exact hg z
    ·exact n23 (List.mem_singleton.mp z)
   have O6 := O5.other (o := .lst (gs.map V.ref ++ [.ref D3])) h5D2 nin
   have h6 : upd H5 D2 (.lst (gs.map V.ref ++ [.ref D3])) D2 = some (.lst ((gs ++ [D3]).map V.ref)) := by
    rw [zac, List.map_append]
    rfl
   have k26 : ∀ x o, H2 x = some o → upd H5 D2 (.lst (gs.map V.ref ++ [.ref D3])) x = some o := fun x o e => by
    rw [zag (zab (s3 _ _ e) hD2)]
    exact s45 _ _ (s24 _ _ e)
   generalize upd H5 D2 (.lst (gs.map V.ref ++ [.ref D3])) = H6 at O6 h6 k26 ⊢
   have hfl : (zdY ps rows j).flatten.length ≤ 1000 := by
    have := zdp S.T S.len (rows := rows) hjn
    rw [zcX S.T hjn, zcV] at this
    omega
   refine ⟨_, rfl, D2, gs ++ [D3], zdY ps rows j, rfl, h6, O6, hfl, fun p ws H7 hp s7 h7 hw7 => ?_⟩
   rw [← zcX S.T hjn] at hw7
   have s27 : Same H2 H7 := fun x o e => s7 _ _ (k26 x o e)
   have h7D := s27 _ _ h2
   have hql := hF.length
   have hpD : p ≠ D := Ne.symm (zab (k26 _ _ h2) hp)
   refine ⟨_, rfl, _, rfl, D, _, rfl, DPut.k (k := kN j) h7D (zam (by rw [kvs_len hql, List.length_take, List.length_reverse]; omega)), ?_⟩
   rw [kvs_put hql hjnot]
   have e78 : Ext H7 (upd H7 D (.dK (zdB (bs.reverse.take i ++ [j]) (qs ++ [p])))) := fun x o e n => by
    rw [zag (fun z => by
     rw [z, h7D] at e
     cases e
     exact n _ rfl)]
    exact e
   have F8 : zaA K (upd H7 D (.dK (zdB (bs.reverse.take i ++ [j]) (qs ++ [p])))) ps rows (bs.reverse.take i ++ [j]) (qs ++ [p]) := by
    exact zaA.ext e78 (zaA.snoc (hF.same s27) ⟨ws, h7, hw7⟩)
   refine ⟨qs ++ [p], _, _, rfl, zac, ?_, ?_, F8, ?_, fun x o n e => ?_⟩
   ·rw [List.nodup_append]
    refine ⟨hqn, List.nodup_cons.mpr ⟨(fun z => nomatch z), List.nodup_nil⟩, fun a ha b hb z => ?_⟩
    rw [List.mem_singleton.mp hb] at z
    subst z
    obtain ⟨ws', hws⟩ := hF.alloc a ha
    have := k26 _ _ hws
    rw [hp] at this
    cases this
   ·intro x hx
    rcases List.mem_append.mp hx with z | z
    ·exact hqf x z
    ·rw [List.mem_singleton.mp z]
     cases e : H p with
     | none => rfl
     | some o =>
      have := k26 _ _ (k2 p o hpD e)
      rw [hp] at this
      cases this
   ·rw [zag (fun z => by rw [z, h2] at h2b; cases h2b)]
    exact s27 _ _ h2b
   ·rw [zag n]
    exact s27 _ _ (k2 x o n e)
 ·rintro σ H2 ⟨qs, x5, x6, rfl, h2, hqn, hqf, hF, h2b, k2⟩
  refine ⟨_, rfl, ?_⟩
  rw [List.length_map, List.take_of_length_le (by rw [List.length_reverse]; exact Nat.le_refl _)] at h2 hF
  exact q D qs H2 hD (fun x o e => k2 x o (zab e hD) e) h2 hqn hqf hF
def zjM (K : PySem.W.Frag) : Sp := fun vs H Q _ => ∃ (st : Addr) (ps : List Nat) (rows : List (List Int)) (t rs : Addr) (as : List Addr), vs = [.ref st] ∧ zbZ H st ps rows t rs as ∧
 ∀ (p : Addr) (qs : List Addr) (H' : Hp), H p = none → Same H H' → H' p = some (.lst (qs.map V.ref)) → qs.Nodup → (∀ q ∈ qs, H q = none) → p ∉ qs → zaA K H' ps rows (List.range (ps.length + 1)) qs → Q (.ref p) H'
theorem zgf {n i : Nat} (h : i < n) : (List.range n).reverse[n - 1 - i]? = some i := by
 rw [List.getElem?_reverse (by rw [List.length_range]; omega), List.length_range, List.getElem?_range (by omega)]
 congr 1
 omega
theorem ok_fulls (T : Txt K mg) (D_full_rows : DF K mg "full_rows" zbd zbK) (F_full_rows_beneath : FC P w K mg base 7 "full_rows_beneath" zaJ (spFRB K)) : FC P w K mg base 8 "full_rows" zbK (zjM K) := by
 refine D_full_rows.ok sc_full_rows (fun vs H Q E h => ?_) (fun f cdv A outer s H vs Q E hr h => ?_)
 ·obtain ⟨st, ps, rows, t, rs, as, rfl, _⟩ := h
  rfl
 obtain ⟨st, ps, rows, t, rs, as, rfl, S, q⟩ := h
 refine ⟨_, (zae (zaw (i := 1) sc_full_rows.nd rfl (Or.inr rfl) (zaG F_full_rows_beneath hr (zaa (pv 0) (zaa zaf zad))))
   (zai (zaz (zdh (N := ["knot", "told"]) (own := 1) (cap := [1]) rfl (za0 rfl T.m_range (zaa (zao zaq rfl T.m_len boot_len (zaa (zaK zbm (pv 0) zaf (fun _ _ => rfl)) zad)) zad)) ⟨rfl, rfl, rfl, rfl, rfl, rfl⟩ (fun _ _ _ _ _ => (zal (i := 0) (show List.Nodup (["knot", "told"] : List Str) by decide +kernel) rfl (Or.inl rfl))) (fun _ _ _ _ _ => zcM) (fun _ _ _ _ _ => (zd4 (zdW hr) (pv 1) (pv 0) (fun _ _ => rfl))))))), ?_⟩
 refine ⟨_, rfl, st, ps, rows, t, rs, as, 0, rfl, S, by omega, fun D qs H1 hD s1 h1 hqn hqf hF => ?_⟩
 rw [benL_zero S.T] at h1 hF
 have S1 := S.same s1
 have hfew := S.few
 have hql := hF.length
 rw [List.length_reverse, List.length_range] at hql
 refine ⟨_, rfl, _, _, _, _, rfl, rfl, SqT.of S1.st, rfl, _, _, rfl, .inr (SqT.of S1.tr), _, rfl, by omega, by rw [zap]; omega, fun p hp => ?_⟩
 have el : ((((zch ps).length : Nat) : Int)).toNat = ps.length + 1 := by rw [zap, Int.toNat_natCast]
 rw [el]
 refine zcG (n := ps.length + 1) (fun i σ H2 => ∃ x0 : Option V, σ = [x0, some (.ref D)] ∧ H2 p = some (.lst ((qs.reverse.take i).map V.ref)) ∧ But p H1 H2) ?_ ?_ ?_
 ·exact ⟨_, rfl, zac, fun b o n e => by rw [zag n]; exact e⟩
 ·rintro i m σ H2 hm hi ⟨x0, rfl, h2, k2⟩
  rw [Int.zero_add]
  have hi2 : i < qs.reverse.length := by rw [List.length_reverse]; omega
  have hq1 : qs[ps.length + 1 - 1 - i]? = some qs.reverse[i] := by
   have := List.getElem?_reverse (l := qs) (i := i) (by omega)
   rw [List.getElem?_eq_getElem hi2] at this
   rw [this]
   congr 1
   omega
  have hv := zhE (zgU List.nodup_range) (zgf hi) hq1
  have h2D := k2 _ _ (zab h1 hp) h1
  have hdg : DGet H2 D (.int (i : Int)) (some (.ref qs.reverse[i])) := by
   rw [← hv]
   exact DGet.k (k := kN i) h2D
  refine zdC ?_
  refine ⟨_, rfl, _, rfl, D, _, rfl, hdg, ?_⟩
  refine ⟨_, h2, zam (by rw [List.length_map, List.length_take]; omega), m - 1, by omega, by omega, _, rfl, ?_, fun b o n e => by rw [zag n]; exact k2 b o n e⟩
  rw [zac, List.take_succ_eq_append_getElem hi2, List.map_append]
  rfl
 ·rintro σ H2 ⟨x0, rfl, h2, k2⟩
  rw [List.take_of_length_le (by rw [List.length_reverse]; omega)] at h2
  have s2 : Same H1 H2 := fun b o e => k2 b o (zab e hp) e
  have F2 := (hF.same s2).rev
  rw [List.reverse_reverse] at F2
  refine q p qs.reverse H2 ?_ (s1.trans s2) h2 (zgU hqn) (fun x hx => hqf x (List.mem_reverse.mp hx)) (fun z => ?_) F2
  ·cases e : H p with
   | none => rfl
   | some o =>
    have := s1 _ _ e
    rw [hp] at this
    cases this
  ·obtain ⟨ws, hws⟩ := hF.alloc p (List.mem_reverse.mp z)
   rw [hp] at hws
   cases hws
def zf4 (x : Key) : Prop := ∃ a : Int, x = .inl a ∧ -(10 ^ 60) < a ∧ a < 10 ^ 60
def toI : Key → Int
 | .inl a => a
 | _ => 0
theorem putI_ok {kvs : List (Key × V)} {x : Key} {v : V} (h1 : (kvs.map (·.1)).Nodup) (h2 : ∀ y ∈ kvs.map (·.1), zf4 y) (hx : zf4 x) : ((putK kvs x v).map (·.1)).Nodup ∧ ∀ y ∈ (putK kvs x v).map (·.1), zf4 y := by
 rw [putK_keys]
 split
 ·exact ⟨h1, h2⟩
 ·rename_i c
  refine ⟨?_, fun y hy => ?_⟩
  ·rw [List.nodup_append]
   refine ⟨h1, List.nodup_cons.mpr ⟨(fun z => nomatch z), List.nodup_nil⟩, fun a ha b hb z => ?_⟩
   rw [List.mem_singleton.mp hb] at z
   subst z
   obtain ⟨p, hp, e⟩ := List.mem_map.mp ha
   exact c (List.any_eq_true.mpr ⟨p, hp, decide_eq_true e⟩)
  ·rcases List.mem_append.mp hy with z | z
   ·exact h2 y z
   ·rw [List.mem_singleton.mp z]
    exact hx
theorem zeZ : ∀ {l : List Key}, (∀ y ∈ l, zf4 y) → l.map kV = (l.map toI).map V.int
 | [], _ => rfl
 | x :: l, h => by
  obtain ⟨a, rfl, _⟩ := h x List.mem_cons_self
  show V.int a :: l.map kV = V.int a :: (l.map toI).map V.int
  rw [zeZ fun y hy => h y (List.mem_cons_of_mem _ hy)]
theorem zgG : ∀ {l : List Key}, l.Nodup → (∀ y ∈ l, zf4 y) → (l.map toI).Nodup
 | [], _, _ => List.nodup_nil
 | x :: l, hn, h => by
  rw [List.map_cons, List.nodup_cons]
  have hc := List.nodup_cons.mp hn
  refine ⟨fun z => ?_, zgG hc.2 fun y hy => h y (List.mem_cons_of_mem _ hy)⟩
  obtain ⟨y, hy, e⟩ := List.mem_map.mp z
  obtain ⟨a, rfl, _⟩ := h x List.mem_cons_self
  obtain ⟨b, rfl, _⟩ := h y (List.mem_cons_of_mem _ hy)
  have : b = a := e
  subst this
  exact hc.1 hy
def spRow (K : PySem.W.Frag) : Sp := fun vs H Q _ => ∃ (d L : Addr) (m : Int), vs = [.ref d, .int m] ∧ (0 ≤ m ∧ m ≤ 40) ∧ LS K L d H ∧
 ∀ (a : Addr) (row : List Int) (H' : Hp), H a = none → row.Pairwise (· < ·) → (∀ x ∈ row, -(10 ^ 60) < x ∧ x < 10 ^ 60) → (row.length : Int) ≤ m → H' a = some (.tup (row.map V.int)) → Keep d H H' → LS K L d H' → Q (.ref a) H'
theorem ok_lrow (T : Txt K mg) (D_l_row : DF K mg "_law_row" zde zdM) (F_l_take : FC P w K mg base 2 "_law_take" zbX (zgI K)) (F_l_key : FC P w K mg base 3 "_law_key" zdN (spKey K)) : FC P w K mg base 4 "_law_row" zdM (spRow K) := by
 refine D_l_row.ok sc_l_row (fun vs H Q E h => ?_) (fun f cdv A outer s H vs Q E hr h => ?_)
 ·obtain ⟨d, L, m, rfl, _⟩ := h
  rfl
 obtain ⟨d, L, m, rfl, ⟨hm0, hm1⟩, hs, q⟩ := h
 refine ⟨_, (zae (zaw (i := 2) sc_l_row.nd rfl (Or.inl rfl) zio)
   (zae (zaN PassesOwn.never rfl (za0 rfl T.m_range (zaa (zaG F_l_take hr (zaa (pv 0) (zaa (zau zbh (pv 1) zaf) zad))) zad)) (zal (i := 3) sc_l_row.nd rfl (Or.inl rfl)) (zai (zd2 (zdW hr) (pv 2) (zaG F_l_key hr (zaa (pv 0) zad)) zd6 rfl)))
   (zai (zaz (zcO zdr rfl T.m_tuple boot_tuple (zaa (zao (zdT Int) rfl T.m_sorted boot_sorted (zaa (zcO (zjl rfl) rfl T.m_list boot_list (zaa (pv 2) zad)) zad)) zad)))))), ?_⟩
 intro g hg
 have ngd : g ≠ d := fun z => by
  obtain ⟨_, _, _, e, _⟩ := hs.ex
  rw [← z, hg] at e
  cases e
 refine ⟨_, rfl, _, rfl, _, _, rfl, rfl, d, L, m + 1, rfl, ⟨by omega, by omega⟩, hs.of_new hg _, fun n H1 n0 n1 k1 s1 => ⟨_, rfl, by omega, by omega, ?_⟩⟩
 refine zbi (n := n.toNat) (fun i σ H2 => ∃ (kvs : List (Key × V)) (x3 : Option V), σ = [some (.ref d), some (.int m), some (.ref g), x3] ∧ H2 g = some (.dK kvs) ∧ kvs.length ≤ i ∧ (kvs.map (·.1)).Nodup ∧ (∀ y ∈ kvs.map (·.1), zf4 y) ∧ (∀ b o, b ≠ d → b ≠ g → H b = some o → H2 b = some o) ∧ LS K L d H2) ?_ ?_ ?_
 ·exact ⟨[], _, rfl, k1 g _ ngd zac, Nat.le_refl _, List.nodup_nil, fun y hy => (by simp at hy), fun b o b1 b2 e => k1 b o b1 (by rw [zag b2]; exact e), s1⟩
 ·rintro i σ H2 hi ⟨kvs, x3, rfl, h2, hl, hn, hy, kk, s2⟩
  refine ⟨_, rfl, _, rfl, d, L, rfl, s2, fun v H3 v0 v1 k3 s3 => ?_⟩
  have h3 : H3 g = some (.dK kvs) := k3 g _ ngd h2
  obtain ⟨p1, p2⟩ := putI_ok (v := .bl true) hn hy (x := .inl v) ⟨v, rfl, v0, v1⟩
  refine ⟨g, _, rfl, DPut.k (k := .inl v) (kvs := kvs) h3 (zam (by omega)), ?_⟩
  refine ⟨putK kvs (.inl v) (.bl true), _, rfl, zac, ?_, p1, p2, ?_, ?_⟩
  ·have := zdm kvs (Sum.inl v : Key) (.bl true)
   omega
  ·intro b o b1 b2 e
   rw [zag b2]
   exact k3 b o b1 (kk b o b1 b2 e)
  ·exact LS.put hs hg (fun b o b1 b2 e => k3 b o b1 (kk b o b1 b2 e)) s3
 ·rintro σ H2 ⟨kvs, x3, rfl, h2, hl, hn, hy, kk, s2⟩
  refine ⟨_, rfl, g, kvs, rfl, h2, fun l hl1 => ?_⟩
  have ei : kvs.map (fun kv => kV kv.1) = ((kvs.map (·.1)).map toI).map V.int := by
   rw [← zeZ hy, List.map_map]
   rfl
  rw [ei]
  have e1 := zak hl1 (.lst (((kvs.map (·.1)).map toI).map V.int))
  refine ⟨l, _, _, rfl, SqL.of zac, zaj.ints, fun l2 ws hl2 hw => ?_⟩
  rw [hw.toInts]
  have e2 := zak hl2 (.lst ((zdt ((kvs.map (·.1)).map toI)).map V.int))
  refine ⟨l2, _, rfl, .inl ⟨SqL.of zac, fun a ha => ?_⟩⟩
  have e3 := zak ha (.tup ((zdt ((kvs.map (·.1)).map toI)).map V.int))
  have e13 := e1.trans (e2.trans e3)
  have free : H a = none := by
   have z2 : H2 a = none := e1.free (e2.free ha)
   cases z : H a with
   | none => rfl
   | some o =>
    by_cases c1 : a = d
    ·obtain ⟨_, _, _, e, _⟩ := s2.ex
     rw [← c1, z2] at e
     cases e
    ·by_cases c2 : a = g
     ·rw [c2, h2] at z2
      cases z2
     ·rw [kk a o c1 c2 z] at z2
      cases z2
  refine q a _ _ free ?_ (fun x hx => ?_) ?_ zac (fun b o b1 e => e13 _ _ (kk b o b1 (zab e hg) e)) (s2.same e13)
  ·exact List.Pairwise.imp (fun {a b} (h : Srt.blt a b = true) => of_decide_eq_true h) (zeD (zgG hn hy))
  ·rw [zei] at hx
   obtain ⟨y, hy2, rfl⟩ := List.mem_map.mp hx
   obtain ⟨a, rfl, h1, h2⟩ := hy y hy2
   exact ⟨h1, h2⟩
  ·rw [zcV, List.length_map, List.length_map]
   omega
def zjI (K : PySem.W.Frag) : Sp := fun vs H Q _ => ∃ (d L : Addr) (n m : Nat), vs = [.ref d, .int n, .int m] ∧ n ≤ 40 ∧ m ≤ 40 ∧ LS K L d H ∧
 ∀ (r : Addr) (as : List Addr) (rows : List (List Int)) (H' : Hp), H r = none → za2 H' as rows → rows.length = n → zbx rows → (∀ row ∈ rows, row.length ≤ m) → H' r = some (.tup (as.map V.ref)) → Keep d H H' → LS K L d H' → Q (.ref r) H'
theorem zbx.snoc {rows : List (List Int)} {row : List Int} (R : zbx rows) (h1 : row.Pairwise (· < ·)) (h2 : ∀ x ∈ row, -(10 ^ 60) < x ∧ x < 10 ^ 60) : zbx (rows ++ [row]) := by
 refine ⟨fun r hr => ?_, fun r hr => ?_⟩
 ·rcases List.mem_append.mp hr with z | z
  ·exact R.up r z
  ·rw [List.mem_singleton.mp z]
   exact h1
 ·rcases List.mem_append.mp hr with z | z
  ·exact R.key r z
  ·rw [List.mem_singleton.mp z]
   exact h2
theorem ok_lrows (T : Txt K mg) (D_l_rows : DF K mg "_law_rows" zcm zcN) (F_l_take : FC P w K mg base 2 "_law_take" zbX (zgI K)) (F_l_row : FC P w K mg base 4 "_law_row" zdM (spRow K)) : FC P w K mg base 5 "_law_rows" zcN (zjI K) := by
 refine D_l_rows.ok sc_l_rows (fun vs H Q E h => ?_) (fun f cdv A outer s H vs Q E hr h => ?_)
 ·obtain ⟨d, L, n, m, rfl, _⟩ := h
  rfl
 obtain ⟨d, L, n, m, rfl, hn, hm, hs, q⟩ := h
 refine ⟨_, (zae (zaw (i := 3) sc_l_rows.nd rfl (Or.inl rfl) (zbL zad))
   (zae (zaN PassesOwn.never rfl (za0 rfl T.m_range (zaa (pv 1) zad)) (zal (i := 4) sc_l_rows.nd rfl (Or.inl rfl)) (zae (zaw (i := 5) sc_l_rows.nd rfl (Or.inl rfl) (zaG F_l_row hr (zaa (pv 0) (zaa (pv 2) zad))))
   (zbk (zcq (zaI zd7 (zaG F_l_take hr (zaa (pv 0) (zaa zaf zad))) zaf (za8 _)) (zai (zaw (i := 5) sc_l_rows.nd rfl (Or.inl rfl) (zca zad))) zaT)
   (zbk (zcq (PW.pt (pw_and (zaI op_gt (pv 4) zaf (za8 _)) (zht (zaI zd7 (zaG F_l_take hr (zaa (pv 0) (zaa zaf zad))) zaf (za8 _))))) (zai (zaw (i := 5) sc_l_rows.nd rfl (Or.inl rfl) (zaK zaE (pv 3) (zau zcb (pv 4) zaf) (fun _ _ => rfl)))) zaT)
   (zai (za3 (zc7 F.plainAttrs_list F.slot_list_append F.type_list_append zaD (pv 3) (zaa (pv 5) zad))))))))
   (zai (zaz (zcO zdr rfl T.m_tuple boot_tuple (zaa (pv 3) zad)))))), ?_⟩
 refine ⟨(by show 0 ≤ sizeLine; decide), fun p hp => ?_⟩
 have g0 := zak hp (.lst [])
 have ndT : ∀ {H' : Hp} {a : Addr} {o : List V}, LS K L d H' → H' a = some (.tup o) → a ≠ d := fun {H' a o} s e z => by
  obtain ⟨_, _, _, e2, _⟩ := s.ex
  rw [← z, e] at e2
  cases e2
 have nd : ∀ {H' : Hp} {a : Addr}, LS K L d H' → H' a = none → a ≠ d := fun {H' a} s e z => by
  obtain ⟨_, _, _, e2, _⟩ := s.ex
  rw [← z, e] at e2
  cases e2
 have hpd : p ≠ d := nd hs hp
 refine ⟨_, rfl, _, rfl, by omega, by omega, ?_⟩
 rw [Int.toNat_natCast]
 refine zbi (n := n) (fun i σ H2 => ∃ (as : List Addr) (rows : List (List Int)) (x4 x5 : Option V), σ = [some (.ref d), some (.int n), some (.int m), some (.ref p), x4, x5] ∧ H2 p = some (.lst (as.map V.ref)) ∧ za2 H2 as rows ∧ rows.length = i ∧ zbx rows ∧ (∀ row ∈ rows, row.length ≤ m) ∧ (∀ b o, b ≠ d → b ≠ p → H b = some o → H2 b = some o) ∧ LS K L d H2) ?_ ?_ ?_
 ·exact ⟨[], [], _, _, rfl, zac, .nil, rfl, ⟨(fun r hr => nomatch hr), (fun r hr => nomatch hr)⟩, (fun r hr => nomatch hr), fun b o _ n e => g0 b o e, hs.same g0⟩
 ·rintro i σ H2 hi ⟨as, rows, x4, x5, rfl, h2, hA, hl, hR, hlen, k2, s2⟩
  rw [Int.zero_add]
  have hal := hA.length
  have old : ∀ {H3 : Hp} {b : Addr} {o : HO}, (∀ b o, b ≠ d → H2 b = some o → H3 b = some o) → b ≠ d → b ≠ p → H b = some o → H3 b = some o := fun k n1 n2 e => k _ _ n1 (k2 _ _ n1 n2 e)
  refine ⟨_, rfl, _, rfl, d, L, m, rfl, ⟨by omega, by omega⟩, s2, fun a row H3 ha hup hky hlr h3 k3 s3 => ?_⟩
  refine ⟨fun σ' H' => ∃ (a : Addr) (row : List Int), σ' = [some (.ref d), some (.int n), some (.int m), some (.ref p), some (.int i), some (.ref a)] ∧ H' a = some (.tup (row.map V.int)) ∧ row.Pairwise (· < ·) ∧ (∀ x ∈ row, -(10 ^ 60) < x ∧ x < 10 ^ 60) ∧ row.length ≤ m ∧ (∀ b o, b ≠ d → H2 b = some o → H' b = some o) ∧ LS K L d H', ?_, ?_⟩
  ·refine ⟨_, rfl, d, L, 4, rfl, by decide, s3, fun v H4 _ _ k4 s4 => ⟨rfl, _, rfl, ?_⟩⟩
   have h4 := k4 _ _ (ndT s3 h3) h3
   refine ite2 (fun _ => ?_) (fun _ => ?_)
   ·refine ⟨(by show 0 ≤ sizeLine; decide), fun u hu => ?_⟩
    have su := zak hu (.tup [])
    exact ⟨u, [], rfl, zac, .nil, (fun x hx => nomatch hx), Nat.zero_le _, fun b o n1 e => su _ _ (k4 _ _ n1 (k3 _ _ n1 e)), s4.same su⟩
   ·exact ⟨a, row, rfl, h4, hup, hky, by omega, fun b o n1 e => k4 _ _ n1 (k3 _ _ n1 e), s4⟩
  rintro σ' H4 ⟨a, row, rfl, h4, hup, hky, hlr, k4, s4⟩
  refine ⟨fun σ' H' => ∃ (a : Addr) (row : List Int), σ' = [some (.ref d), some (.int n), some (.int m), some (.ref p), some (.int i), some (.ref a)] ∧ H' a = some (.tup (row.map V.int)) ∧ row.Pairwise (· < ·) ∧ (∀ x ∈ row, -(10 ^ 60) < x ∧ x < 10 ^ 60) ∧ row.length ≤ m ∧ (∀ b o, b ≠ d → H2 b = some o → H' b = some o) ∧ LS K L d H', ?_, ?_⟩
  ·refine ⟨_, rfl, _, _, rfl, rfl, _, rfl, ?_⟩
   refine ite2 (fun c => ?_) (fun c => ?_)
   ·have c' : (0 : Int) < (i : Int) := of_decide_eq_true c
    refine ⟨_, rfl, d, L, 4, rfl, by decide, s4, fun v H5 _ _ k5 s5 => ⟨rfl, _, rfl, ?_⟩⟩
    have h5 := k5 _ _ (ndT s4 h4) h4
    refine ite2 (fun _ => ?_) (fun _ => ?_)
    ·have h5p : H5 p = some (.lst (as.map V.ref)) := k5 _ _ hpd (k4 _ _ hpd h2)
     obtain ⟨b, hb1, hb2⟩ := hA.get (k := i - 1) (by omega)
     have hb5 := k5 _ _ (ndT s4 (k4 _ _ (ndT s2 hb2) hb2)) (k4 _ _ (ndT s2 hb2) hb2)
     have hat : atI (as.map V.ref) ((i : Int) - 1) = some (.ref b) := by
      rw [show (i : Int) - 1 = ((i - 1 : Nat) : Int) by omega]
      exact zcY hb1
     refine ⟨_, rfl, _, rfl, _, _, rfl, rfl, _, _, _, _, rfl, rfl, SqL.of h5p, hat, ?_⟩
     have hmem : zcp rows (i - 1) ∈ rows := by
      unfold zcp
      rw [List.getD_eq_getElem?_getD, List.getElem?_eq_getElem (show i - 1 < rows.length by omega)]
      exact List.getElem_mem _
     exact ⟨b, zcp rows (i - 1), rfl, hb5, hR.up _ hmem, hR.key _ hmem, hlen _ hmem, fun b o n1 e => k5 _ _ n1 (k4 _ _ n1 e), s5⟩
    ·exact ⟨a, row, rfl, h5, hup, hky, hlr, fun b o n1 e => k5 _ _ n1 (k4 _ _ n1 e), s5⟩
   ·refine iteF ?_
    exact ⟨a, row, rfl, h4, hup, hky, hlr, k4, s4⟩
  rintro σ' H5 ⟨a, row, rfl, h5, hup, hky, hlr, k5, s5⟩
  have h5p : H5 p = some (.lst (as.map V.ref)) := k5 _ _ hpd h2
  have keep : ∀ b o, b ≠ p → H5 b = some o → upd H5 p (.lst (as.map V.ref ++ [.ref a])) b = some o := fun b o n e => by rw [zag n]; exact e
  have ntp : ∀ {b : Addr} {o : List V}, H5 b = some (.tup o) → b ≠ p := fun {b o} e z => by
   rw [z, h5p] at e
   cases e
  refine ⟨_, rfl, .inl ⟨rfl, _, SqL.of h5p⟩, _, rfl, _, _, _, rfl, rfl, h5p, zam (by rw [List.length_map]; omega), ?_⟩
  refine ⟨as ++ [a], rows ++ [row], _, _, rfl, ?_, ?_, by rw [List.length_append, List.length_singleton, hl], hR.snoc hup hky, fun r hr => ?_, fun b o n1 n2 e => keep _ _ n2 (k5 _ _ n1 (k2 _ _ n1 n2 e)), ?_⟩
  ·rw [zac, List.map_append]
   rfl
  ·refine za2.snoc ?_ (keep _ _ (ntp h5) h5)
   have hA5 : za2 H5 as rows := za2.keep (p := d) (fun a row e => ndT s2 e) k5 hA
   exact za2.keep (p := p) (d := p) (fun a row e => ntp e) keep hA5
  ·rcases List.mem_append.mp hr with z | z
   ·exact hlen r z
   ·rw [List.mem_singleton.mp z]
    exact hlr
  ·exact LS.put hs hp (fun b o n1 n2 e => k5 _ _ n1 (k2 _ _ n1 n2 e)) s5
 ·rintro σ H2 ⟨as, rows, x4, x5, rfl, h2, hA, hl, hR, hlen, k2, s2⟩
  refine ⟨_, rfl, p, _, rfl, .inl ⟨SqL.of h2, fun t ht => ?_⟩⟩
  have sn := zak ht (.tup (as.map V.ref))
  have ht0 : H t = none := by
   cases e : H t with
   | none => rfl
   | some o =>
    have := k2 t o (nd s2 ht) (Ne.symm (zab h2 ht)) e
    rw [ht] at this
    cases this
  exact q t as rows _ ht0 (hA.ext sn) hl hR hlen zac (fun b o n e => sn _ _ (k2 b o n (zab e hp) e)) (s2.same sn)
abbrev En := Int × Int
def zdj (k : Nat) (es : List En) : Nat := (es.filter fun e => decide (e.2 = (k : Int))).length
def zhw (k : Nat) (es : List En) : List Nat := (List.range (es.length + 1)).map fun p => zdj k (es.take p)
def stStep (cs : List En) (s : Nat) (e : En) : Nat := if e ∈ cs then cs.idxOf e + 1 else s
def stN (cs es : List En) : Nat := es.foldl (stStep cs) 0
def zdv (es cs : List En) : List Nat := (List.range (es.length + 1)).map fun p => stN cs (es.take p)
def inN (cs es : List En) : Nat := (es.filter fun e => decide (e ∈ cs)).length
theorem zfK {l : List En} (h : Rise l) : l.Nodup := List.Pairwise.imp (fun {a b} (q : pLt a b = true) z => by
 subst z
 have := zdz.mp q
 omega) h
theorem rise_eq {l m : List En} (h1 : Rise l) (h2 : Rise m) (h : ∀ e, e ∈ l ↔ e ∈ m) : l = m := by
 refine List.Perm.eq_of_pairwise (le := fun a b => pLt a b = true) (fun a b _ _ q1 q2 => ?_) h1 h2 ((List.perm_ext_iff_of_nodup (zfK h1) (zfK h2)).mpr h)
 have := zdz.mp q1
 have := zdz.mp q2
 omega
theorem zgv {ps : List Nat} (T : zaL ps) {rows : List (List Int)} {k : Nat} (hk : k < ps.length + 1) {e : En} : e ∈ zar ps rows k ↔ e ∈ ownE rows k ∨ ∃ c, par ps c = some k ∧ e ∈ zea (zar ps rows c) := by
 rw [zcX T hk, zei, List.mem_flatten]
 unfold zdY
 constructor
 ·rintro ⟨l, hl, he⟩
  rcases List.mem_append.mp hl with q | q
  ·obtain ⟨c, hc, rfl⟩ := List.mem_map.mp q
   exact .inr ⟨c, (zaC.mp hc).2, he⟩
  ·rw [List.mem_singleton.mp q] at he
   exact .inl he
 ·rintro (h | ⟨c, hc, h⟩)
  ·exact ⟨_, List.mem_append.mpr (.inr (List.mem_singleton.mpr rfl)), h⟩
  ·exact ⟨_, List.mem_append.mpr (.inl (List.mem_map.mpr ⟨c, zaC.mpr ⟨(za6 T hc).2, hc⟩, rfl⟩)), h⟩
theorem come_mem {ps : List Nat} (T : zaL ps) {rows : List (List Int)} (R : zbx rows) {k c : Nat} (hk : k < ps.length + 1) (hc : par ps c = some k) {e : En} : (e ∈ zar ps rows k ∧ e ∈ zar ps rows c) ↔ e ∈ zea (zar ps rows c) := by
 have hcn := (za6 T hc).2
 constructor
 ·rintro ⟨h1, h2⟩
  obtain ⟨j, g1, g2, g3, _⟩ := zet T R hcn e h2
  rcases (zgv T hk).mp h1 with h | ⟨d, hd, h⟩
  ·have h4 := (zir hk h).2
   have : j = k := by omega
   subst this
   rw [zeY T (za6 T hc).1] at g2
   cases g2
  ·by_cases z : d = c
   ·rw [z] at h
    exact h
   ·obtain ⟨i, _, f2, f3, _⟩ := zet T R (za6 T hd).2 e ((zbo _).mem h)
    have : i = j := by omega
    subst this
    exact (zdD T hd hc z i i (Nat.le_refl _) f2 g2).elim
 ·intro h
  exact ⟨(zgv T hk).mpr (.inr ⟨c, hc, h⟩), (zbo _).mem h⟩
theorem zfO (k : Nat) (es : List En) (e : En) : zdj k (es ++ [e]) = zdj k es + if e.2 = (k : Int) then 1 else 0 := by
 unfold zdj
 rw [List.filter_append, List.length_append]
 congr 1
 by_cases h : e.2 = (k : Int)
 ·rw [if_pos h, List.filter_cons_of_pos (by exact decide_eq_true h)]
  rfl
 ·rw [if_neg h, List.filter_cons_of_neg (by rw [decide_eq_false h]; decide)]
  rfl
theorem zib (cs es : List En) (e : En) : stN cs (es ++ [e]) = if e ∈ cs then cs.idxOf e + 1 else stN cs es := by
 unfold stN
 rw [List.foldl_append]
 rfl
def spL (es : List En) : List Nat := (List.range es.length).filter fun j => (zbM es).getD j false
def stAt (sp : List Nat) (t : Nat) : Nat := if t = 0 then 0 else sp.getD (t - 1) 0 + 1
theorem zbC {f : Nat → Nat} {i : Nat} : ((List.range (i + 1)).map f).map nV = (((List.range i).map f) ++ [f i]).map nV := by
 rw [List.range_succ, List.map_append]
 rfl
theorem zfu {us : List Nat} {c : Nat} : atI ((us ++ [c]).map nV) (-1) = some (nV c) := by
 unfold atI ixN
 rw [List.map_append]
 simp
 rw [if_pos (by omega)]
 show (List.map nV us ++ [nV c])[(-1 + ((us.length : Int) + 1)).toNat]? = _
 rw [show (-1 + ((us.length : Int) + 1)).toNat = us.length by omega, List.getElem?_append_right (by rw [List.length_map]; exact Nat.le_refl _), List.length_map, Nat.sub_self]
 rfl
def spOwns (K : PySem.W.Frag) : Sp := fun vs H Q _ => ∃ (a : Addr) (ws : List V) (es : List En) (k : Nat), vs = [.ref a, .int k] ∧ H a = some (.lst ws) ∧ zaj K H es ws ∧ es.length ≤ 900 ∧
 ∀ (p : Addr) (H' : Hp), H p = none → Same H H' → H' p = some (.lst ((zhw k es).map nV)) → Q (.ref p) H'
theorem ok_owns (T : Txt K mg) (D_owns_of : DF K mg "owns_of" zbN zcv) : FC P w K mg base 1 "owns_of" zcv (spOwns K) := by
 refine D_owns_of.ok sc_owns_of (fun vs H Q E h => ?_) (fun f cdv A outer s H vs Q E hr h => ?_)
 ·obtain ⟨a, ws, es, k, rfl, _⟩ := h
  rfl
 obtain ⟨a, ws, es, k, rfl, ha, hw, hz, q⟩ := h
 have hwl := hw.length
 refine ⟨_, (zae (zaw (i := 2) sc_owns_of.nd rfl (Or.inl rfl) (zbL (zaa zaf zad)))
   (zae (zaN PassesOwn.never rfl (zbg (pv 0)) (zal (i := 3) sc_owns_of.nd rfl (Or.inl rfl)) (zai (za3 (zc7 F.plainAttrs_list F.slot_list_append F.type_list_append zaD (pv 2) (zaa (zil (zaI zd7 (zaK zbm (pv 3) zaf (fun _ _ => rfl)) (pv 1) (za8 _)) (zau zbh (zaK zaE (pv 2) (zfA zdX zaf) (fun _ _ => rfl)) zaf) (zaK zaE (pv 2) (zfA zdX zaf) (fun _ _ => rfl))) zad)))))
   (zai (zaz (pv 2))))), ?_⟩
 refine ⟨(by show 1 ≤ sizeLine; decide), fun p hp => ?_⟩
 have k0 : But p H (upd H p (.lst [V.int 0])) := fun b o n e => by rw [zag n]; exact e
 have nap : a ≠ p := zab ha hp
 refine ⟨_, rfl, a, rfl, ⟨_, SqL.of (k0 _ _ nap ha)⟩, ?_⟩
 refine zbD (xs := ws) (fun i σ H2 => ∃ x3 : Option V, σ = [some (.ref a), some (.int k), some (.ref p), x3] ∧ H2 p = some (.lst (((List.range (i + 1)).map fun p => zdj k (es.take p)).map nV)) ∧ But p H H2) ?_ ?_ ?_ ?_
 ·exact ⟨_, rfl, zac, k0⟩
 ·rintro i σ H2 _ ⟨x3, rfl, _, k2⟩
  exact SqL.of (k2 _ _ nap ha)
 ·rintro i x σ H2 hx ⟨x3, rfl, h2, k2⟩
  obtain ⟨e, he, hhas⟩ := hw.get hx
  obtain ⟨b, y1, y2, rfl, hb, hy1, hy2⟩ := (show hasP K H e x from hhas)
  have hy1 : y1 = .int e.1 := hy1
  have hy2 : y2 = .int e.2 := hy2
  subst hy1 hy2
  have h2b := k2 _ _ (zab hb hp) hb
  have hi := (List.getElem?_eq_some_iff.mp he).1
  have htk : es.take (i + 1) = es.take i ++ [e] := by
   rw [List.take_succ_eq_append_getElem hi, (List.getElem?_eq_some_iff.mp he).2]
  have hon := zfO k (es.take i) e
  rw [← htk] at hon
  rw [zbC] at h2
  have hlen : ((((List.range i).map fun p => zdj k (es.take p)) ++ [zdj k (es.take i)]).map nV).length < sizeLine := zam (by
   rw [List.length_map, List.length_append, List.length_map, List.length_range, List.length_singleton]
   omega)
  have fin : ∀ v : Nat, v = zdj k (es.take (i + 1)) → upd H2 p (.lst ((((List.range i).map fun p => zdj k (es.take p)) ++ [zdj k (es.take i)]).map nV ++ [nV v])) p = some (.lst (((List.range (i + 1 + 1)).map fun p => zdj k (es.take p)).map nV)) := fun v hv => by
   rw [zac, zbC, List.map_append (l₂ := [zdj k (es.take (i + 1))]), zbC, hv]
   rfl
  refine ⟨_, rfl, .inl ⟨rfl, _, SqL.of h2⟩, ?_⟩
  refine ⟨_, rfl, _, _, _, _, rfl, rfl, SqT.of h2b, rfl, _, rfl, rfl, _, rfl, ?_⟩
  refine ite2 (fun c => ?_) (fun c => ?_)
  ·have c' : e.2 = (k : Int) := V.int.inj (of_decide_eq_true c)
   rw [if_pos c'] at hon
   refine ⟨_, rfl, _, rfl, _, _, _, _, rfl, rfl, SqL.of h2, zfu, _, _, rfl, rfl, _, _, _, rfl, rfl, h2, hlen, ?_⟩
   refine ⟨_, rfl, ?_, fun b o n e => by rw [zag n]; exact k2 b o n e⟩
   have := fin (zdj k (es.take i) + 1) hon.symm
   rw [← this]
   rfl
  ·have c' : ¬ e.2 = (k : Int) := fun z => c (by rw [z]; exact decide_eq_true rfl)
   rw [if_neg c', Nat.add_zero] at hon
   refine ⟨_, rfl, _, rfl, _, _, _, _, rfl, rfl, SqL.of h2, zfu, _, _, _, rfl, rfl, h2, hlen, ?_⟩
   exact ⟨_, rfl, fin _ hon.symm, fun b o n e => by rw [zag n]; exact k2 b o n e⟩
 ·rintro σ H2 ⟨x3, rfl, h2, k2⟩
  refine ⟨_, rfl, ?_⟩
  rw [← hwl] at h2
  exact q p H2 hp (fun b o e => k2 b o (zab e hp) e) h2
def kvT : Nat → List En → List (List Key × V)
 | _, [] => []
 | o, e :: es => ([.inl e.1, .inl e.2], nV (o + 1)) :: kvT (o + 1) es
abbrev kE (e : En) : List Key := [.inl e.1, .inl e.2]
theorem kE_inj {e f : En} (h : kE e = kE f) : e = f := by
 obtain ⟨a, b⟩ := e
 obtain ⟨c, d⟩ := f
 injection h with h1 h2
 injection h2 with h2 _
 have h1 : a = c := Sum.inl.inj h1
 have h2 : b = d := Sum.inl.inj h2
 rw [h1, h2]
theorem zhF (e : En) : ∀ (o : Nat) (es : List En), valV (kvT o es) (kE e) = if e ∈ es then some (nV (o + es.idxOf e + 1)) else none
 | _, [] => rfl
 | o, f :: es => by
  show valV ((kE f, nV (o + 1)) :: kvT (o + 1) es) (kE e) = _
  by_cases z : f = e
  ·subst z
   rw [zcg rfl, if_pos List.mem_cons_self, List.idxOf_cons_self]
  ·rw [zbp (fun y => z (kE_inj y)), zhF e (o + 1) es]
   have hm : (e ∈ f :: es) = (e ∈ es) := propext ⟨fun h => (List.mem_cons.mp h).resolve_left fun y => z y.symm, fun h => List.mem_cons_of_mem _ h⟩
   by_cases y : e ∈ es
   ·have ei : (f :: es).idxOf e = es.idxOf e + 1 := by
     rw [List.idxOf_cons, beq_false_of_ne z]
     rfl
    rw [if_pos y, if_pos (by rw [hm]; exact y), ei]
    congr 2
    have : o + 1 + es.idxOf e + 1 = o + (es.idxOf e + 1) + 1 := by omega
    rw [this]
   ·rw [if_neg y, if_neg (by rw [hm]; exact y)]
theorem ziE (e : En) : ∀ (o : Nat) (es : List En), kvT o (es ++ [e]) = kvT o es ++ [(kE e, nV (o + es.length + 1))]
 | _, [] => rfl
 | o, f :: es => by
  show (kE f, nV (o + 1)) :: kvT (o + 1) (es ++ [e]) = (kE f, nV (o + 1)) :: (kvT (o + 1) es ++ _)
  rw [ziE e (o + 1) es, List.length_cons, show o + 1 + es.length + 1 = o + (es.length + 1) + 1 by omega]
theorem kvT_len : ∀ (o : Nat) (es : List En), (kvT o es).length = es.length
 | _, [] => rfl
 | o, e :: es => by
  show (kvT (o + 1) es).length + 1 = es.length + 1
  rw [kvT_len (o + 1) es]
def zic (K : PySem.W.Frag) : Sp := fun vs H Q _ => ∃ (a c : Addr) (ws vs' : List V) (es cs : List En), vs = [.ref a, .ref c] ∧ H a = some (.lst ws) ∧ zaj K H es ws ∧ es.length ≤ 900 ∧ H c = some (.lst vs') ∧ zaj K H cs vs' ∧ cs.length ≤ 900 ∧ cs.Nodup ∧
 ∀ (p : Addr) (H' : Hp), H p = none → Same H H' → H' p = some (.lst ((zdv es cs).map nV)) → Q (.ref p) H'
theorem ok_starts (T : Txt K mg) (D_starts_of : DF K mg "starts_of" za9 zbG) : FC P w K mg base 1 "starts_of" zbG (zic K) := by
 refine D_starts_of.ok sc_starts_of (fun vs H Q E h => ?_) (fun f cdv A outer s H vs Q E hr h => ?_)
 ·obtain ⟨a, c, ws, us, es, cs, rfl, _⟩ := h
  rfl
 obtain ⟨a, c, ws, us, es, cs, rfl, ha, hw, hz, hc, hu, hzc, hnd, q⟩ := h
 have hwl := hw.length
 have hul := hu.length
 refine ⟨_, (zae (zaw (i := 2) sc_starts_of.nd rfl (Or.inl rfl) zin)
   (zae (zaN PassesOwn.never rfl (zdx rfl T.m_enumerate (zaa (pv 1) zad)) (zfe rfl (zbl (zal (i := 3) sc_starts_of.nd rfl (Or.inl rfl)) (zbl (zal (i := 4) sc_starts_of.nd rfl (Or.inl rfl)) zd3))) (zai (zd2 (zdW hr) (pv 2) (pv 4) (zau zbh (pv 3) zaf) rfl)))
   (zae (zaw (i := 5) sc_starts_of.nd rfl (Or.inl rfl) (zbL (zaa zaf zad)))
   (zae (zaN PassesOwn.never rfl (zbg (pv 0)) (zal (i := 4) sc_starts_of.nd rfl (Or.inl rfl)) (zai (za3 (zc7 F.plainAttrs_list F.slot_list_append F.type_list_append zaD (pv 5) (zaa (ziq (zdW hr) (pv 2) (pv 4) (zaK zaE (pv 5) (zfA zdX zaf) (fun _ _ => rfl)) ⟨rfl, rfl, rfl, rfl⟩) zad)))))
   (zai (zaz (pv 5))))))), ?_⟩
 intro D hD
 have k0 : But D H (upd H D (.dT [])) := fun b o n e => by rw [zag n]; exact e
 have naD : a ≠ D := zab ha hD
 have ncD : c ≠ D := zab hc hD
 refine ⟨_, rfl, c, rfl, ⟨_, SqL.of (k0 _ _ ncD hc)⟩, ?_⟩
 refine zgx (xs := us) (fun i σ H2 => ∃ x3 x4 : Option V, σ = [some (.ref a), some (.ref c), some (.ref D), x3, x4, none] ∧ H2 D = some (.dT (kvT 0 (cs.take i))) ∧ But D H H2) ?_ ?_ ?_ ?_
 ·exact ⟨_, _, rfl, zac, k0⟩
 ·rintro i σ H2 _ ⟨x3, x4, rfl, _, k2⟩
  exact SqL.of (k2 _ _ ncD hc)
 ·rintro i x σ H2 r hx ⟨x3, x4, rfl, h2, k2⟩ hr
  obtain ⟨e, he, hhas⟩ := hu.get hx
  obtain ⟨b, y1, y2, rfl, hb, hy1, hy2⟩ := (show hasP K H e x from hhas)
  have hy1 : y1 = .int e.1 := hy1
  have hy2 : y2 = .int e.2 := hy2
  subst hy1 hy2
  have hi := (List.getElem?_eq_some_iff.mp he).1
  have htk : cs.take (i + 1) = cs.take i ++ [e] := by
   rw [List.take_succ_eq_append_getElem hi, (List.getElem?_eq_some_iff.mp he).2]
  refine ⟨r, _, rfl, SqT.of zac, rfl, _, _, rfl, _, _, rfl, rfl, ?_⟩
  have sr := zak hr (.tup [.int (i : Int), .ref b])
  have h3 := sr _ _ h2
  have k3 : But D H (upd H2 r (.tup [.int (i : Int), .ref b])) := fun b o n e => sr b o (k2 b o n e)
  clear sr
  generalize upd H2 r (.tup [.int (i : Int), .ref b]) = H3 at h3 k3 ⊢
  have h3b := k3 _ _ (zab hb hD) hb
  have hnot : e ∉ cs.take i := fun z => by
   have hn2 := hnd
   rw [← List.take_append_drop (i + 1) cs, htk] at hn2
   have := (List.nodup_append.mp (List.nodup_append.mp hn2).1).2.2 e z e (List.mem_singleton.mpr rfl)
   exact this rfl
  refine ⟨_, rfl, _, _, rfl, rfl, _, rfl, _, rfl, D, _, rfl, DPut.t (k := kE e) h3 h3b (zam (by rw [kvT_len, List.length_take]; omega)), ?_⟩
  refine ⟨_, _, rfl, ?_, fun b o n e => by rw [zag n]; exact k3 b o n e⟩
  rw [zac, zdK _ (by rw [zhF, if_neg hnot]), htk, ziE, List.length_take, Nat.min_eq_left (by omega), Nat.zero_add]
  rfl
 ·rintro σ H2 ⟨x3, x4, rfl, h2, k2⟩
  rw [List.take_of_length_le (by omega)] at h2
  refine ⟨(by show 1 ≤ sizeLine; decide), fun p hp => ?_⟩
  have nDp : D ≠ p := zab h2 hp
  have s2 : Same H H2 := fun b o e => k2 b o (zab e hD) e
  have k3 : But p H2 (upd H2 p (.lst [V.int 0])) := fun b o n e => by rw [zag n]; exact e
  have h2a := s2 _ _ ha
  refine ⟨_, rfl, a, rfl, ⟨_, SqL.of (k3 _ _ (zab h2a hp) h2a)⟩, ?_⟩
  refine zbD (xs := ws) (fun i σ H4 => ∃ x4 : Option V, σ = [some (.ref a), some (.ref c), some (.ref D), x3, x4, some (.ref p)] ∧ H4 p = some (.lst (((List.range (i + 1)).map fun p => stN cs (es.take p)).map nV)) ∧ But p H2 H4) ?_ ?_ ?_ ?_
  ·exact ⟨_, rfl, zac, k3⟩
  ·rintro i σ H4 _ ⟨x4, rfl, _, k4⟩
   exact SqL.of (k4 _ _ (zab h2a hp) h2a)
  ·rintro i x σ H4 hx ⟨x4, rfl, h4, k4⟩
   obtain ⟨e, he, hhas⟩ := hw.get hx
   obtain ⟨b, y1, y2, rfl, hb, hy1, hy2⟩ := (show hasP K H e x from hhas)
   have hy1 : y1 = .int e.1 := hy1
   have hy2 : y2 = .int e.2 := hy2
   subst hy1 hy2
   have h2b := s2 _ _ hb
   have h4b := k4 _ _ (zab h2b hp) h2b
   have h4D := k4 _ _ nDp h2
   have hi := (List.getElem?_eq_some_iff.mp he).1
   have htk : es.take (i + 1) = es.take i ++ [e] := by
    rw [List.take_succ_eq_append_getElem hi, (List.getElem?_eq_some_iff.mp he).2]
   have hon := zib cs (es.take i) e
   rw [← htk] at hon
   rw [zbC] at h4
   have hlen : ((((List.range i).map fun p => stN cs (es.take p)) ++ [stN cs (es.take i)]).map nV).length < sizeLine := zam (by
    rw [List.length_map, List.length_append, List.length_map, List.length_range, List.length_singleton]
    omega)
   refine ⟨_, rfl, .inl ⟨rfl, _, SqL.of h4⟩, ?_⟩
   refine ⟨_, rfl, D, rfl, .inr ⟨_, .inl h4D⟩, _, rfl, _, rfl, _, rfl, _, _, _, _, rfl, rfl, SqL.of h4, zfu, _, DGet.t (k := kE e) h4D h4b, ?_⟩
   have ev : (valV (kvT 0 cs) (kE e)).getD (nV (stN cs (es.take i))) = nV (stN cs (es.take (i + 1))) := by
    rw [zhF, hon]
    by_cases z : e ∈ cs
    ·rw [if_pos z, if_pos z, Nat.zero_add]
     rfl
    ·rw [if_neg z, if_neg z]
     rfl
   rw [ev]
   refine ⟨_, _, _, rfl, rfl, h4, hlen, ?_⟩
   refine ⟨_, rfl, ?_, fun b o n e => by rw [zag n]; exact k4 b o n e⟩
   rw [zac, zbC, List.map_append (l₂ := [stN cs (es.take (i + 1))]), zbC]
   rfl
  ·rintro σ H4 ⟨x4, rfl, h4, k4⟩
   refine ⟨_, rfl, ?_⟩
   rw [← hwl] at h4
   refine q p H4 (s2.free hp) (s2.trans fun b o e => k4 b o (zab e hp) e) h4
theorem zax {α β : Type} {F G : α → β → Prop} (h : ∀ a b, F a b → G a b) : ∀ {l : List α} {m : List β}, Paired F l m → Paired G l m
 | _, _, .nil => .nil
 | _, _, .cons a t => .cons (h _ _ a) (zax h t)
theorem zcP {α β : Type} {F : α → β → Prop} {a : α} {b : β} : ∀ {l : List α} {m : List β}, Paired F l m → F a b → Paired F (l ++ [a]) (m ++ [b])
 | _, _, .nil, h => .cons h .nil
 | _, _, .cons a t, h => .cons a (zcP t h)
theorem zdi {α β : Type} {F : α → β → Prop} : ∀ {l : List α} {m : List β} {i : Nat} {b : β}, Paired F l m → m[i]? = some b → ∃ a, l[i]? = some a ∧ F a b
 | _, _, i, a, .nil, h => by simp at h
 | a :: _, _ :: _, 0, b, .cons h t, e => by
  have := Option.some.inj (show some _ = some b from e)
  subst this
  exact ⟨a, rfl, h⟩
 | _ :: _, _ :: _, i + 1, a, .cons h t, e => by
  obtain ⟨q, h1, h2⟩ := zdi (i := i) t (by simpa using e)
  exact ⟨q, by simpa using h1, h2⟩
def zaR (Av : Addr → Prop) (H : Hp) (es : List En) (ps : List Nat) (rows : List (List Int)) (c : Nat) (x : V) : Prop := ∃ j s, x = .ref j ∧ ¬ Av s ∧ H j = some (.tup [.int (c : Int), .ref s]) ∧ H s = some (.lst ((zdv es (zar ps rows c)).map nV))
def BrAt (Av : Addr → Prop) (H : Hp) (ps : List Nat) (rows : List (List Int)) (k : Nat) (x : V) : Prop := ∃ b o j xs, x = .ref b ∧ ¬ Av o ∧ ¬ Av j ∧ H b = some (.tup [.int ((zar ps rows k).length : Nat), .ref o, .ref j]) ∧ H o = some (.lst ((zhw k (zar ps rows k)).map nV)) ∧ H j = some (.lst xs) ∧ Paired (zaR Av H (zar ps rows k) ps rows) (zaM ps k (ps.length + 1)) xs
theorem zaR.same {Av : Addr → Prop} {H H' : Hp} {es : List En} {ps : List Nat} {rows : List (List Int)} {c : Nat} {x : V} (e : Same H H') (h : zaR Av H es ps rows c x) : zaR Av H' es ps rows c x := by
 obtain ⟨j, s, h1, h2, h3, h4⟩ := h
 exact ⟨j, s, h1, h2, e _ _ h3, e _ _ h4⟩
theorem zaR.but {p : Addr} {Av : Addr → Prop} {H H' : Hp} {es : List En} {ps : List Nat} {rows : List (List Int)} {c : Nat} {x : V} {zs : List V} (k : But p H H') (hp : Av p) (hz : H p = some (.lst zs)) (h : zaR Av H es ps rows c x) : zaR Av H' es ps rows c x := by
 obtain ⟨j, s, h1, h2, h3, h4⟩ := h
 exact ⟨j, s, h1, h2, k _ _ (fun z => by rw [z, hz] at h3; cases h3) h3, k _ _ (fun z => h2 (z ▸ hp)) h4⟩
theorem zaR.less {Av Av' : Addr → Prop} {H : Hp} {es : List En} {ps : List Nat} {rows : List (List Int)} {c : Nat} {x : V} (s : ∀ a, Av' a → Av a) (h : zaR Av H es ps rows c x) : zaR Av' H es ps rows c x := by
 obtain ⟨j, q, h1, h2, h3, h4⟩ := h
 exact ⟨j, q, h1, fun z => h2 (s _ z), h3, h4⟩
theorem BrAt.same {Av : Addr → Prop} {H H' : Hp} {ps : List Nat} {rows : List (List Int)} {k : Nat} {x : V} (e : Same H H') (h : BrAt Av H ps rows k x) : BrAt Av H' ps rows k x := by
 obtain ⟨b, o, j, xs, h1, h2, h3, h4, h5, h6, h7⟩ := h
 exact ⟨b, o, j, xs, h1, h2, h3, e _ _ h4, e _ _ h5, e _ _ h6, zax (fun a b => zaR.same e) h7⟩
theorem BrAt.but {p : Addr} {Av : Addr → Prop} {H H' : Hp} {ps : List Nat} {rows : List (List Int)} {k : Nat} {x : V} {zs : List V} (kk : But p H H') (hp : Av p) (hz : H p = some (.lst zs)) (h : BrAt Av H ps rows k x) : BrAt Av H' ps rows k x := by
 obtain ⟨b, o, j, xs, h1, h2, h3, h4, h5, h6, h7⟩ := h
 exact ⟨b, o, j, xs, h1, h2, h3, kk _ _ (fun z => by rw [z, hz] at h4; cases h4) h4, kk _ _ (fun z => h2 (z ▸ hp)) h5, kk _ _ (fun z => h3 (z ▸ hp)) h6, zax (fun a b => zaR.but kk hp hz) h7⟩
theorem BrAt.less {Av Av' : Addr → Prop} {H : Hp} {ps : List Nat} {rows : List (List Int)} {k : Nat} {x : V} (s : ∀ a, Av' a → Av a) (h : BrAt Av H ps rows k x) : BrAt Av' H ps rows k x := by
 obtain ⟨b, o, j, xs, h1, h2, h3, h4, h5, h6, h7⟩ := h
 exact ⟨b, o, j, xs, h1, fun z => h2 (s _ z), fun z => h3 (s _ z), h4, h5, h6, zax (fun a b => zaR.less s) h7⟩
def spBr (K : PySem.W.Frag) : Sp := fun vs H Q _ => ∃ (st : Addr) (ps : List Nat) (rows : List (List Int)) (t rs : Addr) (as : List Addr), vs = [.ref st] ∧ zbZ H st ps rows t rs as ∧
 ∀ (p : Addr) (xs : List V) (H' : Hp), H p = none → Same H H' → H' p = some (.lst xs) → Paired (BrAt (fun a => H a ≠ none) H' ps rows) (List.range (ps.length + 1)) xs → Q (.ref p) H'
def spBrOf (K : PySem.W.Frag) : Sp := fun vs H Q _ => ∃ (st : Addr) (ps : List Nat) (rows : List (List Int)) (t rs : Addr) (as : List Addr) (pf : Addr) (qs : List Addr), vs = [.ref t, .ref pf] ∧ zbZ H st ps rows t rs as ∧ H pf = some (.lst (qs.map V.ref)) ∧ zaA K H ps rows (List.range (ps.length + 1)) qs ∧
 ∀ (p : Addr) (xs : List V) (H' : Hp), H p = none → Same H H' → H' p = some (.lst xs) → Paired (BrAt (fun a => H a ≠ none) H' ps rows) (List.range (ps.length + 1)) xs → Q (.ref p) H'
theorem ok_brOf (T : Txt K mg) (D_bridges_of : DF K mg "bridges_of" zaZ zbv) (F_children : FC P w K mg base 1 "children" zbE (zc1 K)) (F_starts_of : FC P w K mg base 1 "starts_of" zbG (zic K)) (F_owns_of : FC P w K mg base 1 "owns_of" zcv (spOwns K)) : FC P w K mg base 2 "bridges_of" zbv (spBrOf K) := by
 refine D_bridges_of.ok sc_bridges_of (fun vs H Q E h => ?_) (fun f cdv A outer s H vs Q E hr h => ?_)
 ·obtain ⟨st, ps, rows, t, rs, as, pf, qs, rfl, _⟩ := h
  rfl
 obtain ⟨st, ps, rows, t, rs, as, pf, qs, rfl, S, h1, hF, q⟩ := h
 refine ⟨_, (zae (zaw (i := 2) sc_bridges_of.nd rfl (Or.inl rfl) (zbL zad))
   (zae (zaN PassesOwn.never rfl (zdx rfl T.m_enumerate (zaa (pv 1) zad)) (zfe rfl (zbl (zal (i := 3) sc_bridges_of.nd rfl (Or.inl rfl)) (zbl (zal (i := 4) sc_bridges_of.nd rfl (Or.inr rfl)) zd3))) (zae (zd1 (i := 5) (N := ["child", "full", "fulls"]) (own := 1) (cap := [4, 1]) sc_bridges_of.nd rfl rfl rfl (zbg (zaG F_children hr (zaa (pv 0) (zaa (pv 3) zad)))) ⟨rfl, rfl, rfl, rfl, rfl, rfl⟩ (fun _ _ _ _ _ => (zal (i := 0) (show List.Nodup (["child", "full", "fulls"] : List Str) by decide +kernel) rfl (Or.inl rfl))) (fun _ _ _ _ _ => zcM) (fun _ _ _ _ _ => (zca (zaa (pv 0) (zaa (zaG F_starts_of hr (zaa (pv 1) (zaa (zaK (ziH (K := K)) (pv 2) (pv 0) (fun _ _ => rfl)) zad))) zad)))))
   (zai (za3 (zc7 F.plainAttrs_list F.slot_list_append F.type_list_append zaD (pv 2) (zaa (zca (zaa (zao zaq rfl T.m_len boot_len (zaa (pv 4) zad)) (zaa (zaG F_owns_of hr (zaa (pv 4) (zaa (pv 3) zad))) (zaa (pv 5) zad)))) zad))))))
   (zai (zaz (pv 2))))), ?_⟩
 have hfew := S.few
 have hkeys := S.keys
 have hql := hF.length
 rw [List.length_range] at hql
 refine ⟨(by show 0 ≤ sizeLine; decide), fun p hp => ?_⟩
 have k0 : But p H (upd H p (.lst [])) := fun b o n e => by rw [zag n]; exact e
 have npf : pf ≠ p := zab h1 hp
 refine ⟨_, rfl, pf, rfl, ⟨_, SqL.of (k0 _ _ npf h1)⟩, ?_⟩
 refine zgx (xs := qs.map V.ref) (fun i σ H2 => ∃ (xs : List V) (x4 x5 x6 : Option V), σ = [some (.ref t), some (.ref pf), some (.ref p), x4, x5, x6] ∧ H2 p = some (.lst xs) ∧ Paired (BrAt (fun a => a = p ∨ H a ≠ none) H2 ps rows) (List.range i) xs ∧ But p H H2) ?_ ?_ ?_ ?_
 ·exact ⟨[], _, _, _, rfl, zac, .nil, k0⟩
 ·rintro i σ H2 _ ⟨xs, x4, x5, x6, rfl, _, _, k2⟩
  exact SqL.of (k2 _ _ npf h1)
 ·rintro i x σ H2 r hx ⟨xs, x4, x5, x6, rfl, h2, hB, k2⟩ hr
  rw [List.getElem?_map] at hx
  obtain ⟨qq, hqi, rfl⟩ := Option.map_eq_some_iff.mp hx
  have hi : i < ps.length + 1 := by
   have := (List.getElem?_eq_some_iff.mp hqi).1
   omega
  have hxl : xs.length = i := by
   have := Paired.length hB
   rw [List.length_range] at this
   exact this.symm
  have noP : ∀ {b : Addr} {o : HO}, H b = some o → b ≠ p := fun e => zab e hp
  have s12 : Same H H2 := fun b o e => k2 b o (noP e) e
  have S2 := S.same s12
  have F2 := hF.same s12
  have h2f := s12 _ _ h1
  obtain ⟨q2, hq2, ws, hq3, hw3⟩ := F2.get (i := i) (j := i) (List.getElem?_range hi)
  rw [hqi] at hq2
  have := Option.some.inj hq2
  subst this
  refine ⟨r, _, rfl, SqT.of zac, rfl, _, _, rfl, _, _, rfl, rfl, ?_⟩
  have sr := zak hr (.tup [.int (i : Int), .ref qq])
  generalize upd H2 r (.tup [.int (i : Int), .ref qq]) = H3 at sr ⊢
  refine ⟨_, rfl, _, rfl, t, ps, i, rfl, sr _ _ S2.tr, by omega, fun c H4 hc s4 h4 => ?_⟩
  have s24 : Same H2 H4 := sr.trans s4
  refine ⟨c, rfl, ⟨_, SqL.of h4⟩, fun D hD => ?_⟩
  have hpD : p ≠ D := zab (s24 _ _ h2) hD
  have F4 := F2.same s24
  have h4q := s24 _ _ hq3
  have h4w := hw3.mono s24.ext
  have hfl := zdp S.T S.len (rows := rows) hi
  refine zcS (xs := (zaM ps i (ps.length + 1)).map nV) (fun m σ H5 => ∃ (ys : List V) (x0 : Option V), σ = [x0, some (.ref qq), some (.ref pf)] ∧ H5 D = some (.lst ys) ∧ Paired (zaR (fun a => a = D ∨ a = p ∨ H a ≠ none) H5 (zar ps rows i) ps rows) ((zaM ps i (ps.length + 1)).take m) ys ∧ But D H4 H5) ?_ ?_ ?_ ?_
  ·exact ⟨[], _, rfl, zac, .nil, fun b o n e => by rw [zag n]; exact e⟩
  ·rintro m σ H5 _ ⟨ys, x0, rfl, _, _, k5⟩
   exact k5.sq (SqL.of h4) hD
  ·rintro m u x σ H5 hx hm ⟨ys, x0, rfl, h5, hJ, k5⟩
   obtain ⟨hmi, rfl⟩ := zfU hx
   have hcl := zcH ps i (ps.length + 1)
   have hyl := Paired.length hJ
   rw [List.length_take] at hyl
   rw [List.length_map] at hm
   have hcm : (zaM ps i (ps.length + 1))[m]? = some ((zaM ps i (ps.length + 1)).getD m 0) := by
    rw [List.getD_eq_getElem?_getD, List.getElem?_eq_getElem hmi]
    rfl
   have htk2 : (zaM ps i (ps.length + 1)).take (m + 1) = (zaM ps i (ps.length + 1)).take m ++ [(zaM ps i (ps.length + 1)).getD m 0] := by
    rw [List.take_succ_eq_append_getElem hmi, List.getD_eq_getElem?_getD, List.getElem?_eq_getElem hmi]
    rfl
   rw [htk2]
   generalize (zaM ps i (ps.length + 1)).getD m 0 = ch at hcm ⊢
   obtain ⟨hchn, hchp⟩ := zaC.mp (List.mem_of_getElem? hcm)
   have s45 : Same H4 H5 := fun b o e => k5 b o (zab e hD) e
   have F5 := F4.same s45
   obtain ⟨qc, hqc, wc, hqc3, hwc⟩ := F5.get (i := ch) (j := ch) (List.getElem?_range hchn)
   have hfc := zdp S.T S.len (rows := rows) hchn
   refine zdC ?_
   refine ⟨_, rfl, _, rfl, _, rfl, _, rfl, _, _, _, _, rfl, rfl, SqL.of (s45 _ _ (s24 _ _ h2f)), zcY hqc, ?_⟩
   refine ⟨qq, qc, ws, wc, zar ps rows i, zar ps rows ch, rfl, s45 _ _ h4q, h4w.mono s45.ext, by omega, hqc3, hwc, by omega, zeb S.T S.R hchn, fun sa H6 hsa s6 h6 => ?_⟩
   refine ⟨(by show 2 ≤ sizeLine; decide), fun j hj => ?_⟩
   have sj := zak hj (.tup [.int (ch : Int), .ref sa])
   have hjj : upd H6 j (.tup [.int (ch : Int), .ref sa]) j = some (.tup [.int (ch : Int), .ref sa]) := zac
   generalize upd H6 j (.tup [.int (ch : Int), .ref sa]) = H7 at sj hjj ⊢
   have s57 := s6.trans sj
   have h7D := s57 _ _ h5
   have nsaD : sa ≠ D := Ne.symm (zab h5 hsa)
   have nsap : sa ≠ p := Ne.symm (zab (s45 _ _ (s24 _ _ h2)) hsa)
   have kD : But D H7 (upd H7 D (.lst (ys ++ [.ref j]))) := fun b o n e => by rw [zag n]; exact e
   refine ⟨_, h7D, zam (by omega), u - 1, by omega, by rw [List.length_map]; omega, ys ++ [.ref j], _, rfl, zac, ?_, fun b o n e => by rw [zag n]; exact s57 _ _ (k5 b o n e)⟩
   refine zcP (zax (fun a b h => zaR.but kD (.inl rfl) h7D (zaR.same s57 h)) hJ) ?_
   refine zaR.but kD (.inl rfl) h7D ⟨j, sa, rfl, ?_, hjj, sj _ _ h6⟩
   rintro (z | z | z)
   ·exact nsaD z
   ·exact nsap z
   ·exact z ((s12.trans (s24.trans s45)).free hsa)
  ·rintro σ H5 ⟨ys, x0, rfl, h5, hJ, k5⟩
   rw [List.length_map, List.take_of_length_le (Nat.le_refl _)] at hJ
   have s45 : Same H4 H5 := fun b o e => k5 b o (zab e hD) e
   have s25 := s24.trans s45
   refine ⟨_, rfl, .inl ⟨rfl, _, SqL.of (s25 _ _ h2)⟩, _, rfl, _, _, rfl, .inl (SqL.of (s45 _ _ h4q)), ?_⟩
   have hwl := h4w.length
   refine ⟨_, rfl, _, rfl, qq, ws, zar ps rows i, i, rfl, s45 _ _ h4q, h4w.mono s45.ext, by omega, fun o H6 ho s6 h6 => ?_⟩
   refine ⟨_, rfl, (by show 3 ≤ sizeLine; decide), fun b hb => ?_⟩
   have sb := zak hb (.tup [.int ((ws.length : Nat) : Int), .ref o, .ref D])
   have hbb : upd H6 b (.tup [.int ((ws.length : Nat) : Int), .ref o, .ref D]) b = some (.tup [.int ((ws.length : Nat) : Int), .ref o, .ref D]) := zac
   generalize upd H6 b (.tup [.int ((ws.length : Nat) : Int), .ref o, .ref D]) = H7 at sb hbb ⊢
   have s57 := s6.trans sb
   have s27 := s25.trans s57
   have h7p := s27 _ _ h2
   have kp : But p H7 (upd H7 p (.lst (xs ++ [.ref b]))) := fun b o n e => by rw [zag n]; exact e
   have nop : o ≠ p := Ne.symm (zab (s25 _ _ h2) ho)
   refine ⟨_, _, _, rfl, rfl, h7p, zam (by omega), ?_⟩
   refine ⟨xs ++ [.ref b], _, _, _, rfl, zac, ?_, fun b o n e => by rw [zag n]; exact s27 _ _ (k2 b o n e)⟩
   rw [List.range_succ]
   refine zcP (zax (fun a b h => BrAt.but kp (.inl rfl) h7p (BrAt.same s27 h)) hB) ?_
   refine BrAt.but kp (.inl rfl) h7p ⟨b, o, D, ys, rfl, fun z => z.elim nop fun w => w ((s12.trans s25).free ho), fun z => z.elim (fun y => hpD y.symm) fun w => w ((s12.trans s24).free hD), ?_, sb _ _ h6, s57 _ _ h5, ?_⟩
   ·rw [hbb, hwl]
   ·exact zax (fun a b h => zaR.same s57 (zaR.less (fun a z => .inr z) h)) hJ
 ·rintro σ H2 ⟨xs, x4, x5, x6, rfl, h2, hB, k2⟩
  refine ⟨_, rfl, ?_⟩
  rw [List.length_map, ← hql] at hB
  refine q p xs H2 hp (fun b o e => k2 b o (zab e hp) e) h2 (zax (fun a b => BrAt.less fun a z => .inr z) hB)
theorem zi9 (T : Txt K mg) (D_bridges : DF K mg "bridges" zbV zcC) (F_full_rows : FC P w K mg base 8 "full_rows" zbK (zjM K)) (F_bridges_of : FC P w K mg base 2 "bridges_of" zbv (spBrOf K)) : FC P w K mg base 9 "bridges" zcC (spBr K) := by
 refine D_bridges.ok sc_bridges (fun vs H Q E h => ?_) (fun f cdv A outer s H vs Q E hr h => ?_)
 ·obtain ⟨st, ps, rows, t, rs, as, rfl, _⟩ := h
  rfl
 obtain ⟨st, ps, rows, t, rs, as, rfl, S, q⟩ := h
 refine ⟨_, (zai (zaz (zaG F_bridges_of hr (zaa (zaK zbm (pv 0) zaf (fun _ _ => rfl)) (zaa (zaG F_full_rows hr (zaa (pv 0) zad)) zad))))), ?_⟩
 refine ⟨_, rfl, _, _, _, _, rfl, rfl, SqT.of S.st, rfl, ?_⟩
 refine ⟨_, rfl, st, ps, rows, t, rs, as, rfl, S, fun pf qs H1 hpf s1 h1 hqn hqf hpq hF => ?_⟩
 exact ⟨st, ps, rows, t, rs, as, pf, qs, rfl, S.same s1, h1, hF, fun p xs H2 hp s2 h2 hB => q p xs H2 (s1.free hp) (s1.trans s2) h2 (zax (fun a b => BrAt.less fun a z w => z (s1.free w)) hB)⟩
theorem zgT (T : Txt K mg) (D_l_children : DF K mg "_law_children" zaY zbu) : FC P w K mg base 1 "_law_children" zbu (zc1 K) := by
 refine D_l_children.ok sc_l_children (fun vs H Q E h => ?_) (fun f cdv A outer s H vs Q E hr h => ?_)
 ·obtain ⟨t, ps, k, rfl, _⟩ := h
  rfl
 obtain ⟨t, ps, k, rfl, ht, hz, q⟩ := h
 refine ⟨_, (zai (zaz (zdh (N := ["_law_k", "_law_tree_here", "_law_knot"]) (own := 1) (cap := [0, 1]) rfl (za0 rfl T.m_range (zaa (zao zaq rfl T.m_len boot_len (zaa (pv 0) zad)) zad)) ⟨rfl, rfl, rfl, rfl, rfl, rfl⟩ (fun _ _ _ _ _ => (zal (i := 0) (show List.Nodup (["_law_k", "_law_tree_here", "_law_knot"] : List Str) by decide +kernel) rfl (Or.inl rfl))) (fun _ _ _ _ _ => (zeF (zaI zd7 (zaK (zhL (K := K)) (pv 1) (pv 0) (fun _ _ => rfl)) (pv 2) (za8 _)))) (fun _ _ _ _ _ => (pv 0))))), ?_⟩
 refine ⟨_, rfl, _, _, rfl, .inr (SqT.of ht), _, rfl, by omega, by rw [zap]; omega, fun D hD => ?_⟩
 have el : ((((zch ps).length : Nat) : Int)).toNat = ps.length + 1 := by rw [zap, Int.toNat_natCast]
 rw [el]
 refine zcG (n := ps.length + 1) (fun j σ H3 => ∃ x0 : Option V, σ = [x0, some (.ref t), some (.int k)] ∧ H3 D = some (.lst ((zaM ps k j).map nV)) ∧ But D H H3) ?_ ?_ ?_
 ·exact ⟨_, rfl, zac, fun b o n e => by rw [zag n]; exact e⟩
 ·rintro j m σ H3 hm hj ⟨x0, rfl, h3, k3⟩
  rw [Int.zero_add]
  have h3t := k3 _ _ (zab ht hD) ht
  have hlen := zcH ps k j
  refine ⟨_, rfl, _, rfl, _, _, _, _, rfl, rfl, SqT.of h3t, zgB hj, _, rfl, zgO _ _ _, _, rfl, ?_⟩
  refine ite2 (fun c => ?_) (fun c => ?_)
  ·have c' : par ps j = some k := zgi.mp (of_decide_eq_true c)
   refine ⟨_, rfl, _, h3, zam (by rw [List.length_map]; omega), m - 1, by omega, by omega, _, rfl, ?_, fun b o n e => by rw [zag n]; exact k3 b o n e⟩
   rw [zac, zdq, if_pos c', List.map_append]
   rfl
  ·have c' : ¬ par ps j = some k := fun z => c (decide_eq_true (zgi.mpr z))
   refine ⟨m - 1, by omega, by omega, _, rfl, ?_, k3⟩
   rw [h3, zdq, if_neg c', List.append_nil]
 ·rintro σ H3 ⟨x0, rfl, h3, k3⟩
  exact q D H3 hD (fun b o e => k3 b o (zab e hD) e) h3
theorem keys_mem {rows : List (List Int)} {row : List Int} (h : row ∈ rows) : row.length ≤ zd9 rows := by
 unfold zd9
 induction rows with
 | nil => cases h
 | cons r rows ih =>
  rw [List.map_cons, List.sum_cons]
  rcases List.mem_cons.mp h with e | e
  ·rw [e]
   omega
  ·have := ih e
   omega
theorem zhH {m : Nat} : ∀ {rows : List (List Int)}, (∀ row ∈ rows, row.length ≤ m) → zd9 rows ≤ rows.length * m
 | [], _ => Nat.zero_le _
 | r :: rows, h => by
  have h1 := h r List.mem_cons_self
  have h2 := zhH (m := m) (rows := rows) fun x hx => h x (List.mem_cons_of_mem _ hx)
  unfold zd9 at h2 ⊢
  rw [List.map_cons, List.sum_cons, List.length_cons, Nat.succ_mul]
  omega
def accL (ps : List Nat) (rows : List (List Int)) : Nat → Nat → List En
 | 0, j => ownE rows j
 | i + 1, j => accL ps rows i j ++ (if par ps (ps.length - i) = some j then zea (zar ps rows (ps.length - i)) else [])
theorem zh1 {ps : List Nat} (T : zaL ps) {rows : List (List Int)} {j : Nat} {e : En} : ∀ i, i ≤ ps.length → (e ∈ accL ps rows i j ↔ e ∈ ownE rows j ∨ ∃ c, ps.length - i < c ∧ par ps c = some j ∧ e ∈ zea (zar ps rows c))
 | 0, _ => by
  unfold accL
  constructor
  ·exact .inl
  ·rintro (h | ⟨c, h1, h2, _⟩)
   ·exact h
   ·have := (za6 T h2).2
    omega
 | i + 1, hi => by
  unfold accL
  rw [List.mem_append, zh1 T i (by omega)]
  constructor
  ·rintro ((h | ⟨c, h1, h2, h3⟩) | h)
   ·exact .inl h
   ·exact .inr ⟨c, by omega, h2, h3⟩
   ·by_cases z : par ps (ps.length - i) = some j
    ·rw [if_pos z] at h
     exact .inr ⟨_, by omega, z, h⟩
    ·rw [if_neg z] at h
     cases h
  ·rintro (h | ⟨c, h1, h2, h3⟩)
   ·exact .inl (.inl h)
   ·by_cases z : c = ps.length - i
    ·subst z
     rw [if_pos h2]
     exact .inr h3
    ·exact .inl (.inr ⟨c, by omega, h2, h3⟩)
theorem zhk {ps : List Nat} (T : zaL ps) {rows : List (List Int)} (R : zbx rows) {j : Nat} (hj : j < ps.length + 1) : ∀ i, i ≤ ps.length → (accL ps rows i j).Nodup
 | 0, _ => zgR R j
 | i + 1, hi => by
  unfold accL
  have ih := zhk T R hj i (by omega)
  by_cases z : par ps (ps.length - i) = some j
  ·rw [if_pos z, List.nodup_append]
   have hc := (za6 T z).2
   refine ⟨ih, (zeb T R hc).sublist (zbo _), fun a ha b hb hab => ?_⟩
   subst hab
   obtain ⟨u, _, g2, g3, _⟩ := zet T R hc a ((zbo _).mem hb)
   rcases (zh1 T i (by omega)).mp ha with h | ⟨c, h1, h2, h3⟩
   ·have := (zir hj h).2
    have : u = j := by omega
    subst this
    rw [zeY T (za6 T z).1] at g2
    cases g2
   ·obtain ⟨v, _, f2, f3, _⟩ := zet T R (za6 T h2).2 a ((zbo _).mem h3)
    have : u = v := by omega
    subst this
    exact zdD T h2 z (by omega) u u (Nat.le_refl _) f2 g2
  ·rw [if_neg z, List.append_nil]
   exact ih
theorem zgC {ps : List Nat} (T : zaL ps) {rows : List (List Int)} (R : zbx rows) {k : Nat} (hk : k < ps.length + 1) : zdt (accL ps rows (ps.length - k) k) = zar ps rows k := by
 refine rise_eq (zeD (zhk T R hk _ (by omega))) (zdQ T R hk) fun e => ?_
 rw [zei, zh1 T _ (by omega), zgv T hk]
 constructor
 ·rintro (h | ⟨c, _, h2, h3⟩)
  ·exact .inl h
  ·exact .inr ⟨c, h2, h3⟩
 ·rintro (h | ⟨c, h2, h3⟩)
  ·exact .inl h
  ·exact .inr ⟨c, by have := (za6 T h2).1; omega, h2, h3⟩
theorem acc_le {ps : List Nat} {rows : List (List Int)} {j : Nat} (i : Nat) : ∀ d, (accL ps rows i j).length ≤ (accL ps rows (i + d) j).length
 | 0 => Nat.le_refl _
 | d + 1 => by
  refine Nat.le_trans (acc_le i d) ?_
  show _ ≤ (accL ps rows (i + d) j ++ _).length
  rw [List.length_append]
  omega
theorem acc_few {ps : List Nat} (T : zaL ps) {rows : List (List Int)} (R : zbx rows) (hl : rows.length = ps.length + 1) {i j : Nat} (hj : j < ps.length + 1) (hi : i ≤ ps.length - j) : (accL ps rows i j).length ≤ zd9 rows := by
 obtain ⟨d, hd⟩ : ∃ d, ps.length - j = i + d := ⟨ps.length - j - i, by omega⟩
 have h := zgC T R hj
 rw [hd] at h
 have h2 := congrArg List.length h
 rw [zcV] at h2
 exact Nat.le_trans (acc_le i d) (by rw [h2]; exact zdp T hl hj)
def valL (ps : List Nat) (rows : List (List Int)) (i j : Nat) : List En := if ps.length - i < j then zar ps rows j else accL ps rows i j
structure FA (K : PySem.W.Frag) (H : Hp) (p : Addr) (qs : List Addr) (n : Nat) (f : Nat → List En) : Prop where
 at_ : H p = some (.lst (qs.map V.ref))
 len : qs.length = n
 nd : qs.Nodup
 np : p ∉ qs
 get : ∀ (j : Nat) (q : Addr), qs[j]? = some q → ∃ ws, H q = some (.lst ws) ∧ zaj K H (f j) ws
section
variable {K : PySem.W.Frag} {H H' : Hp} {p : Addr} {qs : List Addr} {n : Nat} {f g : Nat → List En}
theorem FA.ext (h : FA K H p qs n f) (e : Ext H H') : FA K H' p qs n f :=
 ⟨e _ _ h.at_ (fun _ z => nomatch z), h.len, h.nd, h.np, fun j q hq => by
  obtain ⟨ws, h1, h2⟩ := h.get j q hq
  exact ⟨ws, e _ _ h1 (fun _ z => nomatch z), h2.mono e⟩⟩
theorem FA.congr (h : FA K H p qs n f) (e : ∀ j, j < n → f j = g j) : FA K H p qs n g :=
 ⟨h.at_, h.len, h.nd, h.np, fun j q hq => by
  rw [← e j (by have := (List.getElem?_eq_some_iff.mp hq).1; have := h.len; omega)]
  exact h.get j q hq⟩
theorem FA.set (h : FA K H p qs n f) {k : Nat} {q' : Addr} {l : List En} {ws : List V} (hq : H q' = some (.lst ws)) (hw : zaj K H l ws) (hn : q' ∉ qs) (hp : q' ≠ p) : FA K (upd H p (.lst ((qs.map V.ref).set k (.ref q')))) p (qs.set k q') n (fun j => if j = k then l else f j) := by
 refine ⟨?_, by rw [List.length_set]; exact h.len, ?_, fun z => ?_, fun j q hj => ?_⟩
 ·rw [zac, List.map_set]
 ·show List.Pairwise _ _
  rw [List.pairwise_iff_getElem]
  intro i j hi hj hij
  rw [List.length_set] at hi hj
  rw [List.getElem_set, List.getElem_set]
  have old := List.pairwise_iff_getElem.mp h.nd i j hi hj hij
  split
  ·rw [if_neg (by omega)]
   exact fun z => hn (z ▸ List.getElem_mem hj)
  ·split
   ·exact fun z => hn (z ▸ List.getElem_mem hi)
   ·exact old
 ·rcases List.mem_or_eq_of_mem_set z with y | y
  ·exact h.np y
  ·exact hp y.symm
 ·rw [List.getElem?_set] at hj
  show ∃ ws, _ ∧ zaj K _ (if j = k then l else f j) ws
  by_cases c : k = j
  ·rw [if_pos c] at hj
   by_cases c2 : k < qs.length
   ·rw [if_pos c2] at hj
    have := Option.some.inj hj
    subst this
    rw [if_pos c.symm]
    exact ⟨ws, by rw [zag hp]; exact hq, zaO h.at_ hw⟩
   ·rw [if_neg c2] at hj
    cases hj
  ·rw [if_neg c] at hj
   rw [if_neg (fun z => c z.symm)]
   obtain ⟨us, h1, h2⟩ := h.get j q hj
   have hqp : q ≠ p := fun z => h.np (by rw [← z]; exact List.mem_of_getElem? hj)
   exact ⟨us, by rw [zag hqp]; exact h1, zaO h.at_ h2⟩
theorem FA.put (h : FA K H p qs n f) {k : Nat} {q : Addr} {ws : List V} {e : En} {x : V} (hk : qs[k]? = some q) (hq : H q = some (.lst ws)) (hx : Rep.has K H e x) : FA K (upd H q (.lst (ws ++ [x]))) p qs n (fun j => if j = k then f j ++ [e] else f j) := by
 have hqp : p ≠ q := fun z => h.np (z ▸ List.mem_of_getElem? hk)
 refine ⟨by rw [zag hqp]; exact h.at_, h.len, h.nd, h.np, fun j q2 hj => ?_⟩
 obtain ⟨us, h1, h2⟩ := h.get j q2 hj
 show ∃ ws, _ ∧ zaj K _ (if j = k then f j ++ [e] else f j) ws
 by_cases c : j = k
 ·subst c
  rw [hk] at hj
  have := Option.some.inj hj
  subst this
  rw [hq] at h1
  cases h1
  rw [if_pos rfl]
  exact ⟨_, zac, (zaO hq h2).append (zaO hq (.one hx))⟩
 ·rw [if_neg c]
  have hne : q2 ≠ q := fun z => by
   subst z
   obtain ⟨i1, e1⟩ := List.getElem?_eq_some_iff.mp hj
   obtain ⟨i2, e2⟩ := List.getElem?_eq_some_iff.mp hk
   have old := List.pairwise_iff_getElem.mp h.nd
   rcases Nat.lt_or_gt_of_ne c with z | z
   ·exact old j k i1 i2 z (e1.trans e2.symm)
   ·exact old k j i2 i1 z (e2.trans e1.symm)
  exact ⟨us, by rw [zag hne]; exact h1, zaO hq h2⟩
theorem FA.at (h : FA K H p qs n f) {k : Nat} (hk : k < n) : ∃ q ws, qs[k]? = some q ∧ H q = some (.lst ws) ∧ zaj K H (f k) ws := by
 have e : qs[k]? = some (qs[k]'(by have := h.len; omega)) := List.getElem?_eq_getElem _
 obtain ⟨ws, h1, h2⟩ := h.get k _ e
 exact ⟨_, ws, e, h1, h2⟩
theorem FA.has (h : FA K H p qs n f) : zaj K H ((List.range n).map f) (qs.map V.ref) := by
 obtain ⟨h1, h2, h3, h4, h5⟩ := h
 clear h1 h3 h4
 induction qs generalizing n f with
 | nil =>
  have : n = 0 := h2.symm
  subst this
  exact .nil
 | cons q qs ih =>
  obtain ⟨m, rfl⟩ : ∃ m, n = m + 1 := ⟨qs.length, h2.symm⟩
  rw [List.range_succ_eq_map, List.map_cons, List.map_cons, List.map_map]
  obtain ⟨ws, w1, w2⟩ := h5 0 q rfl
  exact .cons ⟨q, ws, rfl, SqL.of w1, w2⟩ (ih (n := m) (f := f ∘ Nat.succ) (Nat.succ.inj h2) fun j q' hj => h5 (j + 1) q' (by rw [List.getElem?_cons_succ]; exact hj))
end
def zie (K : PySem.W.Frag) : Sp := fun vs H Q _ => ∃ (t r : Addr) (ps : List Nat) (rows : List (List Int)) (as : List Addr), vs = [.ref t, .ref r] ∧ H t = some (.tup (zch ps)) ∧ H r = some (.tup (as.map V.ref)) ∧ za2 H as rows ∧ rows.length = ps.length + 1 ∧ zaL ps ∧ zbx rows ∧ ps.length ≤ 40 ∧ zd9 rows ≤ 400 ∧
 ∀ (p : Addr) (qs : List Addr) (H' : Hp), H p = none → Same H H' → FA K H' p qs (ps.length + 1) (zar ps rows) → (∀ q ∈ qs, H q = none) → Q (.ref p) H'
theorem ok_lfulls (T : Txt K mg) (D_l_fulls : DF K mg "_law_fulls" zbS zcz) (F_l_marks : FC P w K mg base 2 "_law_marks" zb2 (zfa K)) : FC P w K mg base 3 "_law_fulls" zcz (zie K) := by
 refine D_l_fulls.ok sc_l_fulls (fun vs H Q E h => ?_) (fun f cdv A outer s H vs Q E hr h => ?_)
 ·obtain ⟨t, r, ps, rows, as, rfl, _⟩ := h
  rfl
 obtain ⟨t, r, ps, rows, as, rfl, ht, hr0, hA, hlen, hT, hR, hfew, hkeys, q⟩ := h
 refine ⟨_, (zae (ps_setCZ "_law_k" (i := 2) (N := ["_law_k", "_law_rows_here"]) (own := 1) (cap := [1]) sc_l_fulls.nd rfl rfl rfl (za0 rfl T.m_range (zaa (zao zaq rfl T.m_len boot_len (zaa (pv 0) zad)) zad)) ⟨rfl, rfl, rfl, rfl, rfl, rfl, rfl⟩ (fun _ _ _ _ _ => (zal (i := 0) (show List.Nodup (["_law_k", "_law_rows_here"] : List Str) by decide +kernel) rfl (Or.inr rfl))) (fun _ _ _ _ _ => zcM) (fun _ _ _ _ _ => (zdh (N := ["_law_key_here", "_law_k"]) (own := 1) (cap := [0]) rfl (pi_tupC (K := K) (zaK (zhL (K := K)) (pv 1) (pv 0) (fun _ _ => rfl))) ⟨rfl, rfl, rfl, rfl, rfl, rfl⟩ (fun _ _ _ _ _ => (zal (i := 0) (show List.Nodup (["_law_key_here", "_law_k"] : List Str) by decide +kernel) rfl (Or.inl rfl))) (fun _ _ _ _ _ => zcM) (fun _ _ _ _ _ => (zca (zaa (pv 0) (zaa (pv 1) zad)))))))
   (zae (zaN PassesOwn.never rfl (pi_range3 rfl T.m_range (zaa (zau zcb (zao zaq rfl T.m_len boot_len (zaa (pv 0) zad)) zaf) (zaa zaf (zaa (zfA zdX zaf) zad)))) (zal (i := 3) sc_l_fulls.nd rfl (Or.inl rfl)) (zae (zeS (zao (zdT (Int × Int)) rfl T.m_sorted boot_sorted (zaa (zaK zaE (pv 2) (pv 3) (fun _ _ => rfl)) zad)) (zfN (pv 2) (pv 3) zdJ))
   (zae (zaw (i := 4) sc_l_fulls.nd rfl (Or.inl rfl) (zaK zbm (pv 0) (pv 3) (fun _ _ => rfl)))
   (zai (zaN PassesOwn.never rfl (pi_zip rfl T.m_zip (zaa (zaK zaE (pv 2) (pv 3) (fun _ _ => rfl)) (zaa (zaG F_l_marks hr (zaa (zaK zaE (pv 2) (pv 3) (fun _ _ => rfl)) zad)) zad))) (zfe rfl (zbl (zal (i := 5) sc_l_fulls.nd rfl (Or.inl rfl)) (zbl (zal (i := 6) sc_l_fulls.nd rfl (Or.inl rfl)) zd3))) (zai (zcq (zcW (pv 6)) (zai (za3 (zc7 F.plainAttrs_list F.slot_list_append F.type_list_append zaD (zaK zaE (pv 2) (pv 4) (fun _ _ => rfl)) (zaa (pv 5) zad)))) zaT)))))))
   (zae (zeS (zao (zdT (Int × Int)) rfl T.m_sorted boot_sorted (zaa (zaK zaE (pv 2) zaf (fun _ _ => rfl)) zad)) (zfN (pv 2) zaf zdJ))
   (zai (zaz (pv 2)))))), ?_⟩
 have el : ((((zch ps).length : Nat) : Int)).toNat = ps.length + 1 := by rw [zap, Int.toNat_natCast]
 refine ⟨_, rfl, _, _, rfl, .inr (SqT.of ht), _, rfl, by omega, by rw [zap]; omega, fun D hD => ?_⟩
 rw [el]
 refine zcG (n := ps.length + 1) (fun i σ H2 => ∃ (qs : List Addr) (x0 : Option V), σ = [x0, some (.ref r)] ∧ FA K H2 D qs i (ownE rows) ∧ (∀ q ∈ qs, H q = none) ∧ But D H H2) ?_ ?_ ?_
 ·exact ⟨[], _, rfl, ⟨zac, rfl, List.nodup_nil, (fun z => nomatch z), fun j q e => by simp at e⟩, (fun q z => nomatch z), fun b o n e => by rw [zag n]; exact e⟩
 ·rintro i m σ H2 hm hi ⟨qs, x0, rfl, h2, hqs, k2⟩
  rw [Int.zero_add]
  have s2 : Same H H2 := fun b o e => k2 b o (zab e hD) e
  obtain ⟨b, hb1, hb2⟩ := (hA.ext s2).get (k := i) (by rw [hlen]; exact hi)
  refine zdC ?_
  refine ⟨_, rfl, _, rfl, _, _, _, _, rfl, rfl, SqT.of (s2 _ _ hr0), zcY hb1, b, rfl, ⟨_, SqT.of hb2⟩, fun D3 hD3 => ?_⟩
  refine zgA (xs := (zcp rows i).map V.int) (fun m σ H5 => ∃ (us : List V) (x0 : Option V), σ = [x0, some (.int i)] ∧ H5 D3 = some (.lst us) ∧ zaj K H5 ((ownE rows i).take m) us ∧ But D3 H2 H5) ?_ ?_ ?_ ?_
  ·exact ⟨[], _, rfl, zac, .nil, fun b o n e => by rw [zag n]; exact e⟩
  ·rintro m σ H5 _ ⟨us, x0, rfl, _, _, k5⟩
   exact SqT.of (k5 _ _ (zab hb2 hD3) hb2)
  ·rintro j m' x σ H5 hx hm' ⟨us, x0, rfl, h5, hw5, k5⟩
   rw [List.getElem?_map] at hx
   obtain ⟨y, hy, rfl⟩ := Option.map_eq_some_iff.mp hx
   have hlow := (List.getElem?_eq_some_iff.mp hy).1
   have htk3 : (ownE rows i).take (j + 1) = (ownE rows i).take j ++ [(y, (i : Int))] := by
    unfold ownE
    rw [← List.map_take, ← List.map_take, List.take_succ_eq_append_getElem hlow, List.map_append]
    rw [(List.getElem?_eq_some_iff.mp hy).2]
    rfl
   have hul := hw5.length
   rw [List.length_take] at hul
   rw [List.length_map] at hm'
   have hrl : (zcp rows i).length ≤ zd9 rows := by
    refine keys_mem ?_
    unfold zcp
    rw [List.getD_eq_getElem?_getD, List.getElem?_eq_getElem (show i < rows.length by omega)]
    exact List.getElem_mem _
   refine zdC ?_
   refine ⟨_, rfl, _, rfl, (by show 2 ≤ sizeLine; decide), fun u hu => ?_⟩
   have su := zak hu (.tup [.int y, .int (i : Int)])
   have h6 := su _ _ h5
   have hut : upd H5 u (.tup [.int y, .int (i : Int)]) u = some (.tup [.int y, .int (i : Int)]) := zac
   have k6 := k5.new' hu (.tup [.int y, .int (i : Int)])
   have hw6 := hw5.mono su.ext
   generalize upd H5 u (.tup [.int y, .int (i : Int)]) = H6 at su h6 hut k6 hw6 ⊢
   refine ⟨_, h6, zam (by omega), m' - 1, by omega, by rw [List.length_map]; omega, us ++ [.ref u], _, rfl, zac, ?_, fun b o n e => by rw [zag n]; exact k6 b o n e⟩
   rw [htk3]
   exact (zaO h6 hw6).append (zaO h6 (.cons ⟨u, .int y, .int (i : Int), rfl, hut, rfl, rfl⟩ .nil))
  rintro σ H5 ⟨us, x0, rfl, h5, hw5, k5⟩
  rw [List.length_map, List.take_of_length_le (by unfold ownE; rw [List.length_map]; exact Nat.le_refl _)] at hw5
  have s5 : Same H2 H5 := fun x o e => k5 x o (zab e hD3) e
  have F5 := h2.ext s5.ext
  have hqn : D3 ∉ qs := fun z => by
   obtain ⟨j, hj, e⟩ := List.getElem_of_mem z
   obtain ⟨ws, w1, _⟩ := h2.get j D3 (by rw [List.getElem?_eq_getElem hj, e])
   rw [hD3] at w1
   cases w1
  have hDD : D3 ≠ D := fun z => by
   have := h2.at_
   rw [← z, hD3] at this
   cases this
  have hql := h2.len
  refine ⟨_, F5.at_, zam (by rw [List.length_map]; omega), m - 1, by omega, by omega, qs ++ [D3], _, rfl, ⟨?_, by rw [List.length_append, List.length_singleton, hql], ?_, ?_, ?_⟩, ?_, ?_⟩
  ·rw [zac, List.map_append]
   rfl
  ·rw [List.nodup_append]
   refine ⟨h2.nd, List.nodup_cons.mpr ⟨(fun z => nomatch z), List.nodup_nil⟩, fun a ha b hb e => ?_⟩
   rw [List.mem_singleton.mp hb] at e
   exact hqn (e ▸ ha)
  ·intro z
   rcases List.mem_append.mp z with y | y
   ·exact h2.np y
   ·exact hDD (List.mem_singleton.mp y).symm
  ·intro j q0 hj
   by_cases c : j < qs.length
   ·rw [List.getElem?_append_left c] at hj
    obtain ⟨ws, w1, w2⟩ := F5.get j q0 hj
    have hne : q0 ≠ D := fun z => h2.np (by rw [← z]; exact List.mem_of_getElem? hj)
    exact ⟨ws, by rw [zag hne]; exact w1, zaO F5.at_ w2⟩
   ·rw [List.getElem?_append_right (by omega)] at hj
    have hj0 : j - qs.length = 0 := by
     have := (List.getElem?_eq_some_iff.mp hj).1
     rw [List.length_singleton] at this
     omega
    rw [hj0] at hj
    have := Option.some.inj (show some D3 = some q0 from hj)
    subst this
    have : j = i := by omega
    subst this
    exact ⟨us, by rw [zag hDD]; exact h5, zaO F5.at_ hw5⟩
  ·intro q0 hq0
   rcases List.mem_append.mp hq0 with y | y
   ·exact hqs q0 y
   ·rw [List.mem_singleton.mp y]
    exact s2.free hD3
  ·exact fun b o n e => by
    rw [zag n]
    exact s5 _ _ (k2 b o n e)
 rintro σ H2 ⟨qs, x0, rfl, F2, hqs2, k2⟩
 have s2 : Same H H2 := fun b o e => k2 b o (zab e hD) e
 have hD0 := hD
 clear k2
 have F0 : FA K H2 D qs (ps.length + 1) (valL ps rows 0) := F2.congr fun j hj => by
  unfold valL accL
  rw [if_neg (by omega)]
 clear F2
 have h2t := s2 _ _ ht
 refine ⟨_, rfl, _, _, rfl, .inr (SqT.of h2t), _, _, rfl, rfl, ?_⟩
 refine ⟨_, rfl, _, _, rfl, ⟨by rw [zap]; omega, by rw [zap]; omega, by omega, by omega⟩, ?_⟩
 have en : ((((zch ps).length : Nat) : Int) - 1 - 0).toNat = ps.length := by rw [zap]; omega
 rw [en]
 refine for_fall (n := ps.length) (fun i σ H3 => ∃ (qs : List Addr) (x3 x4 x5 x6 : Option V), σ = [some (.ref t), some (.ref r), some (.ref D), x3, x4, x5, x6] ∧ FA K H3 D qs (ps.length + 1) (valL ps rows i) ∧ (∀ q ∈ qs, H q = none) ∧ Same H H3) ?_ ?_ ?_
 ·exact ⟨qs, _, _, _, _, rfl, F0, hqs2, s2⟩
 ·rintro i σ H3 hi ⟨qs, x3, x4, x5, x6, rfl, F3, hqs, s3⟩
  have ek : (((zch ps).length : Nat) : Int) - 1 - (i : Int) = ((ps.length - i : Nat) : Int) := by rw [zap]; omega
  rw [ek]
  have eI : i = ps.length - (ps.length - i) := by omega
  obtain ⟨k, hk⟩ : ∃ k, k = ps.length - i := ⟨_, rfl⟩
  rw [← hk] at eI ⊢
  have hkn : k < ps.length + 1 := by omega
  have hk1 : 1 ≤ k := by omega
  obtain ⟨q0, ws, hq0, hq1, hq2⟩ := F3.at hkn
  have ev : valL ps rows i k = accL ps rows i k := by
   unfold valL
   rw [if_neg (by omega)]
  rw [ev] at hq2
  have hfl := Nat.le_trans (zdp hT hlen hkn (rows := rows)) hkeys
  refine ⟨_, rfl, _, rfl, _, _, _, _, rfl, rfl, SqL.of F3.at_, zcY hq0, q0, ws, _, rfl, SqL.of hq1, hq2, fun l us hl hus => ?_⟩
  have hsort : zdt (accL ps rows i k) = zar ps rows k := by
   rw [eI]
   exact zgC hT hR hkn
  rw [hsort] at hus
  have sl := zak hl (.lst us)
  have F4 := F3.ext sl.ext
  have hl4 : upd H3 l (.lst us) l = some (.lst us) := zac
  have hus4 := hus.mono sl.ext
  have s4 := s3.trans sl
  have hlq : l ∉ qs := fun z => by
   obtain ⟨j, hj, e⟩ := List.getElem_of_mem z
   obtain ⟨ws, w1, _⟩ := F3.get j l (by rw [List.getElem?_eq_getElem hj, e])
   rw [hl] at w1
   cases w1
  have hlD : l ≠ D := fun z => by
   have := F3.at_
   rw [← z, hl] at this
   cases this
  have hl0 : H l = none := s3.free hl
  clear sl
  generalize upd H3 l (.lst us) = H4 at F4 hl4 hus4 s4 ⊢
  refine ⟨_, rfl, _, rfl, _, _, _, k, rfl, rfl, F4.at_, zeK (by rw [List.length_map, F4.len]; exact hkn), ?_⟩
  have F5 := F4.set (k := k) hl4 hus4 hlq hlD
  have hl5 : upd H4 D (.lst ((qs.map V.ref).set k (.ref l))) l = some (.lst us) := by rw [zag hlD]; exact hl4
  have hus5 : zaj K (upd H4 D (.lst ((qs.map V.ref).set k (.ref l)))) (zar ps rows k) us := zaO F4.at_ hus4
  have s5 : Same H (upd H4 D (.lst ((qs.map V.ref).set k (.ref l)))) := fun b o e => by
   rw [zag (zab e hD)]
   exact s4 _ _ e
  have hqs5 : ∀ q ∈ qs.set k l, H q = none := fun q hq => by
   rcases List.mem_or_eq_of_mem_set hq with y | y
   ·exact hqs q y
   ·rw [y]
    exact hl0
  have hqk : (qs.set k l)[k]? = some l := by
   rw [List.getElem?_set, if_pos rfl, if_pos (by rw [F4.len]; exact hkn)]
  generalize upd H4 D (.lst ((qs.map V.ref).set k (.ref l))) = H5 at F5 hl5 hus5 s5 ⊢
  generalize qs.set k l = qs' at F5 hqs5 hqk ⊢
  obtain ⟨u, hu⟩ := zgh (ps := ps) (k := k) (by omega) hkn
  have hlt := (za6 hT hu).1
  refine ⟨_, rfl, _, rfl, _, _, _, _, rfl, rfl, SqT.of (s5 _ _ ht), zgB hkn, ?_⟩
  rw [zem hu]
  refine ⟨_, rfl, _, rfl, _, _, _, _, rfl, rfl, SqL.of F5.at_, zcY hqk, ?_⟩
  refine ⟨_, rfl, _, rfl, _, _, _, _, rfl, rfl, SqL.of F5.at_, zcY hqk, ?_⟩
  refine ⟨l, us, zar ps rows k, rfl, hl5, hus5, by omega, zfk hT hR (by omega) hkn, zdQ hT hR hkn, fun pm H6 hpm s6 h6 => ?_⟩
  refine ⟨l, pm, rfl, ⟨_, SqL.of (s6 _ _ hl5)⟩, ⟨_, SqL.of h6⟩, ?_⟩
  have hul := hus5.length
  have hml := zdl (zar ps rows k)
  have F6 := F5.ext s6.ext
  have s06 := s5.trans s6
  have hl6 := s6 _ _ hl5
  have hus6 := hus5.mono s6.ext
  have hpmq : pm ∉ qs' := fun z => by
   obtain ⟨j, hj, e⟩ := List.getElem_of_mem z
   obtain ⟨ws, w1, _⟩ := F5.get j pm (by rw [List.getElem?_eq_getElem hj, e])
   rw [hpm] at w1
   cases w1
  have F6' : FA K H6 D qs' (ps.length + 1) (fun j => if j = u then accL ps rows i u ++ zbw ((zar ps rows k).take 0) ((zbM (zar ps rows k)).take 0) else if j = k then zar ps rows k else valL ps rows i j) := F6.congr fun j hj => by
   show (if j = k then _ else _) = _
   by_cases c : j = u
   ·subst c
    rw [if_pos rfl, if_neg (by omega)]
    unfold valL
    rw [if_neg (by omega)]
    show _ = _ ++ []
    rw [List.append_nil]
   ·rw [if_neg c]
  clear F5 F6
  refine for_zip (xs := us) (ys := (zbM (zar ps rows k)).map V.bl) (by rw [List.length_map, hml]; exact hul.symm) (fun m σ H7 => ∃ x5 x6 : Option V, σ = [some (.ref t), some (.ref r), some (.ref D), some (.int k), some (.int u), x5, x6] ∧ FA K H7 D qs' (ps.length + 1) (fun j => if j = u then accL ps rows i u ++ zbw ((zar ps rows k).take m) ((zbM (zar ps rows k)).take m) else if j = k then zar ps rows k else valL ps rows i j) ∧ H7 l = some (.lst us) ∧ zaj K H7 (zar ps rows k) us ∧ H7 pm = some (.lst ((zbM (zar ps rows k)).map V.bl)) ∧ Same H H7) ?_ ?_ ?_ ?_
  ·exact ⟨_, _, rfl, F6', hl6, hus6, h6, s06⟩
  ·rintro m σ H7 _ ⟨x5, x6, rfl, F7, hl7, hus7, hm7, s7⟩
   exact ⟨SqL.of hl7, SqL.of hm7⟩
  ·rintro m x y σ H7 rr hx hy ⟨x5, x6, rfl, F7, hl7, hus7, hm7, s7⟩ hrr
   obtain ⟨e, he, hex⟩ := hus7.get hx
   rw [List.getElem?_map] at hy
   obtain ⟨b, hb, rfl⟩ := Option.map_eq_some_iff.mp hy
   have hme := (List.getElem?_eq_some_iff.mp he).1
   have hmb := (List.getElem?_eq_some_iff.mp hb).1
   have tke : (zar ps rows k).take (m + 1) = (zar ps rows k).take m ++ [e] := by rw [List.take_succ_eq_append_getElem hme, (List.getElem?_eq_some_iff.mp he).2]
   have tkb : (zbM (zar ps rows k)).take (m + 1) = (zbM (zar ps rows k)).take m ++ [b] := by rw [List.take_succ_eq_append_getElem hmb, (List.getElem?_eq_some_iff.mp hb).2]
   have hhs : zbw ((zar ps rows k).take (m + 1)) ((zbM (zar ps rows k)).take (m + 1)) = zbw ((zar ps rows k).take m) ((zbM (zar ps rows k)).take m) ++ (if b = true then [e] else []) := by
    rw [tke, tkb]
    exact zg5 (by rw [List.length_take, List.length_take]; omega)
   rw [hhs]
   have sr := zak hrr (.tup [x, .bl b])
   refine ⟨rr, _, rfl, SqT.of zac, rfl, _, _, rfl, _, _, rfl, rfl, ?_⟩
   have F8 := F7.ext sr.ext
   have hl8 := sr _ _ hl7
   have hus8 := hus7.mono sr.ext
   have hm8 := sr _ _ hm7
   have s8 := s7.trans sr
   have hex8 := Rep.mono sr.ext hex
   clear sr F7 hl7 hus7 hm7 s7 hex
   generalize upd H7 rr (.tup [x, .bl b]) = H8 at F8 hl8 hus8 hm8 s8 hex8 ⊢
   refine ⟨_, rfl, b, rfl, ?_⟩
   cases b with
   | false =>
    refine iteF ?_
    refine ⟨_, _, rfl, ?_, hl8, hus8, hm8, s8⟩
    rw [if_neg Bool.false_ne_true, List.append_nil]
    exact F8
   | true =>
    refine iteT ?_
    obtain ⟨qu, wu, hqu, hqu1, hqu2⟩ := F8.at (k := u) (by omega)
    have hqu2 : zaj K H8 (accL ps rows i u ++ zbw ((zar ps rows k).take m) ((zbM (zar ps rows k)).take m)) wu := by
     have z := hqu2
     rw [if_pos rfl] at z
     exact z
    have hwl := hqu2.length
    have hal := Nat.le_trans (acc_few hT hR hlen (i := i) (j := u) (by omega) (by omega)) hkeys
    have hhl := zfj ((zar ps rows k).take m) ((zbM (zar ps rows k)).take m)
    rw [List.length_take] at hhl
    rw [List.length_append] at hwl
    have hlu : l ≠ qu := fun z => by
     subst z
     obtain ⟨i1, e1⟩ := List.getElem?_eq_some_iff.mp hqk
     obtain ⟨i2, e2⟩ := List.getElem?_eq_some_iff.mp hqu
     exact List.pairwise_iff_getElem.mp F8.nd u k i2 i1 hlt (e2.trans e1.symm)
    have hpu : pm ≠ qu := fun z => hpmq (by rw [z]; exact List.mem_of_getElem? hqu)
    have hu0 := hqs5 qu (List.mem_of_getElem? hqu)
    have F9 := F8.put hqu hqu1 hex8
    refine ⟨_, rfl, _, rfl, _, _, _, _, rfl, rfl, SqL.of F8.at_, zcY hqu, .inl ⟨rfl, _, SqL.of hqu1⟩, _, rfl, _, _, _, rfl, rfl, hqu1, zam (by omega), ?_⟩
    refine ⟨_, _, rfl, F9.congr fun j hj => ?_, by rw [zag hlu]; exact hl8, zaO hqu1 hus8, by rw [zag hpu]; exact hm8, fun b o e => by rw [zag (zab e hu0)]; exact s8 _ _ e⟩
    show (if j = u then (if j = u then _ else _) ++ [e] else (if j = u then _ else _)) = _
    by_cases c : j = u
    ·rw [if_pos c, if_pos c, if_pos c, if_pos rfl, List.append_assoc]
    ·rw [if_neg c, if_neg c, if_neg c]
  rintro σ H7 ⟨x5, x6, rfl, F7, hl7, hus7, hm7, s7⟩
  refine ⟨qs', _, _, _, _, rfl, F7.congr fun j hj => ?_, hqs5, s7⟩
  rw [← hul, List.take_of_length_le (Nat.le_refl _), List.take_of_length_le (by rw [hml]; exact Nat.le_refl _)]
  unfold valL
  have e1 : ps.length - (i + 1) = k - 1 := by omega
  have e2 : ps.length - i = k := by omega
  have eacc : accL ps rows (i + 1) j = accL ps rows i j ++ (if par ps k = some j then zea (zar ps rows k) else []) := by
   rw [accL, e2]
  rw [e1, e2, eacc, hu]
  by_cases c : j = u
  ·subst c
   rw [if_pos rfl, if_neg (by omega), if_pos rfl]
   rfl
  ·rw [if_neg c]
   by_cases c2 : j = k
   ·rw [if_pos c2, if_pos (by omega), c2]
   ·rw [if_neg c2]
    by_cases c3 : k < j
    ·rw [if_pos c3, if_pos (by omega)]
    ·rw [if_neg c3, if_neg (by omega), if_neg (fun z => c (Option.some.inj z).symm), List.append_nil]
 rintro σ H3 ⟨qs, x3, x4, x5, x6, rfl, F3, hqs, s3⟩
 obtain ⟨q0, ws, hq0, hq1, hq2⟩ := F3.at (k := 0) (by omega)
 have ev : valL ps rows ps.length 0 = accL ps rows ps.length 0 := by
  unfold valL
  rw [if_neg (by omega)]
 rw [ev] at hq2
 refine ⟨_, rfl, _, _, _, _, rfl, rfl, SqL.of F3.at_, zcY hq0, q0, ws, _, rfl, SqL.of hq1, hq2, fun l us hl hus => ?_⟩
 have hsort : zdt (accL ps rows ps.length 0) = zar ps rows 0 := zgC hT hR (k := 0) (by omega)
 rw [hsort] at hus
 have sl := zak hl (.lst us)
 have F4 := F3.ext sl.ext
 have hl4 : upd H3 l (.lst us) l = some (.lst us) := zac
 have hus4 := hus.mono sl.ext
 have s4 := s3.trans sl
 have hlq : l ∉ qs := fun z => by
  obtain ⟨j, hj, e⟩ := List.getElem_of_mem z
  obtain ⟨ws, w1, _⟩ := F3.get j l (by rw [List.getElem?_eq_getElem hj, e])
  rw [hl] at w1
  cases w1
 have hlD : l ≠ D := fun z => by
  have := F3.at_
  rw [← z, hl] at this
  cases this
 have hl0 : H l = none := s3.free hl
 clear sl
 generalize upd H3 l (.lst us) = H4 at F4 hl4 hus4 s4 ⊢
 refine ⟨_, rfl, _, _, _, 0, rfl, rfl, F4.at_, zeK (k := 0) (by rw [List.length_map, F4.len]; exact Nat.succ_pos _), ?_⟩
 refine ⟨_, rfl, ?_⟩
 refine q D (qs.set 0 l) _ hD0 (fun b o e => by rw [zag (zab e hD)]; exact s4 _ _ e) ((F4.set (k := 0) hl4 hus4 hlq hlD).congr fun j hj => ?_) fun q hq => ?_
 ·show (if j = 0 then _ else _) = _
  by_cases c : j = 0
  ·rw [if_pos c, c]
  ·rw [if_neg c]
   unfold valL
   rw [if_pos (by omega)]
 ·rcases List.mem_or_eq_of_mem_set hq with y | y
  ·exact hqs q y
  ·rw [y]
   exact hl0
def kvP : Nat → List En → List Bool → List (List Key × V)
 | o, e :: es, m :: ms => (if m = true then [(kE e, nV (o + 1))] else []) ++ kvP (o + 1) es ms
 | _, _, _ => []
theorem hand_cons {e : En} {es : List En} {m : Bool} {ms : List Bool} : zbw (e :: es) (m :: ms) = if m = true then e :: zbw es ms else zbw es ms := by
 unfold zbw
 cases m <;> rfl
theorem zhG (e : En) : ∀ (o : Nat) (es : List En) (ms : List Bool), es.Nodup → valV (kvP o es ms) (kE e) = if e ∈ zbw es ms then some (nV (o + es.idxOf e + 1)) else none
 | _, [], _, _ => by
  unfold kvP zbw
  rfl
 | _, _ :: _, [], _ => by
  unfold kvP zbw
  rfl
 | o, f :: es, m :: ms, hn => by
  have hn' := List.nodup_cons.mp hn
  have ih := zhG e (o + 1) es ms hn'.2
  have ei : f ≠ e → (f :: es).idxOf e = es.idxOf e + 1 := fun z => by
   rw [List.idxOf_cons, beq_false_of_ne z]
   rfl
  have eo : ∀ n, o + 1 + n + 1 = o + (n + 1) + 1 := fun n => by omega
  rw [hand_cons]
  unfold kvP
  cases m with
  | false =>
   rw [if_neg Bool.false_ne_true, if_neg Bool.false_ne_true, List.nil_append, ih]
   by_cases y : e ∈ zbw es ms
   ·have hfe : f ≠ e := fun z => hn'.1 (by rw [z]; exact (zdE _ _).mem y)
    rw [if_pos y, if_pos y, ei hfe, eo]
   ·rw [if_neg y, if_neg y]
  | true =>
   rw [if_pos rfl, if_pos rfl]
   show valV ((kE f, nV (o + 1)) :: kvP (o + 1) es ms) (kE e) = _
   by_cases z : f = e
   ·subst z
    rw [zcg rfl, if_pos List.mem_cons_self, List.idxOf_cons_self]
   ·rw [zbp (fun y => z (kE_inj y)), ih]
    by_cases y : e ∈ zbw es ms
    ·rw [if_pos y, if_pos (List.mem_cons_of_mem _ y), ei z, eo]
    ·rw [if_neg y, if_neg (fun q => (List.mem_cons.mp q).elim (fun w => z w.symm) y)]
theorem ziF (e : En) (m : Bool) : ∀ (o : Nat) (es : List En) (ms : List Bool), es.length = ms.length → kvP o (es ++ [e]) (ms ++ [m]) = kvP o es ms ++ (if m = true then [(kE e, nV (o + es.length + 1))] else [])
 | o, [], [], _ => by
  show (if m = true then [(kE e, nV (o + 1))] else []) ++ kvP (o + 1) [] [] = kvP o [] [] ++ _
  unfold kvP
  rw [List.append_nil]
  rfl
 | _, [], _ :: _, h => by cases h
 | _, _ :: _, [], h => by cases h
 | o, f :: es, x :: ms, h => by
  show (if x = true then [(kE f, nV (o + 1))] else []) ++ kvP (o + 1) (es ++ [e]) (ms ++ [m]) = ((if x = true then [(kE f, nV (o + 1))] else []) ++ kvP (o + 1) es ms) ++ _
  rw [ziF e m (o + 1) es ms (Nat.succ.inj h), List.append_assoc, List.length_cons, show o + 1 + es.length + 1 = o + (es.length + 1) + 1 by omega]
theorem kvP_len : ∀ (o : Nat) (es : List En) (ms : List Bool), (kvP o es ms).length ≤ es.length
 | _, [], _ => by unfold kvP; exact Nat.le_refl _
 | _, _ :: _, [] => by unfold kvP; exact Nat.zero_le _
 | o, e :: es, m :: ms => by
  have ih := kvP_len (o + 1) es ms
  unfold kvP
  rw [List.length_append, List.length_cons]
  cases m with
  | false => rw [if_neg Bool.false_ne_true, List.length_nil]; omega
  | true => rw [if_pos rfl, List.length_singleton]; omega
def zgJ (K : PySem.W.Frag) : Sp := fun vs H Q _ => ∃ (a c m : Addr) (ws us : List V) (es cs : List En) (ms : List Bool), vs = [.ref a, .ref c, .ref m] ∧ H a = some (.lst ws) ∧ zaj K H es ws ∧ es.length ≤ 900 ∧ H c = some (.lst us) ∧ zaj K H cs us ∧ cs.length ≤ 900 ∧ cs.Nodup ∧ H m = some (.lst (ms.map V.bl)) ∧ ms.length = cs.length ∧ (∀ e ∈ es, e ∈ cs → e ∈ zbw cs ms) ∧
 ∀ (p : Addr) (H' : Hp), H p = none → Same H H' → H' p = some (.lst ((zdv es cs).map nV)) → Q (.ref p) H'
theorem zi7 (T : Txt K mg) (D_l_starts : DF K mg "_law_starts" zbr zb1) : FC P w K mg base 1 "_law_starts" zb1 (zgJ K) := by
 refine D_l_starts.ok sc_l_starts (fun vs H Q E h => ?_) (fun f cdv A outer s H vs Q E hr h => ?_)
 ·obtain ⟨a, c, m, ws, us, es, cs, ms, rfl, _⟩ := h
  rfl
 obtain ⟨a, c, m, ws, us, es, cs, ms, rfl, ha, hw, hz, hc, hu, hzc, hnd, hm, hml, hsub, q⟩ := h
 have hwl := hw.length
 have hul := hu.length
 refine ⟨_, (zae (zaw (i := 3) sc_l_starts.nd rfl (Or.inl rfl) zin)
   (zae (zaN PassesOwn.never rfl (za0 rfl T.m_range (zaa (zao zaq rfl T.m_len boot_len (zaa (pv 1) zad)) zad)) (zal (i := 4) sc_l_starts.nd rfl (Or.inl rfl)) (zai (zcq (zcW (zaK zaE (pv 2) (pv 4) (fun _ _ => rfl))) (zai (zd2 (zdW hr) (pv 3) (zaK zaE (pv 1) (pv 4) (fun _ _ => rfl)) (zau zbh (pv 4) zaf) rfl)) zaT)))
   (zae (zaw (i := 5) sc_l_starts.nd rfl (Or.inl rfl) (zbL (zaa zaf zad)))
   (zae (zaN PassesOwn.never rfl (zbg (pv 0)) (zal (i := 6) sc_l_starts.nd rfl (Or.inl rfl)) (zai (za3 (zc7 F.plainAttrs_list F.slot_list_append F.type_list_append zaD (pv 5) (zaa (ziq (zdW hr) (pv 3) (pv 6) (zaK zaE (pv 5) (zfA zdX zaf) (fun _ _ => rfl)) ⟨rfl, rfl, rfl, rfl⟩) zad)))))
   (zai (zaz (pv 5))))))), ?_⟩
 intro D hD
 have k0 : But D H (upd H D (.dT [])) := fun b o n e => by rw [zag n]; exact e
 have naD : a ≠ D := zab ha hD
 have ncD : c ≠ D := zab hc hD
 have nmD : m ≠ D := zab hm hD
 refine ⟨_, rfl, _, _, rfl, .inl (SqL.of (k0 _ _ ncD hc)), _, rfl, by omega, by omega, ?_⟩
 rw [Int.toNat_natCast]
 refine zbi (n := us.length) (fun i σ H2 => ∃ x4 : Option V, σ = [some (.ref a), some (.ref c), some (.ref m), some (.ref D), x4, none, none] ∧ H2 D = some (.dT (kvP 0 (cs.take i) (ms.take i))) ∧ But D H H2) ?_ ?_ ?_
 ·exact ⟨_, rfl, zac, k0⟩
 ·rintro i σ H2 hi ⟨x4, rfl, h2, k2⟩
  rw [Int.zero_add]
  have him : i < ms.length := by omega
  have hic : i < cs.length := by omega
  have h2m := k2 _ _ nmD hm
  have h2c := k2 _ _ ncD hc
  have htm : ms.take (i + 1) = ms.take i ++ [ms[i]] := List.take_succ_eq_append_getElem him
  have htc : cs.take (i + 1) = cs.take i ++ [cs[i]] := List.take_succ_eq_append_getElem hic
  have hsn := ziF cs[i] ms[i] 0 (cs.take i) (ms.take i) (by rw [List.length_take, List.length_take]; omega)
  rw [← htm, ← htc, List.length_take, Nat.min_eq_left (by omega), Nat.zero_add] at hsn
  have hatm : atI (ms.map V.bl) (i : Int) = some (.bl ms[i]) := zed (by rw [List.getElem?_map, List.getElem?_eq_getElem him]; rfl)
  refine ⟨_, rfl, _, rfl, _, _, _, _, rfl, rfl, SqL.of h2m, hatm, _, rfl, ?_⟩
  refine ite2 (fun z => ?_) (fun z => ?_)
  ·rw [if_pos z] at hsn
   obtain ⟨x, hx, hxh⟩ := hu.get' (List.getElem?_eq_getElem hic)
   obtain ⟨b, y1, y2, rfl, hb, hy1, hy2⟩ := (show hasP K H cs[i] x from hxh)
   have hy1 : y1 = .int cs[i].1 := hy1
   have hy2 : y2 = .int cs[i].2 := hy2
   subst hy1 hy2
   have h2b := k2 _ _ (zab hb hD) hb
   have hnot : cs[i] ∉ zbw (cs.take i) (ms.take i) := fun y => by
    have hn2 := hnd
    rw [← List.take_append_drop (i + 1) cs, htc] at hn2
    exact (List.nodup_append.mp (List.nodup_append.mp hn2).1).2.2 _ ((zdE _ _).mem y) _ (List.mem_singleton.mpr rfl) rfl
   have hnt : (cs.take i).Nodup := hnd.sublist (List.take_sublist _ _)
   have hpl := kvP_len 0 (cs.take i) (ms.take i)
   rw [List.length_take] at hpl
   refine ⟨_, rfl, _, _, rfl, rfl, _, rfl, _, rfl, _, rfl, _, _, _, _, rfl, rfl, SqL.of h2c, zed hx, D, _, rfl, DPut.t (k := kE cs[i]) h2 h2b (zam (by omega)), ?_⟩
   refine ⟨_, rfl, ?_, fun b o n e => by rw [zag n]; exact k2 b o n e⟩
   rw [zac, zdK _ (by rw [zhG _ _ _ _ hnt, if_neg hnot]), hsn]
   rfl
  ·rw [if_neg z, List.append_nil] at hsn
   exact ⟨_, rfl, by rw [h2, hsn], k2⟩
 ·rintro σ H2 ⟨x4, rfl, h2, k2⟩
  rw [List.take_of_length_le (by omega), List.take_of_length_le (by omega)] at h2
  refine ⟨(by show 1 ≤ sizeLine; decide), fun p hp => ?_⟩
  have nDp : D ≠ p := zab h2 hp
  have s2 : Same H H2 := fun b o e => k2 b o (zab e hD) e
  have k3 : But p H2 (upd H2 p (.lst [V.int 0])) := fun b o n e => by rw [zag n]; exact e
  have h2a := s2 _ _ ha
  refine ⟨_, rfl, a, rfl, ⟨_, SqL.of (k3 _ _ (zab h2a hp) h2a)⟩, ?_⟩
  refine zbD (xs := ws) (fun i σ H4 => ∃ x6 : Option V, σ = [some (.ref a), some (.ref c), some (.ref m), some (.ref D), x4, some (.ref p), x6] ∧ H4 p = some (.lst (((List.range (i + 1)).map fun p => stN cs (es.take p)).map nV)) ∧ But p H2 H4) ?_ ?_ ?_ ?_
  ·exact ⟨_, rfl, zac, k3⟩
  ·rintro i σ H4 _ ⟨x4, rfl, _, k4⟩
   exact SqL.of (k4 _ _ (zab h2a hp) h2a)
  ·rintro i x σ H4 hx ⟨x6, rfl, h4, k4⟩
   obtain ⟨e, he, hhas⟩ := hw.get hx
   obtain ⟨b, y1, y2, rfl, hb, hy1, hy2⟩ := (show hasP K H e x from hhas)
   have hy1 : y1 = .int e.1 := hy1
   have hy2 : y2 = .int e.2 := hy2
   subst hy1 hy2
   have h2b := s2 _ _ hb
   have h4b := k4 _ _ (zab h2b hp) h2b
   have h4D := k4 _ _ nDp h2
   have hi := (List.getElem?_eq_some_iff.mp he).1
   have hem := List.mem_of_getElem? he
   have htk : es.take (i + 1) = es.take i ++ [e] := by
    rw [List.take_succ_eq_append_getElem hi, (List.getElem?_eq_some_iff.mp he).2]
   have hon := zib cs (es.take i) e
   rw [← htk] at hon
   rw [zbC] at h4
   have hlen : ((((List.range i).map fun p => stN cs (es.take p)) ++ [stN cs (es.take i)]).map nV).length < sizeLine := zam (by
    rw [List.length_map, List.length_append, List.length_map, List.length_range, List.length_singleton]
    omega)
   refine ⟨_, rfl, .inl ⟨rfl, _, SqL.of h4⟩, ?_⟩
   refine ⟨_, rfl, D, rfl, .inr ⟨_, .inl h4D⟩, _, rfl, _, rfl, _, rfl, _, _, _, _, rfl, rfl, SqL.of h4, zfu, _, DGet.t (k := kE e) h4D h4b, ?_⟩
   have ev : (valV (kvP 0 cs ms) (kE e)).getD (nV (stN cs (es.take i))) = nV (stN cs (es.take (i + 1))) := by
    rw [zhG _ _ _ _ hnd, hon]
    by_cases z : e ∈ cs
    ·rw [if_pos z, if_pos (hsub e hem z), Nat.zero_add]
     rfl
    ·rw [if_neg z, if_neg fun y => z ((zdE _ _).mem y)]
     rfl
   rw [ev]
   refine ⟨_, _, _, rfl, rfl, h4, hlen, ?_⟩
   refine ⟨_, rfl, ?_, fun b o n e => by rw [zag n]; exact k4 b o n e⟩
   rw [zac, zbC, List.map_append (l₂ := [stN cs (es.take (i + 1))]), zbC]
   rfl
  ·rintro σ H4 ⟨x6, rfl, h4, k4⟩
   refine ⟨_, rfl, ?_⟩
   rw [← hwl] at h4
   refine q p H4 (s2.free hp) (s2.trans fun b o e => k4 b o (zab e hp) e) h4
def spLDue (K : PySem.W.Frag) : Sp := fun vs H Q _ => ∃ (t r : Addr) (ps : List Nat) (rows : List (List Int)) (as : List Addr), vs = [.ref t, .ref r] ∧ H t = some (.tup (zch ps)) ∧ H r = some (.tup (as.map V.ref)) ∧ za2 H as rows ∧ rows.length = ps.length + 1 ∧ zaL ps ∧ zbx rows ∧ ps.length ≤ 40 ∧ zd9 rows ≤ 400 ∧
 ∀ (p : Addr) (xs : List V) (H' : Hp), H p = none → Same H H' → H' p = some (.lst xs) → Paired (BrAt (fun _ => False) H' ps rows) (List.range (ps.length + 1)) xs → Q (.ref p) H'
theorem ok_ldue (T : Txt K mg) (D_l_due : DF K mg "_law_due" zdg zdO) (F_l_fulls : FC P w K mg base 3 "_law_fulls" zcz (zie K)) (F_l_children : FC P w K mg base 1 "_law_children" zbu (zc1 K)) (F_l_starts : FC P w K mg base 1 "_law_starts" zb1 (zgJ K)) (F_l_marks : FC P w K mg base 2 "_law_marks" zb2 (zfa K)) : FC P w K mg base 4 "_law_due" zdO (spLDue K) := by
 refine D_l_due.ok sc_l_due (fun vs H Q E h => ?_) (fun f cdv A outer s H vs Q E hr h => ?_)
 ·obtain ⟨t, r, ps, rows, as, rfl, _⟩ := h
  rfl
 obtain ⟨t, r, ps, rows, as, rfl, ht, hr0, hA, hlen, hT, hR, hfew, hkeys, q⟩ := h
 refine ⟨_, (zae (zaw (i := 2) sc_l_due.nd rfl (Or.inl rfl) (zaG F_l_fulls hr (zaa (pv 0) (zaa (pv 1) zad))))
   (zae (zaw (i := 3) sc_l_due.nd rfl (Or.inl rfl) (zbL zad))
   (zae (zaN PassesOwn.never rfl (za0 rfl T.m_range (zaa (zao zaq rfl T.m_len boot_len (zaa (pv 0) zad)) zad)) (zal (i := 4) sc_l_due.nd rfl (Or.inl rfl)) (zae (zaw (i := 5) sc_l_due.nd rfl (Or.inl rfl) (zbL (zaa zaf zad)))
   (zae (zaN PassesOwn.never rfl (zbg (zaK zaE (pv 2) (pv 4) (fun _ _ => rfl))) (zal (i := 6) sc_l_due.nd rfl (Or.inl rfl)) (zai (za3 (zc7 F.plainAttrs_list F.slot_list_append F.type_list_append zaD (pv 5) (zaa (zau zbh (zaK zaE (pv 5) (zfA zdX zaf) (fun _ _ => rfl)) (zcO call_int1 rfl T.m_int boot_int (zaa (pe_cmpR zd7 (zaK zbm (pv 6) zaf (fun _ _ => rfl)) (pv 4) (za8 _)) zad))) zad)))))
   (zae (zaw (i := 7) sc_l_due.nd rfl (Or.inl rfl) (zbL zad))
   (zae (zaN PassesOwn.never rfl (zbg (zaG F_l_children hr (zaa (pv 0) (zaa (pv 4) zad)))) (zal (i := 8) sc_l_due.nd rfl (Or.inl rfl)) (zai (za3 (zc7 F.plainAttrs_list F.slot_list_append F.type_list_append zaD (pv 7) (zaa (zca (zaa (pv 8) (zaa (zaG F_l_starts hr (zaa (zaK zaE (pv 2) (pv 4) (fun _ _ => rfl)) (zaa (zaK zaE (pv 2) (pv 8) (fun _ _ => rfl)) (zaa (zaG F_l_marks hr (zaa (zaK zaE (pv 2) (pv 8) (fun _ _ => rfl)) zad)) zad)))) zad))) zad)))))
   (zai (za3 (zc7 F.plainAttrs_list F.slot_list_append F.type_list_append zaD (pv 3) (zaa (zca (zaa (zao zaq rfl T.m_len boot_len (zaa (zaK zaE (pv 2) (pv 4) (fun _ _ => rfl)) zad)) (zaa (pv 5) (zaa (pv 7) zad)))) zad)))))))))
   (zai (zaz (pv 3)))))), ?_⟩
 refine ⟨_, rfl, _, rfl, t, r, ps, rows, as, rfl, ht, hr0, hA, hlen, hT, hR, hfew, hkeys, fun pf qs H1 hpf s1 F1 hqs => ?_⟩
 refine ⟨(by show 0 ≤ sizeLine; decide), fun p hp => ?_⟩
 have k0 : But p H1 (upd H1 p (.lst [])) := fun b o n e => by rw [zag n]; exact e
 have h1t := s1 _ _ ht
 have noP : ∀ {b : Addr} {o : HO}, H1 b = some o → b ≠ p := fun e => zab e hp
 have el : ((((zch ps).length : Nat) : Int)).toNat = ps.length + 1 := by rw [zap, Int.toNat_natCast]
 have hfull : ∀ {j : Nat}, j < ps.length + 1 → (zar ps rows j).length ≤ 400 := fun hj => Nat.le_trans (zdp hT hlen hj) hkeys
 refine ⟨_, rfl, _, _, rfl, .inr (SqT.of (k0 _ _ (noP h1t) h1t)), _, rfl, by omega, by rw [zap]; omega, ?_⟩
 rw [el]
 refine zbi (n := ps.length + 1) (fun i σ H2 => ∃ (xs : List V) (x4 x5 x6 x7 x8 : Option V), σ = [some (.ref t), some (.ref r), some (.ref pf), some (.ref p), x4, x5, x6, x7, x8] ∧ H2 p = some (.lst xs) ∧ Paired (BrAt (fun a => a = p) H2 ps rows) (List.range i) xs ∧ But p H1 H2) ?_ ?_ ?_
 ·exact ⟨[], _, _, _, _, _, rfl, zac, .nil, k0⟩
 ·rintro i σ H2 hi ⟨xs, x4, x5, x6, x7, x8, rfl, h2, hB, k2⟩
  rw [Int.zero_add]
  have hxl : xs.length = i := by
   have := Paired.length hB
   rw [List.length_range] at this
   exact this.symm
  have s12 : Same H1 H2 := fun b o e => k2 b o (noP e) e
  have F2 := F1.ext s12.ext
  obtain ⟨qi, ws, hq0, hq1, hq2⟩ := F2.at hi
  have hwl := hq2.length
  have hfi := hfull hi
  refine ⟨(by show 1 ≤ sizeLine; decide), fun o ho => ?_⟩
  have ko : But o H2 (upd H2 o (.lst [V.int 0])) := fun b x n e => by rw [zag n]; exact e
  have noO : ∀ {b : Addr} {x : HO}, H2 b = some x → b ≠ o := fun e => zab e ho
  refine ⟨_, rfl, _, rfl, _, _, _, _, rfl, rfl, SqL.of (ko _ _ (noO F2.at_) F2.at_), zcY hq0, qi, rfl, ⟨_, SqL.of (ko _ _ (noO hq1) hq1)⟩, ?_⟩
  refine zbD (xs := ws) (fun m σ H3 => ∃ x6 : Option V, σ = [some (.ref t), some (.ref r), some (.ref pf), some (.ref p), some (.int i), some (.ref o), x6, x7, x8] ∧ H3 o = some (.lst (((List.range (m + 1)).map fun p => zdj i ((zar ps rows i).take p)).map nV)) ∧ But o H2 H3) ?_ ?_ ?_ ?_
  ·exact ⟨_, rfl, zac, ko⟩
  ·rintro m σ H3 _ ⟨x6, rfl, _, k3⟩
   exact SqL.of (k3 _ _ (noO hq1) hq1)
  ·rintro m x σ H3 hx ⟨x6, rfl, h3, k3⟩
   obtain ⟨e, he, hhas⟩ := hq2.get hx
   obtain ⟨b, y1, y2, rfl, hb, hy1, hy2⟩ := (show hasP K H2 e x from hhas)
   have hy1 : y1 = .int e.1 := hy1
   have hy2 : y2 = .int e.2 := hy2
   subst hy1 hy2
   have h3b := k3 _ _ (noO hb) hb
   have hmi := (List.getElem?_eq_some_iff.mp he).1
   have htk : (zar ps rows i).take (m + 1) = (zar ps rows i).take m ++ [e] := by
    rw [List.take_succ_eq_append_getElem hmi, (List.getElem?_eq_some_iff.mp he).2]
   have hon := zfO i ((zar ps rows i).take m) e
   rw [← htk] at hon
   rw [zbC] at h3
   have hl3 : ((((List.range m).map fun p => zdj i ((zar ps rows i).take p)) ++ [zdj i ((zar ps rows i).take m)]).map nV).length < sizeLine := zam (by
    rw [List.length_map, List.length_append, List.length_map, List.length_range, List.length_singleton]
    omega)
   refine ⟨_, rfl, .inl ⟨rfl, _, SqL.of h3⟩, _, rfl, _, rfl, _, _, _, _, rfl, rfl, SqL.of h3, zfu, ?_⟩
   refine ⟨_, rfl, _, _, _, _, rfl, rfl, SqT.of h3b, rfl, _, rfl, rfl, .inr ⟨_, rfl, ?_⟩⟩
   have ev : (zdj i ((zar ps rows i).take m) : Int) + (if decide (V.int e.2 = V.int (i : Int)) = true then 1 else 0) = ((zdj i ((zar ps rows i).take (m + 1)) : Nat) : Int) := by
    rw [hon]
    by_cases z : e.2 = (i : Int)
    ·rw [if_pos z, if_pos (decide_eq_true (by rw [z]))]
     omega
    ·rw [if_neg z, if_neg (by rw [decide_eq_false (fun y => z (V.int.inj y))]; decide)]
     omega
   refine ⟨_, _, rfl, rfl, ?_⟩
   refine ⟨_, _, _, rfl, rfl, h3, hl3, ?_⟩
   refine ⟨_, rfl, ?_, fun b x n e => by rw [zag n]; exact k3 b x n e⟩
   rw [zac, zbC, List.map_append (l₂ := [zdj i ((zar ps rows i).take (m + 1))]), zbC]
   exact congrArg (fun v => some (HO.lst (_ ++ [v]))) (congrArg V.int ev)
  rintro σ H3 ⟨x6, rfl, h3, k3⟩
  rw [← hwl] at h3
  have s23 : Same H2 H3 := fun b x e => k3 b x (noO e) e
  have hop : o ≠ p := Ne.symm (noO h2)
  refine ⟨(by show 0 ≤ sizeLine; decide), fun J hJ => ?_⟩
  have sJ := zak hJ (.lst [])
  have hJJ : upd H3 J (.lst []) J = some (.lst []) := zac
  have hJp : J ≠ p := Ne.symm (zab (s23 _ _ h2) hJ)
  have s24 : Same H2 (upd H3 J (.lst [])) := s23.trans sJ
  have h4o := sJ _ _ h3
  clear sJ
  generalize upd H3 J (.lst []) = H4 at hJJ s24 h4o ⊢
  have s14 := s12.trans s24
  refine ⟨_, rfl, _, rfl, t, ps, i, rfl, s14 _ _ h1t, by omega, fun c H5 hc s5 h5 => ⟨c, rfl, ⟨_, SqL.of h5⟩, ?_⟩⟩
  have s25 := s24.trans s5
  have h5J := s5 _ _ hJJ
  have noJ : ∀ {b : Addr} {x : HO}, H2 b = some x → b ≠ J := fun e z => by
   subst z
   have := s23 _ _ e
   rw [hJ] at this
   cases this
  have hcJ : c ≠ J := Ne.symm (zab hJJ hc)
  have hoJ : o ≠ J := fun z => by
   rw [← z, h3] at hJ
   cases hJ
  refine zbD (xs := (zaM ps i (ps.length + 1)).map nV) (fun m σ H6 => ∃ (ys : List V) (x8 : Option V), σ = [some (.ref t), some (.ref r), some (.ref pf), some (.ref p), some (.int i), some (.ref o), x6, some (.ref J), x8] ∧ H6 J = some (.lst ys) ∧ Paired (zaR (fun a => a = J ∨ a = p) H6 (zar ps rows i) ps rows) ((zaM ps i (ps.length + 1)).take m) ys ∧ But J H5 H6) ?_ ?_ ?_ ?_
  ·exact ⟨[], _, rfl, h5J, .nil, fun b x n e => e⟩
  ·rintro m σ H6 _ ⟨ys, x8, rfl, _, _, k6⟩
   exact SqL.of (k6 _ _ hcJ h5)
  ·rintro m x σ H6 hx ⟨ys, x8, rfl, h6, hP, k6⟩
   obtain ⟨hmi, rfl⟩ := zfU hx
   have hcl := zcH ps i (ps.length + 1)
   have hyl := Paired.length hP
   rw [List.length_take] at hyl
   have hcm : (zaM ps i (ps.length + 1))[m]? = some ((zaM ps i (ps.length + 1)).getD m 0) := by
    rw [List.getD_eq_getElem?_getD, List.getElem?_eq_getElem hmi]
    rfl
   have htk2 : (zaM ps i (ps.length + 1)).take (m + 1) = (zaM ps i (ps.length + 1)).take m ++ [(zaM ps i (ps.length + 1)).getD m 0] := by
    rw [List.take_succ_eq_append_getElem hmi, List.getD_eq_getElem?_getD, List.getElem?_eq_getElem hmi]
    rfl
   rw [htk2]
   generalize (zaM ps i (ps.length + 1)).getD m 0 = ch at hcm ⊢
   obtain ⟨hchn, hchp⟩ := zaC.mp (List.mem_of_getElem? hcm)
   have s26 : Same H2 H6 := fun b x e => k6 b x (noJ e) (s25 _ _ e)
   have F6 := F2.ext s26.ext
   obtain ⟨qc, wc, hc0, hc1, hc2⟩ := F6.at hchn
   have hfc := hfull hchn
   refine ⟨_, rfl, .inl ⟨rfl, _, SqL.of h6⟩, _, rfl, ?_⟩
   refine ⟨_, rfl, _, rfl, _, _, _, _, rfl, rfl, SqL.of F6.at_, zcY hq0, ?_⟩
   refine ⟨_, rfl, _, rfl, _, _, _, _, rfl, rfl, SqL.of F6.at_, zcY hc0, ?_⟩
   refine ⟨_, rfl, _, rfl, _, _, _, _, rfl, rfl, SqL.of F6.at_, zcY hc0, ?_⟩
   refine ⟨qc, wc, zar ps rows ch, rfl, hc1, hc2, by omega, zfk hT hR (by omega) hchn, zdQ hT hR hchn, fun pm H7 hpm s7 h7 => ?_⟩
   have s27 := s26.trans s7
   refine ⟨qi, qc, pm, ws, wc, zar ps rows i, zar ps rows ch, zbM (zar ps rows ch), rfl, s27 _ _ hq1, hq2.mono s27.ext, by omega, s7 _ _ hc1, hc2.mono s7.ext, by omega, zeb hT hR hchn, h7, zdl _, fun e he hc => (come_mem hT hR hi hchp).mp ⟨he, hc⟩, fun sa H8 hsa s8 h8 => ?_⟩
   have s68 := s7.trans s8
   refine ⟨(by show 2 ≤ sizeLine; decide), fun j hj => ?_⟩
   have sj := zak hj (.tup [.int (ch : Int), .ref sa])
   have hjj : upd H8 j (.tup [.int (ch : Int), .ref sa]) j = some (.tup [.int (ch : Int), .ref sa]) := zac
   generalize upd H8 j (.tup [.int (ch : Int), .ref sa]) = H9 at sj hjj ⊢
   have s69 := s68.trans sj
   have h9J := s69 _ _ h6
   have nsaJ : sa ≠ J := Ne.symm (zab (s7 _ _ h6) hsa)
   have nsap : sa ≠ p := Ne.symm (zab (s27 _ _ h2) hsa)
   have kJ : But J H9 (upd H9 J (.lst (ys ++ [.ref j]))) := fun b o n e => by rw [zag n]; exact e
   refine ⟨_, _, _, rfl, rfl, h9J, zam (by omega), ?_⟩
   refine ⟨ys ++ [.ref j], _, rfl, zac, ?_, fun b o n e => by rw [zag n]; exact s69 _ _ (k6 b o n e)⟩
   refine zcP (zax (fun a b h => zaR.but kJ (.inl rfl) h9J (zaR.same s69 h)) hP) ?_
   exact zaR.but kJ (.inl rfl) h9J ⟨j, sa, rfl, fun z => z.elim nsaJ nsap, hjj, sj _ _ h8⟩
  rintro σ H6 ⟨ys, x8, rfl, h6, hP, k6⟩
  rw [List.length_map, List.take_of_length_le (Nat.le_refl _)] at hP
  have s26 : Same H2 H6 := fun b x e => k6 b x (noJ e) (s25 _ _ e)
  have h6o := k6 _ _ hoJ (s5 _ _ h4o)
  have F6 := F2.ext s26.ext
  refine ⟨_, rfl, .inl ⟨rfl, _, SqL.of (s26 _ _ h2)⟩, _, rfl, _, rfl, _, _, _, _, rfl, rfl, SqL.of F6.at_, zcY hq0, _, _, rfl, .inl (SqL.of (s26 _ _ hq1)), ?_⟩
  refine ⟨_, rfl, _, rfl, (by show 3 ≤ sizeLine; decide), fun b hb => ?_⟩
  have sb := zak hb (.tup [.int ((ws.length : Nat) : Int), .ref o, .ref J])
  have hbb : upd H6 b (.tup [.int ((ws.length : Nat) : Int), .ref o, .ref J]) b = some (.tup [.int ((ws.length : Nat) : Int), .ref o, .ref J]) := zac
  generalize upd H6 b (.tup [.int ((ws.length : Nat) : Int), .ref o, .ref J]) = H7 at sb hbb ⊢
  have s27 := s26.trans sb
  have h7p := s27 _ _ h2
  have kp : But p H7 (upd H7 p (.lst (xs ++ [.ref b]))) := fun b o n e => by rw [zag n]; exact e
  refine ⟨_, _, _, rfl, rfl, h7p, zam (by omega), ?_⟩
  refine ⟨xs ++ [.ref b], _, _, _, _, _, rfl, zac, ?_, fun b o n e => by rw [zag n]; exact s27 _ _ (k2 b o n e)⟩
  rw [List.range_succ]
  refine zcP (zax (fun a b h => BrAt.but (Av := fun a => a = p) kp rfl h7p (BrAt.same s27 h)) hB) ?_
  refine BrAt.but (Av := fun a => a = p) kp rfl h7p ⟨b, o, J, ys, rfl, hop, hJp, ?_, sb _ _ h6o, sb _ _ h6, ?_⟩
  ·rw [hbb, hwl]
  ·exact zax (fun a b h => zaR.same sb (zaR.less (fun a z => .inr z) h)) hP
 rintro σ H2 ⟨xs, x4, x5, x6, x7, x8, rfl, h2, hB, k2⟩
 refine ⟨_, rfl, ?_⟩
 exact q p xs H2 (s1.free hp) (s1.trans fun b o e => k2 b o (noP e) e) h2 (zax (fun a b => BrAt.less fun a z => z.elim) hB)
theorem zfh (l : List Nat) : l.map nV = (l.map Int.ofNat).map V.int := by
 rw [List.map_map]
 rfl
abbrev BrT := Tri Int (List Int) (List (Int × List Int))
def jmD (ps : List Nat) (rows : List (List Int)) (k c : Nat) : Int × List Int := ((c : Int), (zdv (zar ps rows k) (zar ps rows c)).map Int.ofNat)
def brD (ps : List Nat) (rows : List (List Int)) (k : Nat) : BrT := ⟨((zar ps rows k).length : Nat), (zhw k (zar ps rows k)).map Int.ofNat, (zaM ps k (ps.length + 1)).map (jmD ps rows k)⟩
theorem zg3 {K : PySem.W.Frag} {Av : Addr → Prop} {H : Hp} {ps : List Nat} {rows : List (List Int)} {k : Nat} : ∀ {cs : List Nat} {xs : List V}, Paired (zaR Av H (zar ps rows k) ps rows) cs xs → zaj K H (cs.map (jmD ps rows k)) xs
 | _, _, .nil => .nil
 | c :: _, _, .cons h t => by
  obtain ⟨j, s, rfl, _, h3, h4⟩ := h
  rw [zfh] at h4
  exact .cons ⟨j, .int (c : Int), .ref s, rfl, h3, rfl, ⟨s, _, rfl, SqL.of h4, zaj.ints⟩⟩ (zg3 t)
theorem br_has {K : PySem.W.Frag} {Av : Addr → Prop} {H : Hp} {ps : List Nat} {rows : List (List Int)} : ∀ {js : List Nat} {xs : List V}, Paired (BrAt Av H ps rows) js xs → zaj K H (js.map (brD ps rows)) xs
 | _, _, .nil => .nil
 | k :: _, _, .cons h t => by
  obtain ⟨b, o, j, ys, rfl, _, _, h4, h5, h6, h7⟩ := h
  rw [zfh] at h5
  exact .cons ⟨b, _, _, _, rfl, h4, rfl, ⟨o, _, rfl, SqL.of h5, zaj.ints⟩, ⟨j, ys, rfl, SqL.of h6, zg3 h7⟩⟩ (br_has t)
def spNums (K : PySem.W.Frag) : Sp := fun vs H Q _ => ∃ (a : Addr) (ns : List Int), vs = [.ref a] ∧ H a = some (.lst (ns.map V.int)) ∧ ns.length ≤ 900 ∧ ∀ H', Same H H' → Q (.bl true) H'
theorem all_true (n : Nat) : (List.replicate n true).all id = true := by
 induction n with
 | zero => rfl
 | succ n ih =>
  rw [List.replicate_succ, List.all_cons, ih]
  rfl
theorem ok_nums (T : Txt K mg) (D_l_numbers : DF K mg "_law_numbers" zba zbH) : FC P w K mg base 1 "_law_numbers" zbH (spNums K) := by
 refine D_l_numbers.ok sc_l_numbers (fun vs H Q E h => ?_) (fun f cdv A outer s H vs Q E hr h => ?_)
 ·obtain ⟨a, ns, rfl, _⟩ := h
  rfl
 obtain ⟨a, ns, rfl, ha, hz, q⟩ := h
 refine ⟨_, (zbk (zcq (zdw (zcW (zao zdU rfl T.m_isinstance boot_isinstance (zaa (pv 0) (zaa (zd5 (v := .ty "list") rfl T.m_list boot_list rfl) zad))))) (zai (zaz zd6)) zaT)
   (zai (zaz (zao (call_allB rfl) rfl T.m_all boot_all (zaa (zdh (N := ["_law_one"]) (own := 1) (cap := []) rfl (zbg (pv 0)) ⟨rfl, rfl, rfl, rfl, rfl, rfl⟩ (fun _ _ _ _ _ => (zal (i := 0) (show List.Nodup (["_law_one"] : List Str) by decide +kernel) rfl (Or.inl rfl))) (fun _ _ _ _ _ => zcM) (fun _ _ _ _ _ => (pe_and (zao (zhc (K := K)) rfl T.m_isinstance boot_isinstance (zaa (pv 0) (zaa (zd5 (v := .ty "int") rfl T.m_int boot_int rfl) zad))) (pe_one (pe_not (zao (zhc (K := K)) rfl T.m_isinstance boot_isinstance (zaa (pv 0) (zaa (zd5 (v := .ty "bool") rfl T.m_bool boot_bool rfl) zad)))))))) zad))))), ?_⟩
 refine ⟨fun σ' H' => σ' = [some (.ref a)] ∧ H = H', ?_, ?_⟩
 ·refine ⟨_, rfl, _, _, _, _, rfl, .lst ha, kit_ll, _, rfl, ?_⟩
  refine iteF ?_
  exact ⟨rfl, rfl⟩
 rintro σ' H' ⟨rfl, rfl⟩
 refine ⟨_, rfl, a, rfl, ⟨_, SqL.of ha⟩, fun D hD => ?_⟩
 refine zcS (xs := ns.map V.int) (fun i σ H2 => ∃ x0 : Option V, σ = [x0] ∧ H2 D = some (.lst ((List.replicate i true).map V.bl)) ∧ But D H H2) ?_ ?_ ?_ ?_
 ·exact ⟨_, rfl, zac, fun b o n e => by rw [zag n]; exact e⟩
 ·rintro i σ H2 _ ⟨x0, rfl, _, k2⟩
  exact SqL.of (k2 _ _ (zab ha hD) ha)
 ·rintro i m x σ H2 hx hm ⟨x0, rfl, h2, k2⟩
  rw [List.getElem?_map] at hx
  obtain ⟨y, hy, rfl⟩ := Option.map_eq_some_iff.mp hx
  have hi := (List.getElem?_eq_some_iff.mp hy).1
  rw [List.length_map] at hm
  refine zdC ?_
  refine ⟨_, rfl, _, _, _, _, rfl, .int _, kit_ii, _, rfl, ?_⟩
  refine iteT ?_
  refine ⟨_, rfl, _, _, _, _, rfl, .int _, kit_ib, _, rfl, ?_⟩
  refine ⟨_, h2, zam (by rw [List.length_map, List.length_replicate]; omega), m - 1, by omega, by rw [List.length_map]; omega, _, rfl, ?_, fun b o n e => by rw [zag n]; exact k2 b o n e⟩
  rw [zac, List.replicate_succ', List.map_append]
  rfl
 rintro σ H2 ⟨x0, rfl, h2, k2⟩
 refine ⟨D, _, rfl, SqL.of h2, ?_⟩
 rw [all_true]
 exact q H2 fun b o e => k2 b o (zab e hD) e
def zjJ (K : PySem.W.Frag) : Sp := fun vs H Q _ => ∃ (fp dp : Addr) (xs ys : List V) (ps : List Nat) (rows : List (List Int)) (Av Aw : Addr → Prop), vs = [.ref fp, .ref dp] ∧ H fp = some (.lst xs) ∧ Paired (BrAt Av H ps rows) (List.range (ps.length + 1)) xs ∧ H dp = some (.lst ys) ∧ Paired (BrAt Aw H ps rows) (List.range (ps.length + 1)) ys ∧ (∀ j, j < ps.length + 1 → (zar ps rows j).length ≤ 400) ∧ ∀ H', Same H H' → Q (.bl true) H'
theorem ok_right (T : Txt K mg) (D_l_right : DF K mg "_law_right" zbP zcx) (F_l_numbers : FC P w K mg base 1 "_law_numbers" zbH (spNums K)) : FC P w K mg base 2 "_law_right" zcx (zjJ K) := by
 refine D_l_right.ok sc_l_right (fun vs H Q E h => ?_) (fun f cdv A outer s H vs Q E hr h => ?_)
 ·obtain ⟨fp, dp, xs, ys, ps, rows, Av, Aw, rfl, _⟩ := h
  rfl
 obtain ⟨fp, dp, xs, ys, ps, rows, Av, Aw, rfl, hf, hX, hd, hY, hfull, q⟩ := h
 refine ⟨_, (zbk (zcq (PW.pt (zhs (zdw (zcW (zao zdU rfl T.m_isinstance boot_isinstance (zaa (pv 0) (zaa (zd5 (v := .ty "list") rfl T.m_list boot_list rfl) zad))))) (zij (zaI (op_neD (List (Tri Int (List Int) (List (Int × List Int)))) (huD hr)) (pv 0) (pv 1) (za8 _))))) (zai (zaz zd6)) zaT)
   (zae (zaN PassesOwn.never rfl (zbg (pv 0)) (zal (i := 2) sc_l_right.nd rfl (Or.inl rfl)) (zbk (zcq (PW.pt (zhs (zdw (zcW (zao zdU rfl T.m_isinstance boot_isinstance (zaa (pv 2) (zaa (zd5 (v := .ty "tuple") rfl T.m_tuple boot_tuple rfl) zad))))) (zhs (zaI op_ne (zao zaq rfl T.m_len boot_len (zaa (pv 2) zad)) zaf (za8 _)) (zhs (zdw (zcW (zaG F_l_numbers hr (zaa (zbL (zaa (zaK zbm (pv 2) zaf (fun _ _ => rfl)) zad)) zad)))) (zij (zdw (zcW (zaG F_l_numbers hr (zaa (zaK zbm (pv 2) zaf (fun _ _ => rfl)) zad))))))))) (zai (zaz zd6)) zaT)
   (zbk (zcq (zdw (zcW (zao zdU rfl T.m_isinstance boot_isinstance (zaa (zaK zbm (pv 2) zaf (fun _ _ => rfl)) (zaa (zd5 (v := .ty "list") rfl T.m_list boot_list rfl) zad))))) (zai (zaz zd6)) zaT)
   (zai (zaN PassesOwn.never rfl (zbg (zaK zbm (pv 2) zaf (fun _ _ => rfl))) (zal (i := 3) sc_l_right.nd rfl (Or.inl rfl)) (zai (zcq (PW.pt (zhs (zdw (zcW (zao zdU rfl T.m_isinstance boot_isinstance (zaa (pv 3) (zaa (zd5 (v := .ty "tuple") rfl T.m_tuple boot_tuple rfl) zad))))) (zhs (zdw (zcW (zaG F_l_numbers hr (zaa (zbL (zaa (zaK zbm (pv 3) zaf (fun _ _ => rfl)) zad)) zad)))) (zij (zdw (zcW (zaG F_l_numbers hr (zaa (zaK zbm (pv 3) zaf (fun _ _ => rfl)) zad)))))))) (zai (zaz zd6)) zaT)))))))
   (zai (zaz zd6)))), ?_⟩
 refine ⟨fun σ' H' => σ' = [some (.ref fp), some (.ref dp), none, none] ∧ H = H', ?_, ?_⟩
 ·refine ⟨_, rfl, _, _, _, _, rfl, .lst hf, kit_ll, _, rfl, ?_⟩
  refine iteF ?_
  have e1 := br_has (K := K) hX
  have e2 := br_has (K := K) hY
  generalize (List.range (ps.length + 1)).map (brD ps rows) = L at e1 e2
  refine ⟨_, rfl, _, rfl, L, L, ⟨fp, _, rfl, SqL.of hf, e1⟩, ⟨dp, _, rfl, SqL.of hd, e2⟩, _, rfl, ?_⟩
  refine iteNS rfl ?_
  exact ⟨rfl, rfl⟩
 rintro σ' H' ⟨rfl, rfl⟩
 refine ⟨_, rfl, fp, rfl, ⟨_, SqL.of hf⟩, ?_⟩
 refine zbD (xs := xs) (fun i σ H2 => ∃ x2 x3 : Option V, σ = [some (.ref fp), some (.ref dp), x2, x3] ∧ Same H H2) ?_ ?_ ?_ ?_
 ·exact ⟨_, _, rfl, fun b o e => e⟩
 ·rintro i σ H2 _ ⟨x2, x3, rfl, s2⟩
  exact SqL.of (s2 _ _ hf)
 ·rintro i x σ H2 hx ⟨x2, x3, rfl, s2⟩
  obtain ⟨k, hk, b, o, j, zs, rfl, _, _, hb, ho, hj, hJ⟩ := zdi hX hx
  have hkn : k < ps.length + 1 := by
   have := List.mem_of_getElem? hk
   exact List.mem_range.mp this
  have hfl := hfull k hkn
  rw [zfh] at ho
  have hol : ((zhw k (zar ps rows k)).map Int.ofNat).length ≤ 900 := by
   rw [List.length_map]
   unfold zhw
   rw [List.length_map, List.length_range]
   omega
  refine ⟨fun σ' H' => σ' = [some (.ref fp), some (.ref dp), some (.ref b), x3] ∧ Same H H', ?_, ?_⟩
  ·refine ⟨_, rfl, _, _, _, _, rfl, .tup (s2 _ _ hb), kit_tt, _, rfl, ?_⟩
   refine iteF ?_
   refine ⟨_, rfl, _, _, rfl, .inr (SqT.of (s2 _ _ hb)), rfl, _, rfl, ?_⟩
   refine iteNS rfl ?_
   refine ⟨_, rfl, _, _, _, _, rfl, rfl, SqT.of (s2 _ _ hb), rfl, (by show 1 ≤ sizeLine; decide), fun l hl => ?_⟩
   have sl := zak hl (.lst [.int ((zar ps rows k).length : Nat)])
   refine ⟨l, [((zar ps rows k).length : Nat)], rfl, zac, by simp, fun H3 s3 => ⟨_, rfl, ?_⟩⟩
   refine iteF ?_
   have s23 := s2.trans (sl.trans s3)
   refine ⟨_, rfl, _, _, _, _, rfl, rfl, SqT.of (s23 _ _ hb), rfl, o, _, rfl, s23 _ _ ho, hol, fun H4 s4 => ⟨_, rfl, ?_⟩⟩
   refine iteF ?_
   exact ⟨rfl, s23.trans s4⟩
  rintro σ' H3 ⟨rfl, s3⟩
  refine ⟨fun σ' H' => σ' = [some (.ref fp), some (.ref dp), some (.ref b), x3] ∧ H3 = H', ?_, ?_⟩
  ·refine ⟨_, rfl, _, _, _, _, rfl, rfl, SqT.of (s3 _ _ hb), rfl, _, _, _, _, rfl, .lst (s3 _ _ hj), kit_ll, _, rfl, ?_⟩
   refine iteF ?_
   exact ⟨rfl, rfl⟩
  rintro σ' H' ⟨rfl, rfl⟩
  refine ⟨_, rfl, _, _, _, _, rfl, rfl, SqT.of (s3 _ _ hb), rfl, j, rfl, ⟨_, SqL.of (s3 _ _ hj)⟩, ?_⟩
  refine zbD (xs := zs) (fun m σ H4 => ∃ x3 : Option V, σ = [some (.ref fp), some (.ref dp), some (.ref b), x3] ∧ Same H H4) ?_ ?_ ?_ ?_
  ·exact ⟨_, rfl, s3⟩
  ·rintro m σ H4 _ ⟨x3, rfl, s4⟩
   exact SqL.of (s4 _ _ hj)
  ·rintro m x σ H4 hx ⟨x3, rfl, s4⟩
   obtain ⟨c, hc, jt, sa, rfl, _, hjt, hsa⟩ := zdi hJ hx
   rw [zfh] at hsa
   have hsl : ((zdv (zar ps rows k) (zar ps rows c)).map Int.ofNat).length ≤ 900 := by
    rw [List.length_map]
    unfold zdv
    rw [List.length_map, List.length_range]
    omega
   refine ⟨_, rfl, _, _, _, _, rfl, .tup (s4 _ _ hjt), kit_tt, _, rfl, ?_⟩
   refine iteF ?_
   refine ⟨_, rfl, _, _, _, _, rfl, rfl, SqT.of (s4 _ _ hjt), rfl, (by show 1 ≤ sizeLine; decide), fun l hl => ?_⟩
   have sl := zak hl (.lst [.int (c : Int)])
   refine ⟨l, [(c : Int)], rfl, zac, by simp, fun H5 s5 => ⟨_, rfl, ?_⟩⟩
   refine iteF ?_
   have s45 := s4.trans (sl.trans s5)
   refine ⟨_, rfl, _, _, _, _, rfl, rfl, SqT.of (s45 _ _ hjt), rfl, sa, _, rfl, s45 _ _ hsa, hsl, fun H6 s6 => ⟨_, rfl, ?_⟩⟩
   refine iteF ?_
   exact ⟨_, rfl, s45.trans s6⟩
  rintro σ H4 ⟨x3, rfl, s4⟩
  exact ⟨_, _, rfl, s4⟩
 rintro σ H2 ⟨x2, x3, rfl, s2⟩
 exact q H2 s2
def zjH (K : PySem.W.Frag) : Sp := fun vs H Q _ => ∃ (d L : Addr) (m kk : Nat), vs = [.ref d, .int m, .int kk] ∧ 0 < m ∧ m ≤ 40 ∧ kk ≤ 10 ∧ LS K L d H ∧
 ∀ (st : Addr) (ps : List Nat) (rows : List (List Int)) (t rs : Addr) (as : List Addr) (H' : Hp), H st = none → ps.length < m → zbZ H' st ps rows t rs as → Keep d H H' → LS K L d H' → Q (.ref st) H'
theorem ok_lstand (T : Txt K mg) (D_l_stand : DF K mg "_law_stand" zbO zcw) (F_l_tree : FC P w K mg base 3 "_law_tree" zc4 (spTree K)) (F_l_rows : FC P w K mg base 5 "_law_rows" zcN (zjI K)) : FC P w K mg base 6 "_law_stand" zcw (zjH K) := by
 refine D_l_stand.ok sc_l_stand (fun vs H Q E h => ?_) (fun f cdv A outer s H vs Q E hr h => ?_)
 ·obtain ⟨d, L, m, kk, rfl, _⟩ := h
  rfl
 obtain ⟨d, L, m, kk, rfl, hm0, hm, hkk, hs, q⟩ := h
 refine ⟨_, (zae (zaw (i := 3) sc_l_stand.nd rfl (Or.inl rfl) (zaG F_l_tree hr (zaa (pv 0) (zaa (pv 1) zad))))
   (zai (zaz (zca (zaa (pv 3) (zaa (zaG F_l_rows hr (zaa (pv 0) (zaa (zao zaq rfl T.m_len boot_len (zaa (pv 3) zad)) (zaa (pv 2) zad)))) zad)))))), ?_⟩
 refine ⟨_, rfl, _, rfl, d, L, m, rfl, ⟨by omega, by omega⟩, hs, fun t ps H1 ht hT hl h1 k1 s1 => ?_⟩
 refine ⟨_, rfl, _, rfl, _, rfl, _, _, rfl, .inr (SqT.of h1), _, rfl, ?_⟩
 refine ⟨d, L, (zch ps).length, kk, rfl, by rw [zap]; omega, by omega, s1, fun r as rows H2 hr2 hA hrl hR hlen h2 k2 s2 => ?_⟩
 rw [zap] at hrl
 have ntd : t ≠ d := fun z => by
  obtain ⟨_, _, _, e, _⟩ := s1.ex
  rw [← z, h1] at e
  cases e
 refine ⟨(by show 2 ≤ sizeLine; decide), fun st hst => ?_⟩
 have ss := zak hst (.tup [.ref t, .ref r])
 have hk := zhH hlen
 have hk2 : rows.length * kk ≤ 40 * 10 := Nat.mul_le_mul (by omega) hkk
 have std : st ≠ d := fun z => by
  obtain ⟨_, _, _, e, _⟩ := s2.ex
  rw [← z, hst] at e
  cases e
 refine q st ps rows t r as _ ?_ (by omega) ⟨zac, ss _ _ (k2 _ _ ntd h1), ss _ _ h2, hA.ext ss, hrl, hT, hR, by omega, by omega⟩ (fun b o n e => ss _ _ (k2 _ _ n (k1 _ _ n e))) (s2.same ss)
 cases e : H st with
 | none => rfl
 | some o =>
  have := k2 _ _ std (k1 _ _ std e)
  rw [hst] at this
  cases this
structure MI (B : Hp) (pf : Addr) (xf : List V) (SS JJ : Addr → Prop) (lim : Nat) (H : Hp) : Prop where
 base : Same B H
 found : H pf = some (.lst xf)
 pfS : ¬ SS pf
 pfJ : ¬ JJ pf
 dis : ∀ a, SS a → ¬ JJ a
 il : ∀ a, SS a → B a = none ∧ ∃ ns : List Int, ns.length ≤ lim ∧ H a = some (.lst (ns.map V.int))
 jl : ∀ a, JJ a → B a = none ∧ ∃ xs : List V, xs.length ≤ lim ∧ H a = some (.lst xs) ∧ ∀ x ∈ xs, ∃ (b : Addr) (c : Int) (s : Addr), x = .ref b ∧ H b = some (.tup [.int c, .ref s]) ∧ SS s
 bs : ∀ x ∈ xf, ∃ (b : Addr) (n : Int) (o j : Addr), x = .ref b ∧ H b = some (.tup [.int n, .ref o, .ref j]) ∧ SS o ∧ JJ j
section
variable {B H H' : Hp} {pf : Addr} {xf : List V} {SS JJ : Addr → Prop} {lim lim' : Nat}
theorem MI.same (h : MI B pf xf SS JJ lim H) (e : Same H H') : MI B pf xf SS JJ lim H' where
 base := h.base.trans e
 found := e _ _ h.found
 pfS := h.pfS
 pfJ := h.pfJ
 dis := h.dis
 il := fun a ha => by
  obtain ⟨h1, ns, h2, h3⟩ := h.il a ha
  exact ⟨h1, ns, h2, e _ _ h3⟩
 jl := fun a ha => by
  obtain ⟨h1, xs, h2, h3, h4⟩ := h.jl a ha
  refine ⟨h1, xs, h2, e _ _ h3, fun x hx => ?_⟩
  obtain ⟨b, c, s, e1, e2, e3⟩ := h4 x hx
  exact ⟨b, c, s, e1, e _ _ e2, e3⟩
 bs := fun x hx => by
  obtain ⟨b, n, o, j, e1, e2, e3⟩ := h.bs x hx
  exact ⟨b, n, o, j, e1, e _ _ e2, e3⟩
theorem MI.more (h : MI B pf xf SS JJ lim H) (hl : lim ≤ lim') : MI B pf xf SS JJ lim' H where
 base := h.base
 found := h.found
 pfS := h.pfS
 pfJ := h.pfJ
 dis := h.dis
 il := fun a ha => by
  obtain ⟨h1, ns, h2, h3⟩ := h.il a ha
  exact ⟨h1, ns, by omega, h3⟩
 jl := fun a ha => by
  obtain ⟨h1, xs, h2, h3, h4⟩ := h.jl a ha
  exact ⟨h1, xs, by omega, h3, h4⟩
 bs := h.bs
theorem MI.ints (h : MI B pf xf SS JJ lim H) {a : Addr} {ns : List Int} (ha : SS a) (hn : ns.length ≤ lim) : MI B pf xf SS JJ lim (upd H a (.lst (ns.map V.int))) := by
 obtain ⟨hb, ms, _, hm⟩ := h.il a ha
 have keep : ∀ {b : Addr} {vs : List V}, H b = some (.tup vs) → upd H a (.lst (ns.map V.int)) b = some (.tup vs) := fun {b vs} e => by
  rw [zag (fun z => by rw [z, hm] at e; cases e)]
  exact e
 refine ⟨fun b o e => by rw [zag (zab e hb)]; exact h.base _ _ e, ?_, h.pfS, h.pfJ, h.dis, fun x hx => ?_, fun x hx => ?_, fun x hx => ?_⟩
 ·rw [zag (fun z => h.pfS (by rw [z]; exact ha))]
  exact h.found
 ·obtain ⟨h1, us, h2, h3⟩ := h.il x hx
  refine ⟨h1, ?_⟩
  by_cases c : x = a
  ·subst c
   exact ⟨ns, hn, zac⟩
  ·exact ⟨us, h2, by rw [zag c]; exact h3⟩
 ·obtain ⟨h1, xs, h2, h3, h4⟩ := h.jl x hx
  refine ⟨h1, xs, h2, ?_, fun y hy => ?_⟩
  ·rw [zag (fun z => h.dis a ha (by rw [← z]; exact hx))]
   exact h3
  ·obtain ⟨b, c, s, e1, e2, e3⟩ := h4 y hy
   exact ⟨b, c, s, e1, keep e2, e3⟩
 ·obtain ⟨b, n, o, j, e1, e2, e3⟩ := h.bs x hx
  exact ⟨b, n, o, j, e1, keep e2, e3⟩
theorem MI.grow (h : MI B pf xf SS JJ lim H) {u : Addr} (hu : H u = none) : MI B pf xf (fun a => SS a ∨ a = u) JJ lim (upd H u (.lst [])) := by
 have h' := h.same (zak hu (.lst []))
 have hb : B u = none := h.base.free hu
 refine ⟨h'.base, h'.found, ?_, h'.pfJ, ?_, ?_, ?_, ?_⟩
 ·rintro (z | z)
  ·exact h.pfS z
  ·have := h.found
   rw [z, hu] at this
   cases this
 ·rintro a (z | z) hj
  ·exact h.dis a z hj
  ·obtain ⟨_, xs, _, h3, _⟩ := h.jl a hj
   rw [z, hu] at h3
   cases h3
 ·rintro a (z | z)
  ·exact h'.il a z
  ·subst z
   exact ⟨hb, [], Nat.zero_le _, zac⟩
 ·intro a ha
  obtain ⟨h1, xs, h2, h3, h4⟩ := h'.jl a ha
  refine ⟨h1, xs, h2, h3, fun x hx => ?_⟩
  obtain ⟨b, c, s, e1, e2, e3⟩ := h4 x hx
  exact ⟨b, c, s, e1, e2, .inl e3⟩
 ·intro x hx
  obtain ⟨b, n, o, j, e1, e2, e3, e4⟩ := h'.bs x hx
  exact ⟨b, n, o, j, e1, e2, .inl e3, e4⟩
theorem MI.jump (h : MI B pf xf SS JJ lim H) {j b s : Addr} {c : Int} {xs : List V} (hj : JJ j) (hx : H j = some (.lst xs)) (hl : xs.length + 1 ≤ lim') (hlim : lim ≤ lim') (hb : H b = some (.tup [.int c, .ref s])) (hs : SS s) : MI B pf xf SS JJ lim' (upd H j (.lst (xs ++ [.ref b]))) := by
 have keep : ∀ {d : Addr} {vs : List V}, H d = some (.tup vs) → upd H j (.lst (xs ++ [.ref b])) d = some (.tup vs) := fun {d vs} e => by
  rw [zag (fun z => by rw [z, hx] at e; cases e)]
  exact e
 obtain ⟨hB, _, _, _, _⟩ := h.jl j hj
 refine ⟨fun b o e => by rw [zag (zab e hB)]; exact h.base _ _ e, ?_, h.pfS, h.pfJ, h.dis, fun x hx0 => ?_, fun x hx0 => ?_, fun x hx0 => ?_⟩
 ·rw [zag (fun z => h.pfJ (by rw [z]; exact hj))]
  exact h.found
 ·obtain ⟨h1, us, h2, h3⟩ := h.il x hx0
  exact ⟨h1, us, by omega, by rw [zag (fun z => h.dis x hx0 (by rw [z]; exact hj))]; exact h3⟩
 ·obtain ⟨h1, ys, h2, h3, h4⟩ := h.jl x hx0
  by_cases c0 : x = j
  ·subst c0
   rw [hx] at h3
   have := HO.lst.inj (Option.some.inj h3)
   subst this
   refine ⟨h1, _, ?_, zac, fun y hy => ?_⟩
   ·rw [List.length_append, List.length_singleton]
    exact hl
   ·rcases List.mem_append.mp hy with z | z
    ·obtain ⟨b', c', s', e1, e2, e3⟩ := h4 y z
     exact ⟨b', c', s', e1, keep e2, e3⟩
    ·rw [List.mem_singleton.mp z]
     exact ⟨b, c, s, rfl, keep hb, hs⟩
  ·refine ⟨h1, ys, by omega, by rw [zag c0]; exact h3, fun y hy => ?_⟩
   obtain ⟨b', c', s', e1, e2, e3⟩ := h4 y hy
   exact ⟨b', c', s', e1, keep e2, e3⟩
 ·obtain ⟨b', n, o, j', e1, e2, e3⟩ := h.bs x hx0
  exact ⟨b', n, o, j', e1, keep e2, e3⟩
def SS0 (B H : Hp) (a : Addr) : Prop := B a = none ∧ ∃ ns : List Nat, ns ≠ [] ∧ ns.length ≤ 401 ∧ H a = some (.lst (ns.map nV))
def JJ0 (B H : Hp) (a : Addr) : Prop := B a = none ∧ ∃ xs : List V, xs.length ≤ 401 ∧ H a = some (.lst xs) ∧ ∀ x ∈ xs, ∃ (b : Addr) (c : Int) (s : Addr), x = .ref b ∧ H b = some (.tup [.int c, .ref s]) ∧ SS0 B H s
theorem zg2 {Av : Addr → Prop} {es : List En} {ps : List Nat} {rows : List (List Int)} : ∀ {cs : List Nat} {xs : List V}, Paired (zaR Av H es ps rows) cs xs → ∀ x ∈ xs, ∃ c, zaR Av H es ps rows c x
 | _, _, .nil => fun x hx => nomatch hx
 | c :: _, _, .cons h t => fun x hx => by
  rcases List.mem_cons.mp hx with z | z
  ·exact ⟨c, z ▸ h⟩
  ·exact zg2 t x z
theorem MI.start {ps : List Nat} {rows : List (List Int)} (hs : Same B H) (hf : H pf = some (.lst xf)) (hP : Paired (BrAt (fun a => B a ≠ none) H ps rows) (List.range (ps.length + 1)) xf) (hfull : ∀ j, j < ps.length + 1 → (zar ps rows j).length ≤ 400) (hfew : ps.length ≤ 40) : MI B pf xf (SS0 B H) (JJ0 B H) 401 H := by
 have nn : ∀ {a : Addr}, ¬ (B a ≠ none) → B a = none := fun {a} h => by
  cases e : B a with
  | none => rfl
  | some o => exact absurd (by rw [e]; exact Option.some_ne_none _) h
 have bs : ∀ x ∈ xf, ∃ (b : Addr) (n : Int) (o j : Addr), x = .ref b ∧ H b = some (.tup [.int n, .ref o, .ref j]) ∧ SS0 B H o ∧ JJ0 B H j := fun x hx => by
  obtain ⟨i, hi, rfl⟩ := List.getElem_of_mem hx
  obtain ⟨k, hk, b, o, j, ys, e1, e2, e3, e4, e5, e6, e7⟩ := zdi hP (List.getElem?_eq_getElem hi)
  have hkn : k < ps.length + 1 := List.mem_range.mp (List.mem_of_getElem? hk)
  have hfl := hfull k hkn
  have hyl := Paired.length e7
  have hcl := zcH ps k (ps.length + 1)
  refine ⟨b, _, o, j, e1, e4, ⟨nn e2, _, ?_, ?_, e5⟩, nn e3, ys, by omega, e6, fun y hy => ?_⟩
  ·unfold zhw
   rw [List.range_succ, List.map_append]
   simp
  ·unfold zhw
   rw [List.length_map, List.length_range]
   omega
  ·obtain ⟨c, jt, s, f1, f2, f3, f4⟩ := zg2 e7 y hy
   refine ⟨jt, _, s, f1, f3, nn f2, _, ?_, ?_, f4⟩
   ·unfold zdv
    rw [List.range_succ, List.map_append]
    simp
   ·unfold zdv
    rw [List.length_map, List.length_range]
    omega
 have hne : ∃ x, x ∈ xf := by
  have hl := Paired.length hP
  rw [List.length_range] at hl
  exact ⟨xf[0]'(by omega), List.getElem_mem _⟩
 refine ⟨hs, hf, ?_, ?_, ?_, ?_, fun a ha => ha, bs⟩
 ·rintro ⟨_, ns, _, _, e⟩
  obtain ⟨x, hx⟩ := hne
  obtain ⟨b, _, _, _, rfl, _⟩ := bs x hx
  rw [hf] at e
  have := HO.lst.inj (Option.some.inj e)
  rw [this] at hx
  obtain ⟨n, _, z⟩ := List.mem_map.mp hx
  cases z
 ·rintro ⟨_, xs, _, e, hx2⟩
  obtain ⟨x, hx⟩ := hne
  obtain ⟨b, _, _, _, rfl, hb, _⟩ := bs x hx
  rw [hf] at e
  have := HO.lst.inj (Option.some.inj e)
  subst this
  obtain ⟨b', _, _, e1, e2, _⟩ := hx2 _ hx
  cases e1
  rw [hb] at e2
  cases e2
 ·rintro a ⟨_, ns, hns, _, e⟩ ⟨_, xs, _, e2, hx2⟩
  rw [e] at e2
  have := HO.lst.inj (Option.some.inj e2)
  subst this
  cases ns with
  | nil => exact hns rfl
  | cons n ns =>
   obtain ⟨_, _, _, z, _⟩ := hx2 (nV n) List.mem_cons_self
   cases z
 ·rintro a ⟨h1, ns, _, h2, h3⟩
  exact ⟨h1, ns.map Int.ofNat, by rw [List.length_map]; exact h2, by rw [h3, zfh]⟩
end
def optL (ps : List Nat) : List (Option Int) := none :: ps.map fun (p : Nat) => some (Int.ofNat p)
theorem zh8 {K : PySem.W.Frag} {H : Hp} (ps : List Nat) : zaj K H (optL ps) (zch ps) := by
 refine .cons rfl ?_
 induction ps with
 | nil => exact .nil
 | cons p ps ih => exact .cons rfl ih
theorem zgd {K : PySem.W.Frag} {H : Hp} : ∀ {as : List Addr} {rows : List (List Int)}, za2 H as rows → zaj K H (rows.map Tup.mk) (as.map V.ref)
 | _, _, .nil => .nil
 | _, _, .cons h t => .cons ⟨_, _, rfl, SqT.of h, zaj.ints⟩ (zgd t)
theorem zaR.ext {Av : Addr → Prop} {H H' : Hp} {es : List En} {ps : List Nat} {rows : List (List Int)} {c : Nat} {x : V} (e : Ext H H') (h : zaR Av H es ps rows c x) : zaR Av H' es ps rows c x := by
 obtain ⟨j, s, h1, h2, h3, h4⟩ := h
 exact ⟨j, s, h1, h2, e _ _ h3 (fun _ z => nomatch z), e _ _ h4 (fun _ z => nomatch z)⟩
theorem BrAt.ext {Av : Addr → Prop} {H H' : Hp} {ps : List Nat} {rows : List (List Int)} {k : Nat} {x : V} (e : Ext H H') (h : BrAt Av H ps rows k x) : BrAt Av H' ps rows k x := by
 obtain ⟨b, o, j, xs, h1, h2, h3, h4, h5, h6, h7⟩ := h
 exact ⟨b, o, j, xs, h1, h2, h3, e _ _ h4 (fun _ z => nomatch z), e _ _ h5 (fun _ z => nomatch z), e _ _ h6 (fun _ z => nomatch z), zax (fun a b => zaR.ext e) h7⟩
theorem ok_law (T : Txt K mg) (D_law : DF K mg "law" ze2 zfL) (F_l_begin : FC P w K mg base 1 "_law_begin" zcA (zjN K)) (F_l_stand : FC P w K mg base 6 "_law_stand" zcw (zjH K)) (F_l_due : FC P w K mg base 4 "_law_due" zdO (spLDue K)) (F_bridges : FC P w K mg base 9 "bridges" zcC (spBr K)) (F_l_right : FC P w K mg base 2 "_law_right" zcx (zjJ K)) (F_l_rows : FC P w K mg base 5 "_law_rows" zcN (zjI K)) : FC P w K mg base 10 "law" zfL (zjL K) := by
 refine D_law.ok sc_law (fun vs H Q E h => ?_) (fun f cdv A outer s H vs Q E hr h => ?_)
 ·obtain ⟨a, ns, rfl, _⟩ := h
  rfl
 obtain ⟨a, ns, rfl, hS, _, q⟩ := h
 refine ⟨_, (zae (zaw (i := 1) sc_law.nd rfl (Or.inl rfl) (zaG F_l_begin hr (zaa (pv 0) zad)))
   (zae (zeS (zaG F_l_stand hr (zaa (pv 1) (zaa zaf (zaa zaf zad)))) (zfe rfl (zbl (zal (i := 2) sc_law.nd rfl (Or.inl rfl)) (zbl (zal (i := 3) sc_law.nd rfl (Or.inl rfl)) zd3))))
   (zae (zaw (i := 4) sc_law.nd rfl (Or.inl rfl) (zaG F_l_due hr (zaa (pv 2) (zaa (pv 3) zad))))
   (zae (zaw (i := 5) sc_law.nd rfl (Or.inl rfl) (zca (zaa (pv 2) (zaa (pv 3) zad))))
   (zae (zaw (i := 6) sc_law.nd rfl (Or.inl rfl) (zaG F_bridges hr (zaa (pv 5) zad)))
   (zbk (zcq (zdw (zcW (zaG F_l_right hr (zaa (pv 6) (zaa (pv 4) zad))))) (zai (zaz zd6)) zaT)
   (zae (zaN PassesOwn.never rfl (zbg (pv 6)) (zal (i := 7) sc_law.nd rfl (Or.inl rfl)) (zae (za3 (zc7 F.plainAttrs_list F.slot_list_append F.type_list_append zaD (zaK zbm (pv 7) zaf (fun _ _ => rfl)) (zaa zaf zad)))
   (zae (zaN PassesOwn.never rfl (zbg (zaK zbm (pv 7) zaf (fun _ _ => rfl))) (zal (i := 8) sc_law.nd rfl (Or.inl rfl)) (zai (za3 (pe_bm0 F.plainAttrs_list F.slot_list_clear F.type_list_clear mt_clear (zaK zbm (pv 8) zaf (fun _ _ => rfl))))))
   (zai (za3 (zc7 F.plainAttrs_list F.slot_list_append F.type_list_append zaD (zaK zbm (pv 7) zaf (fun _ _ => rfl)) (zaa (zca (zaa zaf (zaa (zbL zad) zad))) zad)))))))
   (zae (za3 (zc7 F.plainAttrs_list F.slot_list_append F.type_list_append zaD (pv 6) (zaa pe_non zad)))
   (zae (zaw (i := 9) sc_law.nd rfl (Or.inl rfl) (zca (zaa (pv 2) (zaa (zaG F_l_rows hr (zaa (pv 1) (zaa (zao zaq rfl T.m_len boot_len (zaa (pv 2) zad)) (zaa zaf zad)))) zad))))
   (zae (zaN PassesOwn.never rfl (zbg (zbL (zaa (pv 9) (zaa (pv 5) (zaa (pv 9) zad))))) (zal (i := 7) sc_law.nd rfl (Or.inl rfl)) (zai (zcq (zdw (zcW (zaG F_l_right hr (zaa (zaG F_bridges hr (zaa (pv 7) zad)) (zaa (zaG F_l_due hr (zaa (zaK zbm (pv 7) zaf (fun _ _ => rfl)) (zaa (zaK zbm (pv 7) zaf (fun _ _ => rfl)) zad))) zad))))) (zai (zaz zd6)) zaT)))
   (zai (zaz (pe_and (zaG F_l_right hr (zaa (zaG F_bridges hr (zaa (pv 5) zad)) (zaa (pv 4) zad))) (pe_one (pe_cmpR (op_eqD (Tup (Option Int) × Tup (Tup Int)) (huD hr)) (pv 5) (zca (zaa (pv 2) (zaa (pv 3) zad))) (za8 _)))))))))))))))), ?_⟩
 refine ⟨_, rfl, a, ns, rfl, hS, fun d H1 _ g1 s1 => ?_⟩
 have ndT : ∀ {H' : Hp} {p : Addr} {o : List V}, LS K a d H' → H' p = some (.tup o) → p ≠ d := fun s hp z => by
  obtain ⟨_, _, _, e, _⟩ := s.ex
  rw [← z, hp] at e
  cases e
 have ndL : ∀ {H' : Hp} {p : Addr} {o : List V}, LS K a d H' → H' p = some (.lst o) → p ≠ d := fun s hp z => by
  obtain ⟨_, _, _, e, _⟩ := s.ex
  rw [← z, hp] at e
  cases e
 refine ⟨_, rfl, d, a, 8, 7, rfl, by decide, by decide, by decide, s1, fun st ps rows t rs as H2 hst hm S k2 s2 => ?_⟩
 refine ⟨st, _, rfl, SqT.of S.st, rfl, _, _, rfl, _, _, rfl, rfl, ?_⟩
 have hfew := S.few
 have hkeys := S.keys
 have hfull : ∀ j, j < ps.length + 1 → (zar ps rows j).length ≤ 400 := fun j hj => Nat.le_trans (zdp S.T S.len hj) hkeys
 refine ⟨_, rfl, _, rfl, t, rs, ps, rows, as, rfl, S.tr, S.rs, S.at_, S.len, S.T, S.R, hfew, hkeys, fun pd xd H3 hpd s3 h3 hPd => ?_⟩
 refine ⟨_, rfl, _, rfl, (by show 2 ≤ sizeLine; decide), fun st2 hst2 => ?_⟩
 have ss := s3.trans (zak hst2 (.tup [.ref t, .ref rs]))
 have S4 : zbZ (upd H3 st2 (.tup [.ref t, .ref rs])) st2 ps rows t rs as := ⟨zac, ss _ _ S.tr, ss _ _ S.rs, S.at_.ext ss, S.len, S.T, S.R, S.few, S.keys⟩
 have h4d := (zak hst2 (.tup [.ref t, .ref rs])) _ _ h3
 have P4d : Paired (BrAt (fun _ => False) (upd H3 st2 (.tup [.ref t, .ref rs])) ps rows) (List.range (ps.length + 1)) xd := zax (fun a b => BrAt.same (zak hst2 (.tup [.ref t, .ref rs]))) hPd
 have s4 := s2.same ss
 clear ss
 generalize upd H3 st2 (.tup [.ref t, .ref rs]) = H4 at S4 h4d P4d s4 ⊢
 refine ⟨_, rfl, st2, ps, rows, t, rs, as, rfl, S4, fun pf xf H5 hpf s5 h5 hB => ?_⟩
 refine ⟨fun σ' H' => σ' = [some (.ref a), some (.ref d), some (.ref t), some (.ref rs), some (.ref pd), some (.ref st2), some (.ref pf), none, none, none] ∧ Same H5 H', ?_, ?_⟩
 ·refine ⟨_, rfl, _, rfl, pf, pd, xf, xd, ps, rows, _, _, rfl, h5, hB, s5 _ _ h4d, zax (fun a b => BrAt.same s5) P4d, hfull, fun H6 s6 => ⟨_, rfl, ?_⟩⟩
  refine iteF ?_
  exact ⟨rfl, s6⟩
 rintro σ' H6 ⟨rfl, s6⟩
 have M6 := (MI.start s5 h5 hB hfull hfew).same s6
 have hxl := Paired.length hB
 rw [List.length_range] at hxl
 generalize SS0 H4 H5 = SS at M6
 generalize JJ0 H4 H5 = JJ at M6
 refine ⟨_, rfl, pf, rfl, ⟨_, SqL.of M6.found⟩, ?_⟩
 refine zbD (xs := xf) (fun i σ H7 => ∃ (SS : Addr → Prop) (x7 x8 : Option V), σ = [some (.ref a), some (.ref d), some (.ref t), some (.ref rs), some (.ref pd), some (.ref st2), some (.ref pf), x7, x8, none] ∧ MI H4 pf xf SS JJ (401 + 2 * i) H7) ?_ ?_ ?_ ?_
 ·exact ⟨SS, _, _, rfl, M6⟩
 ·rintro i σ H7 _ ⟨SS, x7, x8, rfl, M7⟩
  exact SqL.of M7.found
 ·rintro i x σ H7 hx ⟨SS, x7, x8, rfl, M7⟩
  have hi := (List.getElem?_eq_some_iff.mp hx).1
  obtain ⟨b, n, o, j, rfl, hb, hSo, hJj⟩ := M7.bs x (List.mem_of_getElem? hx)
  obtain ⟨_, os, hol, ho⟩ := M7.il o hSo
  refine ⟨_, rfl, _, _, _, _, rfl, rfl, SqT.of hb, rfl, .inl ⟨rfl, _, SqL.of ho⟩, _, _, _, rfl, rfl, ho, zam (by rw [List.length_map]; omega), ?_⟩
  have M8 := (M7.more (lim' := 401 + 2 * i + 1) (by omega)).ints (ns := os ++ [0]) hSo (by rw [List.length_append, List.length_singleton]; omega)
  have e8 : (os ++ [(0 : Int)]).map V.int = os.map V.int ++ [V.int 0] := by rw [List.map_append]; rfl
  rw [e8] at M8
  have hb8 : upd H7 o (.lst (os.map V.int ++ [V.int 0])) b = some (.tup [.int n, .ref o, .ref j]) := by
   rw [zag (fun z => by rw [z, ho] at hb; cases hb)]
   exact hb
  generalize upd H7 o (.lst (os.map V.int ++ [V.int 0])) = H8 at M8 hb8 ⊢
  obtain ⟨hBj, js, hjl, hj, hjx⟩ := M8.jl j hJj
  refine ⟨_, rfl, _, _, _, _, rfl, rfl, SqT.of hb8, rfl, j, rfl, ⟨_, SqL.of hj⟩, ?_⟩
  refine zbD (xs := js) (fun m σ H9 => ∃ x8 : Option V, σ = [some (.ref a), some (.ref d), some (.ref t), some (.ref rs), some (.ref pd), some (.ref st2), some (.ref pf), some (.ref b), x8, none] ∧ MI H4 pf xf SS JJ (401 + 2 * i + 1) H9 ∧ H9 j = some (.lst js) ∧ (∀ c vs, H8 c = some (.tup vs) → H9 c = some (.tup vs))) ?_ ?_ ?_ ?_
  ·exact ⟨_, rfl, M8, hj, fun c vs e => e⟩
  ·rintro m σ H9 _ ⟨x8, rfl, _, h9, _⟩
   exact SqL.of h9
  ·rintro m x σ H9 hx ⟨x8, rfl, M9, h9, k9⟩
   obtain ⟨b2, c2, s2', rfl, hb2, hs2⟩ := hjx x (List.mem_of_getElem? hx)
   obtain ⟨_, us, hul, hu⟩ := M9.il s2' hs2
   refine ⟨_, rfl, _, _, _, _, rfl, rfl, SqT.of (k9 _ _ hb2), rfl, .inl ⟨rfl, _, SqL.of hu⟩, s2', _, rfl, rfl, hu, ?_⟩
   refine ⟨_, rfl, M9.ints (ns := []) hs2 (Nat.zero_le _), ?_, fun c vs e => ?_⟩
   ·rw [zag (fun z => M9.dis s2' hs2 (by rw [← z]; exact hJj))]
    exact h9
   ·have e9 := k9 c vs e
    rw [zag (fun z => by rw [z, hu] at e9; cases e9)]
    exact e9
  rintro σ H9 ⟨x8, rfl, M9, h9, k9⟩
  refine ⟨_, rfl, _, _, _, _, rfl, rfl, SqT.of (k9 _ _ hb8), rfl, .inl ⟨rfl, _, SqL.of h9⟩, (by show 0 ≤ sizeLine; decide), fun u hu => ?_⟩
  have M10 := M9.grow hu
  have h10 : upd H9 u (.lst []) j = some (.lst js) := (zak hu (.lst [])) _ _ h9
  generalize upd H9 u (.lst []) = H10 at M10 h10 ⊢
  refine ⟨(by show 2 ≤ sizeLine; decide), fun v hv => ?_⟩
  have sv := zak hv (.tup [.int 0, .ref u])
  have M11 := M10.same sv
  have h11 := sv _ _ h10
  have hvv : upd H10 v (.tup [.int 0, .ref u]) v = some (.tup [.int 0, .ref u]) := zac
  generalize upd H10 v (.tup [.int 0, .ref u]) = H11 at M11 h11 hvv ⊢
  refine ⟨_, _, _, rfl, rfl, h11, zam (by omega), ?_⟩
  exact ⟨_, _, _, rfl, M11.jump (lim' := 401 + 2 * (i + 1)) hJj h11 (by omega) (by omega) hvv (.inr rfl)⟩
 rintro σ H7 ⟨SS, x7, x8, rfl, M7⟩
 refine ⟨_, rfl, .inl ⟨rfl, _, SqL.of M7.found⟩, _, _, _, rfl, rfl, M7.found, zam (by omega), ?_⟩
 have s48 : Same H4 (upd H7 pf (.lst (xf ++ [.non]))) := fun b o e => by
  rw [zag (zab e hpf)]
  exact M7.base _ _ e
 generalize upd H7 pf (.lst (xf ++ [.non])) = H8 at s48 ⊢
 have S8 := S4.same s48
 have h8d := s48 _ _ h4d
 have P8d : Paired (BrAt (fun _ => False) H8 ps rows) (List.range (ps.length + 1)) xd := zax (fun a b => BrAt.same s48) P4d
 have s8 := s4.same s48
 refine ⟨_, rfl, _, rfl, _, rfl, _, _, rfl, .inr (SqT.of S8.tr), ?_⟩
 refine ⟨d, a, (zch ps).length, 7, rfl, by rw [zap]; omega, by omega, s8, fun r2 as2 rows2 H9 hr2 A2 hl2 R2 f2 h9 k9 s9 => ?_⟩
 rw [zap] at hl2
 have x89 := s8.ext k9
 have w2 := zhH f2
 have hkeys2 : zd9 rows2 ≤ 400 := by omega
 have hfull2 : ∀ j, j < ps.length + 1 → (zar ps rows2 j).length ≤ 400 := fun j hj => Nat.le_trans (zdp S.T hl2 hj) hkeys2
 have S9 : zbZ H9 st2 ps rows t rs as := ⟨k9 _ _ (ndT s8 S8.st) S8.st, k9 _ _ (ndT s8 S8.tr) S8.tr, k9 _ _ (ndT s8 S8.rs) S8.rs, za2.keep (p := d) (fun a row e => ndT s8 e) k9 S8.at_, S8.len, S8.T, S8.R, S8.few, S8.keys⟩
 have h9d := k9 _ _ (ndL s8 h8d) h8d
 have P9d : Paired (BrAt (fun _ => False) H9 ps rows) (List.range (ps.length + 1)) xd := zax (fun a b => BrAt.ext x89) P8d
 refine ⟨(by show 2 ≤ sizeLine; decide), fun be hbe => ?_⟩
 have sb := zak hbe (.tup [.ref t, .ref r2])
 have T10 : zbZ (upd H9 be (.tup [.ref t, .ref r2])) be ps rows2 t r2 as2 := ⟨zac, sb _ _ S9.tr, sb _ _ h9, A2.ext sb, hl2, S.T, R2, S.few, hkeys2⟩
 have S10 := S9.same sb
 have h10d := sb _ _ h9d
 have P10d : Paired (BrAt (fun _ => False) (upd H9 be (.tup [.ref t, .ref r2])) ps rows) (List.range (ps.length + 1)) xd := zax (fun a b => BrAt.same sb) P9d
 clear sb
 generalize upd H9 be (.tup [.ref t, .ref r2]) = H10 at T10 S10 h10d P10d ⊢
 refine ⟨_, rfl, _, rfl, _, rfl, (by show 3 ≤ sizeLine; decide), fun l hl => ?_⟩
 have sl := zak hl (.lst [.ref be, .ref st2, .ref be])
 have T11 := T10.same sl
 have S11 := S10.same sl
 have h11d := sl _ _ h10d
 have P11d : Paired (BrAt (fun _ => False) (upd H10 l (.lst [.ref be, .ref st2, .ref be])) ps rows) (List.range (ps.length + 1)) xd := zax (fun a b => BrAt.same sl) P10d
 have hll : upd H10 l (.lst [.ref be, .ref st2, .ref be]) l = some (.lst [.ref be, .ref st2, .ref be]) := zac
 clear sl
 generalize upd H10 l (.lst [.ref be, .ref st2, .ref be]) = H11 at T11 S11 h11d P11d hll ⊢
 refine ⟨l, rfl, ⟨_, SqL.of hll⟩, ?_⟩
 refine zbD (xs := [.ref be, .ref st2, .ref be]) (fun i σ H12 => ∃ x7 : Option V, σ = [some (.ref a), some (.ref d), some (.ref t), some (.ref rs), some (.ref pd), some (.ref st2), some (.ref pf), x7, x8, some (.ref be)] ∧ Same H11 H12) ?_ ?_ ?_ ?_
 ·exact ⟨_, rfl, fun b o e => e⟩
 ·rintro i σ H12 _ ⟨x7, rfl, s12⟩
  exact SqL.of (s12 _ _ hll)
 ·rintro i x σ H12 hx ⟨x7, rfl, s12⟩
  obtain ⟨st', rows', rs', as', rfl, S', hf'⟩ : ∃ (st' : Addr) (rows' : List (List Int)) (rs' : Addr) (as' : List Addr), x = .ref st' ∧ zbZ H12 st' ps rows' t rs' as' ∧ ∀ j, j < ps.length + 1 → (zar ps rows' j).length ≤ 400 := by
   rcases i with _ | _ | _ | i
   ·exact ⟨be, rows2, r2, as2, (Option.some.inj hx).symm, T11.same s12, hfull2⟩
   ·exact ⟨st2, rows, rs, as, (Option.some.inj hx).symm, S11.same s12, hfull⟩
   ·exact ⟨be, rows2, r2, as2, (Option.some.inj hx).symm, T11.same s12, hfull2⟩
   ·cases hx
  refine ⟨_, rfl, st', ps, rows', t, rs', as', rfl, S', fun p1 y1 H13 hp1 s13 h13 B13 => ?_⟩
  have S13 := S'.same s13
  refine ⟨_, rfl, _, _, _, _, rfl, rfl, SqT.of S13.st, rfl, _, rfl, _, _, _, _, rfl, rfl, SqT.of S13.st, rfl, ?_⟩
  refine ⟨t, rs', ps, rows', as', rfl, S13.tr, S13.rs, S13.at_, S13.len, S13.T, S13.R, S13.few, S13.keys, fun p2 y2 H14 hp2 s14 h14 B14 => ?_⟩
  refine ⟨p1, p2, y1, y2, ps, rows', _, _, rfl, s14 _ _ h13, zax (fun a b => BrAt.same s14) B13, h14, B14, hf', fun H15 s15 => ⟨_, rfl, ?_⟩⟩
  refine iteF ?_
  exact ⟨_, rfl, s12.trans (s13.trans (s14.trans s15))⟩
 rintro σ H12 ⟨x7, rfl, s12⟩
 have S12 := S11.same s12
 refine ⟨_, rfl, st2, ps, rows, t, rs, as, rfl, S12, fun p1 y1 H13 hp1 s13 h13 B13 => ?_⟩
 have s1113 := s12.trans s13
 refine ⟨_, rfl, p1, pd, y1, xd, ps, rows, _, _, rfl, h13, B13, s1113 _ _ h11d, zax (fun a b => BrAt.same s1113) P11d, hfull, fun H14 s14 => ⟨_, rfl, ?_⟩⟩
 refine iteT ?_
 refine ⟨_, rfl, _, rfl, _, rfl, (by show 2 ≤ sizeLine; decide), fun u hu => ?_⟩
 have S14 := (S12.same (s13.trans s14)).same (zak hu (.tup [.ref t, .ref rs]))
 refine ⟨((⟨optL ps⟩ : Tup (Option Int)), (⟨rows.map Tup.mk⟩ : Tup (Tup Int))), ((⟨optL ps⟩ : Tup (Option Int)), (⟨rows.map Tup.mk⟩ : Tup (Tup Int))), ⟨st2, _, _, rfl, S14.st, ⟨_, _, rfl, SqT.of S14.tr, zh8 ps⟩, ⟨_, _, rfl, SqT.of S14.rs, zgd S14.at_⟩⟩, ⟨u, _, _, rfl, zac, ⟨_, _, rfl, SqT.of S14.tr, zh8 ps⟩, ⟨_, _, rfl, SqT.of S14.rs, zgd S14.at_⟩⟩, ?_⟩
 rw [decide_eq_true rfl]
 exact q _
abbrev lawRoom : Nat := 10
theorem all_ok (T : Txt K mg) (D_code : DF K mg "code" zej zeG) (D_joined_up : DF K mg "joined_up" zbc zbJ) (D_lowest_unlike : DF K mg "lowest_unlike" zaH zaU) (D_turned : DF K mg "turned" zci zc2) (D_labels : DF K mg "labels" zcj zc3) (D_neighbours : DF K mg "neighbours" zaW zbf) (D_least_free : DF K mg "least_free" zaX zbt) (D_colours : DF K mg "colours" zbU zcB) (D_marks : DF K mg "marks" zdd zdL) (D_handed : DF K mg "handed" zco zc6) (D_children : DF K mg "children" zbs zbE) (D_beneath : DF K mg "beneath" zbW zcD) (D_own_entries : DF K mg "own_entries" zaQ zbj) (D_full_rows_beneath : DF K mg "full_rows_beneath" zay zaJ) (D_full_rows : DF K mg "full_rows" zbd zbK) (D_owns_of : DF K mg "owns_of" zbN zcv) (D_starts_of : DF K mg "starts_of" za9 zbG) (D_bridges_of : DF K mg "bridges_of" zaZ zbv) (D_bridges : DF K mg "bridges" zbV zcC) (D_l_begin : DF K mg "_law_begin" zbT zcA) (D_l_mixed : DF K mg "_law_mixed" zbQ zcy) (D_l_take : DF K mg "_law_take" zcl zbX) (D_l_key : DF K mg "_law_key" zdf zdN) (D_l_tree : DF K mg "_law_tree" zck zc4) (D_l_row : DF K mg "_law_row" zde zdM) (D_l_rows : DF K mg "_law_rows" zcm zcN) (D_l_children : DF K mg "_law_children" zaY zbu) (D_l_code : DF K mg "_law_code" zcn zc5) (D_l_turned : DF K mg "_law_turned" zbq zb0) (D_l_colours : DF K mg "_law_colours" zbb zbI) (D_l_marks : DF K mg "_law_marks" zbR zb2) (D_l_fulls : DF K mg "_law_fulls" zbS zcz) (D_l_stand : DF K mg "_law_stand" zbO zcw) (D_l_starts : DF K mg "_law_starts" zbr zb1) (D_l_due : DF K mg "_law_due" zdg zdO) (D_l_numbers : DF K mg "_law_numbers" zba zbH) (D_l_right : DF K mg "_law_right" zbP zcx) (D_law : DF K mg "law" ze2 zfL) : FC P w K mg base 10 "law" zfL (zjL K) :=
 have m := ok_mixed (P := P) (w := w) (base := base) T D_l_mixed
 have t := ok_take T D_l_take m
 have c := ok_code (P := P) (w := w) (base := base) T D_code
 have nb := zgm (P := P) (w := w) (base := base) T D_neighbours
 have mk := ok_marks T D_marks (ok_labels T D_labels c (ok_turned T D_turned (ok_low T D_lowest_unlike))) (zi8 T D_colours nb (zgn T D_least_free)) nb
 have hd := ok_handed T D_handed mk
 have ch := zhy (P := P) (w := w) (base := base) T D_children
 have fr := ok_frb T D_full_rows_beneath (zja T D_beneath) ch hd (ok_own T D_own_entries) (ok_joined T D_joined_up)
 have br := zi9 T D_bridges (ok_fulls T D_full_rows fr) (ok_brOf T D_bridges_of ch (ok_starts T D_starts_of) (ok_owns T D_owns_of))
 have lm := ok_lmarks T D_l_marks (ok_lcode (P := P) (w := w) (base := base) T D_l_code) (zi6 T D_l_turned) (zhx T D_l_colours)
 have lr := ok_lrows T D_l_rows t (ok_lrow T D_l_row t (ok_key T D_l_key t))
 ok_law T D_law (ok_begin T D_l_begin) (ok_lstand T D_l_stand (ok_ltree T D_l_tree t) lr) (ok_ldue T D_l_due (ok_lfulls T D_l_fulls lm) (zgT T D_l_children) (zi7 T D_l_starts) lm) br (ok_right T D_l_right (ok_nums T D_l_numbers)) lr
end
theorem all_mk {l : PySem.W.OpenLaw} {w : World} {K : PySem.W.Frag} {h : Heap} {mg : Str → Option Value} {fa f1 f2 f3 f4 f5 f6 f7 f8 f9 f10 f11 f12 f13 f14 f15 f16 f17 f18 f19 f20 f21 f22 f23 f24 f25 f26 f27 f28 f29 f30 f31 f32 f33 f34 f35 f36 f37 f38  : Addr} (X : K.In h) (G : h.Ns mainGlobals mg) (hfa : mg "law" = some (.ref fa))
  {od1 an1 od2 an2 od3 an3 od4 an4 od5 an5 od6 an6 od7 an7 od8 an8 od9 an9 od10 an10 od11 an11 od12 an12 od13 an13 od14 an14 od15 an15 od16 an16 od17 an17 od18 an18 od19 an19 od20 an20 od21 an21 od22 an22 od23 an23 od24 an24 od25 an25 od26 an26 od27 an27 od28 an28 od29 an29 od30 an30 od31 an31 od32 an32 od33 an33 od34 an34 od35 an35 od36 an36 od37 an37 od38 an38 : Option Addr} {sl1 sl2 sl3 sl4 sl5 sl6 sl7 sl8 sl9 sl10 sl11 sl12 sl13 sl14 sl15 sl16 sl17 sl18 sl19 sl20 sl21 sl22 sl23 sl24 sl25 sl26 sl27 sl28 sl29 sl30 sl31 sl32 sl33 sl34 sl35 sl36 sl37 sl38 : Array (Option Value)} {oc1 kV1 dc1 pm1 cd1 ct1 oc2 kV2 dc2 pm2 cd2 ct2 oc3 kV3 dc3 pm3 cd3 ct3 oc4 kV4 dc4 pm4 cd4 ct4 oc5 kV5 dc5 pm5 cd5 ct5 oc6 kV6 dc6 pm6 cd6 ct6 oc7 kV7 dc7 pm7 cd7 ct7 oc8 kV8 dc8 pm8 cd8 ct8 oc9 kV9 dc9 pm9 cd9 ct9 oc10 kV10 dc10 pm10 cd10 ct10 oc11 kV11 dc11 pm11 cd11 ct11 oc12 kV12 dc12 pm12 cd12 ct12 oc13 kV13 dc13 pm13 cd13 ct13 oc14 kV14 dc14 pm14 cd14 ct14 oc15 kV15 dc15 pm15 cd15 ct15 oc16 kV16 dc16 pm16 cd16 ct16 oc17 kV17 dc17 pm17 cd17 ct17 oc18 kV18 dc18 pm18 cd18 ct18 oc19 kV19 dc19 pm19 cd19 ct19 oc20 kV20 dc20 pm20 cd20 ct20 oc21 kV21 dc21 pm21 cd21 ct21 oc22 kV22 dc22 pm22 cd22 ct22 oc23 kV23 dc23 pm23 cd23 ct23 oc24 kV24 dc24 pm24 cd24 ct24 oc25 kV25 dc25 pm25 cd25 ct25 oc26 kV26 dc26 pm26 cd26 ct26 oc27 kV27 dc27 pm27 cd27 ct27 oc28 kV28 dc28 pm28 cd28 ct28 oc29 kV29 dc29 pm29 cd29 ct29 oc30 kV30 dc30 pm30 cd30 ct30 oc31 kV31 dc31 pm31 cd31 ct31 oc32 kV32 dc32 pm32 cd32 ct32 oc33 kV33 dc33 pm33 cd33 ct33 oc34 kV34 dc34 pm34 cd34 ct34 oc35 kV35 dc35 pm35 cd35 ct35 oc36 kV36 dc36 pm36 cd36 ct36 oc37 kV37 dc37 pm37 cd37 ct37 oc38 kV38 dc38 pm38 cd38 ct38 : Value} {t_KNOT_NUMBERS : Tok} {t_TURNS : Tok}
  (a1 : PySem.W.nsIn K mainGlobals "code" = some (some (.ref f1))) (l1 : K.lookup f1 = some ⟨oc1, od1, .func (PySem.W.fnOf "code" "code" (zat zej) (zas zej) (zah zej) .none kV1 dc1 pm1 an1 cd1 ct1), sl1⟩) (c1 : PySem.W.codeIn K cd1 "code" = true) (k1 : PySem.W.keepIn K (.ref f1) = true)
  (a2 : PySem.W.nsIn K mainGlobals "joined_up" = some (some (.ref f2))) (l2 : K.lookup f2 = some ⟨oc2, od2, .func (PySem.W.fnOf "joined_up" "joined_up" (zat zbc) (zas zbc) (zah zbc) .none kV2 dc2 pm2 an2 cd2 ct2), sl2⟩) (c2 : PySem.W.codeIn K cd2 "joined_up" = true) (k2 : PySem.W.keepIn K (.ref f2) = true)
  (a3 : PySem.W.nsIn K mainGlobals "lowest_unlike" = some (some (.ref f3))) (l3 : K.lookup f3 = some ⟨oc3, od3, .func (PySem.W.fnOf "lowest_unlike" "lowest_unlike" (zat zaH) (zas zaH) (zah zaH) .none kV3 dc3 pm3 an3 cd3 ct3), sl3⟩) (c3 : PySem.W.codeIn K cd3 "lowest_unlike" = true) (k3 : PySem.W.keepIn K (.ref f3) = true)
  (a4 : PySem.W.nsIn K mainGlobals "turned" = some (some (.ref f4))) (l4 : K.lookup f4 = some ⟨oc4, od4, .func (PySem.W.fnOf "turned" "turned" (zat zci) (zas zci) (zah zci) .none kV4 dc4 pm4 an4 cd4 ct4), sl4⟩) (c4 : PySem.W.codeIn K cd4 "turned" = true) (k4 : PySem.W.keepIn K (.ref f4) = true)
  (a5 : PySem.W.nsIn K mainGlobals "labels" = some (some (.ref f5))) (l5 : K.lookup f5 = some ⟨oc5, od5, .func (PySem.W.fnOf "labels" "labels" (zat zcj) (zas zcj) (zah zcj) .none kV5 dc5 pm5 an5 cd5 ct5), sl5⟩) (c5 : PySem.W.codeIn K cd5 "labels" = true) (k5 : PySem.W.keepIn K (.ref f5) = true)
  (a6 : PySem.W.nsIn K mainGlobals "neighbours" = some (some (.ref f6))) (l6 : K.lookup f6 = some ⟨oc6, od6, .func (PySem.W.fnOf "neighbours" "neighbours" (zat zaW) (zas zaW) (zah zaW) .none kV6 dc6 pm6 an6 cd6 ct6), sl6⟩) (c6 : PySem.W.codeIn K cd6 "neighbours" = true) (k6 : PySem.W.keepIn K (.ref f6) = true)
  (a7 : PySem.W.nsIn K mainGlobals "least_free" = some (some (.ref f7))) (l7 : K.lookup f7 = some ⟨oc7, od7, .func (PySem.W.fnOf "least_free" "least_free" (zat zaX) (zas zaX) (zah zaX) .none kV7 dc7 pm7 an7 cd7 ct7), sl7⟩) (c7 : PySem.W.codeIn K cd7 "least_free" = true) (k7 : PySem.W.keepIn K (.ref f7) = true)
  (a8 : PySem.W.nsIn K mainGlobals "colours" = some (some (.ref f8))) (l8 : K.lookup f8 = some ⟨oc8, od8, .func (PySem.W.fnOf "colours" "colours" (zat zbU) (zas zbU) (zah zbU) .none kV8 dc8 pm8 an8 cd8 ct8), sl8⟩) (c8 : PySem.W.codeIn K cd8 "colours" = true) (k8 : PySem.W.keepIn K (.ref f8) = true)
  (a9 : PySem.W.nsIn K mainGlobals "marks" = some (some (.ref f9))) (l9 : K.lookup f9 = some ⟨oc9, od9, .func (PySem.W.fnOf "marks" "marks" (zat zdd) (zas zdd) (zah zdd) .none kV9 dc9 pm9 an9 cd9 ct9), sl9⟩) (c9 : PySem.W.codeIn K cd9 "marks" = true) (k9 : PySem.W.keepIn K (.ref f9) = true)
  (a10 : PySem.W.nsIn K mainGlobals "handed" = some (some (.ref f10))) (l10 : K.lookup f10 = some ⟨oc10, od10, .func (PySem.W.fnOf "handed" "handed" (zat zco) (zas zco) (zah zco) .none kV10 dc10 pm10 an10 cd10 ct10), sl10⟩) (c10 : PySem.W.codeIn K cd10 "handed" = true) (k10 : PySem.W.keepIn K (.ref f10) = true)
  (a11 : PySem.W.nsIn K mainGlobals "children" = some (some (.ref f11))) (l11 : K.lookup f11 = some ⟨oc11, od11, .func (PySem.W.fnOf "children" "children" (zat zbs) (zas zbs) (zah zbs) .none kV11 dc11 pm11 an11 cd11 ct11), sl11⟩) (c11 : PySem.W.codeIn K cd11 "children" = true) (k11 : PySem.W.keepIn K (.ref f11) = true)
  (a12 : PySem.W.nsIn K mainGlobals "beneath" = some (some (.ref f12))) (l12 : K.lookup f12 = some ⟨oc12, od12, .func (PySem.W.fnOf "beneath" "beneath" (zat zbW) (zas zbW) (zah zbW) .none kV12 dc12 pm12 an12 cd12 ct12), sl12⟩) (c12 : PySem.W.codeIn K cd12 "beneath" = true) (k12 : PySem.W.keepIn K (.ref f12) = true)
  (a13 : PySem.W.nsIn K mainGlobals "own_entries" = some (some (.ref f13))) (l13 : K.lookup f13 = some ⟨oc13, od13, .func (PySem.W.fnOf "own_entries" "own_entries" (zat zaQ) (zas zaQ) (zah zaQ) .none kV13 dc13 pm13 an13 cd13 ct13), sl13⟩) (c13 : PySem.W.codeIn K cd13 "own_entries" = true) (k13 : PySem.W.keepIn K (.ref f13) = true)
  (a14 : PySem.W.nsIn K mainGlobals "full_rows_beneath" = some (some (.ref f14))) (l14 : K.lookup f14 = some ⟨oc14, od14, .func (PySem.W.fnOf "full_rows_beneath" "full_rows_beneath" (zat zay) (zas zay) (zah zay) .none kV14 dc14 pm14 an14 cd14 ct14), sl14⟩) (c14 : PySem.W.codeIn K cd14 "full_rows_beneath" = true) (k14 : PySem.W.keepIn K (.ref f14) = true)
  (a15 : PySem.W.nsIn K mainGlobals "full_rows" = some (some (.ref f15))) (l15 : K.lookup f15 = some ⟨oc15, od15, .func (PySem.W.fnOf "full_rows" "full_rows" (zat zbd) (zas zbd) (zah zbd) .none kV15 dc15 pm15 an15 cd15 ct15), sl15⟩) (c15 : PySem.W.codeIn K cd15 "full_rows" = true) (k15 : PySem.W.keepIn K (.ref f15) = true)
  (a16 : PySem.W.nsIn K mainGlobals "owns_of" = some (some (.ref f16))) (l16 : K.lookup f16 = some ⟨oc16, od16, .func (PySem.W.fnOf "owns_of" "owns_of" (zat zbN) (zas zbN) (zah zbN) .none kV16 dc16 pm16 an16 cd16 ct16), sl16⟩) (c16 : PySem.W.codeIn K cd16 "owns_of" = true) (k16 : PySem.W.keepIn K (.ref f16) = true)
  (a17 : PySem.W.nsIn K mainGlobals "starts_of" = some (some (.ref f17))) (l17 : K.lookup f17 = some ⟨oc17, od17, .func (PySem.W.fnOf "starts_of" "starts_of" (zat za9) (zas za9) (zah za9) .none kV17 dc17 pm17 an17 cd17 ct17), sl17⟩) (c17 : PySem.W.codeIn K cd17 "starts_of" = true) (k17 : PySem.W.keepIn K (.ref f17) = true)
  (a18 : PySem.W.nsIn K mainGlobals "bridges_of" = some (some (.ref f18))) (l18 : K.lookup f18 = some ⟨oc18, od18, .func (PySem.W.fnOf "bridges_of" "bridges_of" (zat zaZ) (zas zaZ) (zah zaZ) .none kV18 dc18 pm18 an18 cd18 ct18), sl18⟩) (c18 : PySem.W.codeIn K cd18 "bridges_of" = true) (k18 : PySem.W.keepIn K (.ref f18) = true)
  (a19 : PySem.W.nsIn K mainGlobals "bridges" = some (some (.ref f19))) (l19 : K.lookup f19 = some ⟨oc19, od19, .func (PySem.W.fnOf "bridges" "bridges" (zat zbV) (zas zbV) (zah zbV) .none kV19 dc19 pm19 an19 cd19 ct19), sl19⟩) (c19 : PySem.W.codeIn K cd19 "bridges" = true) (k19 : PySem.W.keepIn K (.ref f19) = true)
  (a20 : PySem.W.nsIn K mainGlobals "_law_begin" = some (some (.ref f20))) (l20 : K.lookup f20 = some ⟨oc20, od20, .func (PySem.W.fnOf "_law_begin" "_law_begin" (zat zbT) (zas zbT) (zah zbT) .none kV20 dc20 pm20 an20 cd20 ct20), sl20⟩) (c20 : PySem.W.codeIn K cd20 "_law_begin" = true) (k20 : PySem.W.keepIn K (.ref f20) = true)
  (a21 : PySem.W.nsIn K mainGlobals "_law_mixed" = some (some (.ref f21))) (l21 : K.lookup f21 = some ⟨oc21, od21, .func (PySem.W.fnOf "_law_mixed" "_law_mixed" (zat zbQ) (zas zbQ) (zah zbQ) .none kV21 dc21 pm21 an21 cd21 ct21), sl21⟩) (c21 : PySem.W.codeIn K cd21 "_law_mixed" = true) (k21 : PySem.W.keepIn K (.ref f21) = true)
  (a22 : PySem.W.nsIn K mainGlobals "_law_take" = some (some (.ref f22))) (l22 : K.lookup f22 = some ⟨oc22, od22, .func (PySem.W.fnOf "_law_take" "_law_take" (zat zcl) (zas zcl) (zah zcl) .none kV22 dc22 pm22 an22 cd22 ct22), sl22⟩) (c22 : PySem.W.codeIn K cd22 "_law_take" = true) (k22 : PySem.W.keepIn K (.ref f22) = true)
  (a23 : PySem.W.nsIn K mainGlobals "_law_key" = some (some (.ref f23))) (l23 : K.lookup f23 = some ⟨oc23, od23, .func (PySem.W.fnOf "_law_key" "_law_key" (zat zdf) (zas zdf) (zah zdf) .none kV23 dc23 pm23 an23 cd23 ct23), sl23⟩) (c23 : PySem.W.codeIn K cd23 "_law_key" = true) (k23 : PySem.W.keepIn K (.ref f23) = true)
  (a24 : PySem.W.nsIn K mainGlobals "_law_tree" = some (some (.ref f24))) (l24 : K.lookup f24 = some ⟨oc24, od24, .func (PySem.W.fnOf "_law_tree" "_law_tree" (zat zck) (zas zck) (zah zck) .none kV24 dc24 pm24 an24 cd24 ct24), sl24⟩) (c24 : PySem.W.codeIn K cd24 "_law_tree" = true) (k24 : PySem.W.keepIn K (.ref f24) = true)
  (a25 : PySem.W.nsIn K mainGlobals "_law_row" = some (some (.ref f25))) (l25 : K.lookup f25 = some ⟨oc25, od25, .func (PySem.W.fnOf "_law_row" "_law_row" (zat zde) (zas zde) (zah zde) .none kV25 dc25 pm25 an25 cd25 ct25), sl25⟩) (c25 : PySem.W.codeIn K cd25 "_law_row" = true) (k25 : PySem.W.keepIn K (.ref f25) = true)
  (a26 : PySem.W.nsIn K mainGlobals "_law_rows" = some (some (.ref f26))) (l26 : K.lookup f26 = some ⟨oc26, od26, .func (PySem.W.fnOf "_law_rows" "_law_rows" (zat zcm) (zas zcm) (zah zcm) .none kV26 dc26 pm26 an26 cd26 ct26), sl26⟩) (c26 : PySem.W.codeIn K cd26 "_law_rows" = true) (k26 : PySem.W.keepIn K (.ref f26) = true)
  (a27 : PySem.W.nsIn K mainGlobals "_law_children" = some (some (.ref f27))) (l27 : K.lookup f27 = some ⟨oc27, od27, .func (PySem.W.fnOf "_law_children" "_law_children" (zat zaY) (zas zaY) (zah zaY) .none kV27 dc27 pm27 an27 cd27 ct27), sl27⟩) (c27 : PySem.W.codeIn K cd27 "_law_children" = true) (k27 : PySem.W.keepIn K (.ref f27) = true)
  (a28 : PySem.W.nsIn K mainGlobals "_law_code" = some (some (.ref f28))) (l28 : K.lookup f28 = some ⟨oc28, od28, .func (PySem.W.fnOf "_law_code" "_law_code" (zat zcn) (zas zcn) (zah zcn) .none kV28 dc28 pm28 an28 cd28 ct28), sl28⟩) (c28 : PySem.W.codeIn K cd28 "_law_code" = true) (k28 : PySem.W.keepIn K (.ref f28) = true)
  (a29 : PySem.W.nsIn K mainGlobals "_law_turned" = some (some (.ref f29))) (l29 : K.lookup f29 = some ⟨oc29, od29, .func (PySem.W.fnOf "_law_turned" "_law_turned" (zat zbq) (zas zbq) (zah zbq) .none kV29 dc29 pm29 an29 cd29 ct29), sl29⟩) (c29 : PySem.W.codeIn K cd29 "_law_turned" = true) (k29 : PySem.W.keepIn K (.ref f29) = true)
  (a30 : PySem.W.nsIn K mainGlobals "_law_colours" = some (some (.ref f30))) (l30 : K.lookup f30 = some ⟨oc30, od30, .func (PySem.W.fnOf "_law_colours" "_law_colours" (zat zbb) (zas zbb) (zah zbb) .none kV30 dc30 pm30 an30 cd30 ct30), sl30⟩) (c30 : PySem.W.codeIn K cd30 "_law_colours" = true) (k30 : PySem.W.keepIn K (.ref f30) = true)
  (a31 : PySem.W.nsIn K mainGlobals "_law_marks" = some (some (.ref f31))) (l31 : K.lookup f31 = some ⟨oc31, od31, .func (PySem.W.fnOf "_law_marks" "_law_marks" (zat zbR) (zas zbR) (zah zbR) .none kV31 dc31 pm31 an31 cd31 ct31), sl31⟩) (c31 : PySem.W.codeIn K cd31 "_law_marks" = true) (k31 : PySem.W.keepIn K (.ref f31) = true)
  (a32 : PySem.W.nsIn K mainGlobals "_law_fulls" = some (some (.ref f32))) (l32 : K.lookup f32 = some ⟨oc32, od32, .func (PySem.W.fnOf "_law_fulls" "_law_fulls" (zat zbS) (zas zbS) (zah zbS) .none kV32 dc32 pm32 an32 cd32 ct32), sl32⟩) (c32 : PySem.W.codeIn K cd32 "_law_fulls" = true) (k32 : PySem.W.keepIn K (.ref f32) = true)
  (a33 : PySem.W.nsIn K mainGlobals "_law_stand" = some (some (.ref f33))) (l33 : K.lookup f33 = some ⟨oc33, od33, .func (PySem.W.fnOf "_law_stand" "_law_stand" (zat zbO) (zas zbO) (zah zbO) .none kV33 dc33 pm33 an33 cd33 ct33), sl33⟩) (c33 : PySem.W.codeIn K cd33 "_law_stand" = true) (k33 : PySem.W.keepIn K (.ref f33) = true)
  (a34 : PySem.W.nsIn K mainGlobals "_law_starts" = some (some (.ref f34))) (l34 : K.lookup f34 = some ⟨oc34, od34, .func (PySem.W.fnOf "_law_starts" "_law_starts" (zat zbr) (zas zbr) (zah zbr) .none kV34 dc34 pm34 an34 cd34 ct34), sl34⟩) (c34 : PySem.W.codeIn K cd34 "_law_starts" = true) (k34 : PySem.W.keepIn K (.ref f34) = true)
  (a35 : PySem.W.nsIn K mainGlobals "_law_due" = some (some (.ref f35))) (l35 : K.lookup f35 = some ⟨oc35, od35, .func (PySem.W.fnOf "_law_due" "_law_due" (zat zdg) (zas zdg) (zah zdg) .none kV35 dc35 pm35 an35 cd35 ct35), sl35⟩) (c35 : PySem.W.codeIn K cd35 "_law_due" = true) (k35 : PySem.W.keepIn K (.ref f35) = true)
  (a36 : PySem.W.nsIn K mainGlobals "_law_numbers" = some (some (.ref f36))) (l36 : K.lookup f36 = some ⟨oc36, od36, .func (PySem.W.fnOf "_law_numbers" "_law_numbers" (zat zba) (zas zba) (zah zba) .none kV36 dc36 pm36 an36 cd36 ct36), sl36⟩) (c36 : PySem.W.codeIn K cd36 "_law_numbers" = true) (k36 : PySem.W.keepIn K (.ref f36) = true)
  (a37 : PySem.W.nsIn K mainGlobals "_law_right" = some (some (.ref f37))) (l37 : K.lookup f37 = some ⟨oc37, od37, .func (PySem.W.fnOf "_law_right" "_law_right" (zat zbP) (zas zbP) (zah zbP) .none kV37 dc37 pm37 an37 cd37 ct37), sl37⟩) (c37 : PySem.W.codeIn K cd37 "_law_right" = true) (k37 : PySem.W.keepIn K (.ref f37) = true)
  (a38 : PySem.W.nsIn K mainGlobals "law" = some (some (.ref f38))) (l38 : K.lookup f38 = some ⟨oc38, od38, .func (PySem.W.fnOf "law" "law" (zat ze2) (zas ze2) (zah ze2) .none kV38 dc38 pm38 an38 cd38 ct38), sl38⟩) (c38 : PySem.W.codeIn K cd38 "law" = true) (k38 : PySem.W.keepIn K (.ref f38) = true)
  (z_abs : PySem.W.nsIn K mainGlobals "abs" = some none)
  (z_all : PySem.W.nsIn K mainGlobals "all" = some none)
  (z_bool : PySem.W.nsIn K mainGlobals "bool" = some none)
  (z_enumerate : PySem.W.nsIn K mainGlobals "enumerate" = some none)
  (z_int : PySem.W.nsIn K mainGlobals "int" = some none)
  (z_isinstance : PySem.W.nsIn K mainGlobals "isinstance" = some none)
  (z_len : PySem.W.nsIn K mainGlobals "len" = some none)
  (z_list : PySem.W.nsIn K mainGlobals "list" = some none)
  (z_max : PySem.W.nsIn K mainGlobals "max" = some none)
  (z_min : PySem.W.nsIn K mainGlobals "min" = some none)
  (z_range : PySem.W.nsIn K mainGlobals "range" = some none)
  (z_reversed : PySem.W.nsIn K mainGlobals "reversed" = some none)
  (z_sorted : PySem.W.nsIn K mainGlobals "sorted" = some none)
  (z_tuple : PySem.W.nsIn K mainGlobals "tuple" = some none)
  (z_zip : PySem.W.nsIn K mainGlobals "zip" = some none)
  (y_KNOT_NUMBERS : PySem.W.nsIn K mainGlobals "KNOT_NUMBERS" = some (some (.int 64 t_KNOT_NUMBERS)))
  (y_TURNS : PySem.W.nsIn K mainGlobals "TURNS" = some (some (.int 5 t_TURNS))) :
  ∃ fd : FuncData, (∀ (s : Shared) (v : Value), BindsTo s fd ⟨[v], []⟩ [("_law_script", v)]) ∧ ∀ base : Heap, K.In base → base.Ns mainGlobals mg →  FnOk l.prog w K mg base CX0 lawRoom fa fd ["_law_script"] (zjL K) := by
 have e := hfa.symm.trans (PySem.W.mg_of X G a38)
 cases e
 have D_code : DF K mg "code" zej zeG := ⟨_, _, zan (st := zej) l1 c1 k1, (zan (st := zej) l1 c1 k1).binds (ps := zeG) (fun _ _ _ _ _ _ us hl => match us, hl with | [_], _ => rfl), PySem.W.mg_of X G a1⟩
 have D_joined_up : DF K mg "joined_up" zbc zbJ := ⟨_, _, zan (st := zbc) l2 c2 k2, (zan (st := zbc) l2 c2 k2).binds (ps := zbJ) (fun _ _ _ _ _ _ us hl => match us, hl with | [_], _ => rfl), PySem.W.mg_of X G a2⟩
 have D_lowest_unlike : DF K mg "lowest_unlike" zaH zaU := ⟨_, _, zan (st := zaH) l3 c3 k3, (zan (st := zaH) l3 c3 k3).binds (ps := zaU) (fun _ _ _ _ _ _ us hl => match us, hl with | [_, _], _ => rfl), PySem.W.mg_of X G a3⟩
 have D_turned : DF K mg "turned" zci zc2 := ⟨_, _, zan (st := zci) l4 c4 k4, (zan (st := zci) l4 c4 k4).binds (ps := zc2) (fun _ _ _ _ _ _ us hl => match us, hl with | [_], _ => rfl), PySem.W.mg_of X G a4⟩
 have D_labels : DF K mg "labels" zcj zc3 := ⟨_, _, zan (st := zcj) l5 c5 k5, (zan (st := zcj) l5 c5 k5).binds (ps := zc3) (fun _ _ _ _ _ _ us hl => match us, hl with | [_], _ => rfl), PySem.W.mg_of X G a5⟩
 have D_neighbours : DF K mg "neighbours" zaW zbf := ⟨_, _, zan (st := zaW) l6 c6 k6, (zan (st := zaW) l6 c6 k6).binds (ps := zbf) (fun _ _ _ _ _ _ us hl => match us, hl with | [_, _], _ => rfl), PySem.W.mg_of X G a6⟩
 have D_least_free : DF K mg "least_free" zaX zbt := ⟨_, _, zan (st := zaX) l7 c7 k7, (zan (st := zaX) l7 c7 k7).binds (ps := zbt) (fun _ _ _ _ _ _ us hl => match us, hl with | [_], _ => rfl), PySem.W.mg_of X G a7⟩
 have D_colours : DF K mg "colours" zbU zcB := ⟨_, _, zan (st := zbU) l8 c8 k8, (zan (st := zbU) l8 c8 k8).binds (ps := zcB) (fun _ _ _ _ _ _ us hl => match us, hl with | [_], _ => rfl), PySem.W.mg_of X G a8⟩
 have D_marks : DF K mg "marks" zdd zdL := ⟨_, _, zan (st := zdd) l9 c9 k9, (zan (st := zdd) l9 c9 k9).binds (ps := zdL) (fun _ _ _ _ _ _ us hl => match us, hl with | [_], _ => rfl), PySem.W.mg_of X G a9⟩
 have D_handed : DF K mg "handed" zco zc6 := ⟨_, _, zan (st := zco) l10 c10 k10, (zan (st := zco) l10 c10 k10).binds (ps := zc6) (fun _ _ _ _ _ _ us hl => match us, hl with | [_], _ => rfl), PySem.W.mg_of X G a10⟩
 have D_children : DF K mg "children" zbs zbE := ⟨_, _, zan (st := zbs) l11 c11 k11, (zan (st := zbs) l11 c11 k11).binds (ps := zbE) (fun _ _ _ _ _ _ us hl => match us, hl with | [_, _], _ => rfl), PySem.W.mg_of X G a11⟩
 have D_beneath : DF K mg "beneath" zbW zcD := ⟨_, _, zan (st := zbW) l12 c12 k12, (zan (st := zbW) l12 c12 k12).binds (ps := zcD) (fun _ _ _ _ _ _ us hl => match us, hl with | [_, _], _ => rfl), PySem.W.mg_of X G a12⟩
 have D_own_entries : DF K mg "own_entries" zaQ zbj := ⟨_, _, zan (st := zaQ) l13 c13 k13, (zan (st := zaQ) l13 c13 k13).binds (ps := zbj) (fun _ _ _ _ _ _ us hl => match us, hl with | [_, _], _ => rfl), PySem.W.mg_of X G a13⟩
 have D_full_rows_beneath : DF K mg "full_rows_beneath" zay zaJ := ⟨_, _, zan (st := zay) l14 c14 k14, (zan (st := zay) l14 c14 k14).binds (ps := zaJ) (fun _ _ _ _ _ _ us hl => match us, hl with | [_, _], _ => rfl), PySem.W.mg_of X G a14⟩
 have D_full_rows : DF K mg "full_rows" zbd zbK := ⟨_, _, zan (st := zbd) l15 c15 k15, (zan (st := zbd) l15 c15 k15).binds (ps := zbK) (fun _ _ _ _ _ _ us hl => match us, hl with | [_], _ => rfl), PySem.W.mg_of X G a15⟩
 have D_owns_of : DF K mg "owns_of" zbN zcv := ⟨_, _, zan (st := zbN) l16 c16 k16, (zan (st := zbN) l16 c16 k16).binds (ps := zcv) (fun _ _ _ _ _ _ us hl => match us, hl with | [_, _], _ => rfl), PySem.W.mg_of X G a16⟩
 have D_starts_of : DF K mg "starts_of" za9 zbG := ⟨_, _, zan (st := za9) l17 c17 k17, (zan (st := za9) l17 c17 k17).binds (ps := zbG) (fun _ _ _ _ _ _ us hl => match us, hl with | [_, _], _ => rfl), PySem.W.mg_of X G a17⟩
 have D_bridges_of : DF K mg "bridges_of" zaZ zbv := ⟨_, _, zan (st := zaZ) l18 c18 k18, (zan (st := zaZ) l18 c18 k18).binds (ps := zbv) (fun _ _ _ _ _ _ us hl => match us, hl with | [_, _], _ => rfl), PySem.W.mg_of X G a18⟩
 have D_bridges : DF K mg "bridges" zbV zcC := ⟨_, _, zan (st := zbV) l19 c19 k19, (zan (st := zbV) l19 c19 k19).binds (ps := zcC) (fun _ _ _ _ _ _ us hl => match us, hl with | [_], _ => rfl), PySem.W.mg_of X G a19⟩
 have D_l_begin : DF K mg "_law_begin" zbT zcA := ⟨_, _, zan (st := zbT) l20 c20 k20, (zan (st := zbT) l20 c20 k20).binds (ps := zcA) (fun _ _ _ _ _ _ us hl => match us, hl with | [_], _ => rfl), PySem.W.mg_of X G a20⟩
 have D_l_mixed : DF K mg "_law_mixed" zbQ zcy := ⟨_, _, zan (st := zbQ) l21 c21 k21, (zan (st := zbQ) l21 c21 k21).binds (ps := zcy) (fun _ _ _ _ _ _ us hl => match us, hl with | [_, _], _ => rfl), PySem.W.mg_of X G a21⟩
 have D_l_take : DF K mg "_law_take" zcl zbX := ⟨_, _, zan (st := zcl) l22 c22 k22, (zan (st := zcl) l22 c22 k22).binds (ps := zbX) (fun _ _ _ _ _ _ us hl => match us, hl with | [_, _], _ => rfl), PySem.W.mg_of X G a22⟩
 have D_l_key : DF K mg "_law_key" zdf zdN := ⟨_, _, zan (st := zdf) l23 c23 k23, (zan (st := zdf) l23 c23 k23).binds (ps := zdN) (fun _ _ _ _ _ _ us hl => match us, hl with | [_], _ => rfl), PySem.W.mg_of X G a23⟩
 have D_l_tree : DF K mg "_law_tree" zck zc4 := ⟨_, _, zan (st := zck) l24 c24 k24, (zan (st := zck) l24 c24 k24).binds (ps := zc4) (fun _ _ _ _ _ _ us hl => match us, hl with | [_, _], _ => rfl), PySem.W.mg_of X G a24⟩
 have D_l_row : DF K mg "_law_row" zde zdM := ⟨_, _, zan (st := zde) l25 c25 k25, (zan (st := zde) l25 c25 k25).binds (ps := zdM) (fun _ _ _ _ _ _ us hl => match us, hl with | [_, _], _ => rfl), PySem.W.mg_of X G a25⟩
 have D_l_rows : DF K mg "_law_rows" zcm zcN := ⟨_, _, zan (st := zcm) l26 c26 k26, (zan (st := zcm) l26 c26 k26).binds (ps := zcN) (fun _ _ _ _ _ _ us hl => match us, hl with | [_, _, _], _ => rfl), PySem.W.mg_of X G a26⟩
 have D_l_children : DF K mg "_law_children" zaY zbu := ⟨_, _, zan (st := zaY) l27 c27 k27, (zan (st := zaY) l27 c27 k27).binds (ps := zbu) (fun _ _ _ _ _ _ us hl => match us, hl with | [_, _], _ => rfl), PySem.W.mg_of X G a27⟩
 have D_l_code : DF K mg "_law_code" zcn zc5 := ⟨_, _, zan (st := zcn) l28 c28 k28, (zan (st := zcn) l28 c28 k28).binds (ps := zc5) (fun _ _ _ _ _ _ us hl => match us, hl with | [_], _ => rfl), PySem.W.mg_of X G a28⟩
 have D_l_turned : DF K mg "_law_turned" zbq zb0 := ⟨_, _, zan (st := zbq) l29 c29 k29, (zan (st := zbq) l29 c29 k29).binds (ps := zb0) (fun _ _ _ _ _ _ us hl => match us, hl with | [_], _ => rfl), PySem.W.mg_of X G a29⟩
 have D_l_colours : DF K mg "_law_colours" zbb zbI := ⟨_, _, zan (st := zbb) l30 c30 k30, (zan (st := zbb) l30 c30 k30).binds (ps := zbI) (fun _ _ _ _ _ _ us hl => match us, hl with | [_], _ => rfl), PySem.W.mg_of X G a30⟩
 have D_l_marks : DF K mg "_law_marks" zbR zb2 := ⟨_, _, zan (st := zbR) l31 c31 k31, (zan (st := zbR) l31 c31 k31).binds (ps := zb2) (fun _ _ _ _ _ _ us hl => match us, hl with | [_], _ => rfl), PySem.W.mg_of X G a31⟩
 have D_l_fulls : DF K mg "_law_fulls" zbS zcz := ⟨_, _, zan (st := zbS) l32 c32 k32, (zan (st := zbS) l32 c32 k32).binds (ps := zcz) (fun _ _ _ _ _ _ us hl => match us, hl with | [_, _], _ => rfl), PySem.W.mg_of X G a32⟩
 have D_l_stand : DF K mg "_law_stand" zbO zcw := ⟨_, _, zan (st := zbO) l33 c33 k33, (zan (st := zbO) l33 c33 k33).binds (ps := zcw) (fun _ _ _ _ _ _ us hl => match us, hl with | [_, _, _], _ => rfl), PySem.W.mg_of X G a33⟩
 have D_l_starts : DF K mg "_law_starts" zbr zb1 := ⟨_, _, zan (st := zbr) l34 c34 k34, (zan (st := zbr) l34 c34 k34).binds (ps := zb1) (fun _ _ _ _ _ _ us hl => match us, hl with | [_, _, _], _ => rfl), PySem.W.mg_of X G a34⟩
 have D_l_due : DF K mg "_law_due" zdg zdO := ⟨_, _, zan (st := zdg) l35 c35 k35, (zan (st := zdg) l35 c35 k35).binds (ps := zdO) (fun _ _ _ _ _ _ us hl => match us, hl with | [_, _], _ => rfl), PySem.W.mg_of X G a35⟩
 have D_l_numbers : DF K mg "_law_numbers" zba zbH := ⟨_, _, zan (st := zba) l36 c36 k36, (zan (st := zba) l36 c36 k36).binds (ps := zbH) (fun _ _ _ _ _ _ us hl => match us, hl with | [_], _ => rfl), PySem.W.mg_of X G a36⟩
 have D_l_right : DF K mg "_law_right" zbP zcx := ⟨_, _, zan (st := zbP) l37 c37 k37, (zan (st := zbP) l37 c37 k37).binds (ps := zcx) (fun _ _ _ _ _ _ us hl => match us, hl with | [_, _], _ => rfl), PySem.W.mg_of X G a37⟩
 have D_law : DF K mg "law" ze2 zfL := ⟨_, _, zan (st := ze2) l38 c38 k38, (zan (st := ze2) l38 c38 k38).binds (ps := zfL) (fun _ _ _ _ _ _ us hl => match us, hl with | [_], _ => rfl), PySem.W.mg_of X G a38⟩
 have T : Txt K mg := ⟨PySem.W.mg_none_of X G z_abs, PySem.W.mg_none_of X G z_all, PySem.W.mg_none_of X G z_bool, PySem.W.mg_none_of X G z_enumerate, PySem.W.mg_none_of X G z_int, PySem.W.mg_none_of X G z_isinstance, PySem.W.mg_none_of X G z_len, PySem.W.mg_none_of X G z_list, PySem.W.mg_none_of X G z_max, PySem.W.mg_none_of X G z_min, PySem.W.mg_none_of X G z_range, PySem.W.mg_none_of X G z_reversed, PySem.W.mg_none_of X G z_sorted, PySem.W.mg_none_of X G z_tuple, PySem.W.mg_none_of X G z_zip, ⟨_, PySem.W.mg_of X G y_KNOT_NUMBERS⟩, ⟨_, PySem.W.mg_of X G y_TURNS⟩⟩
 refine ⟨PySem.W.fnOf "law" "law" (zat ze2) (zas ze2) (zah ze2) .none kV38 dc38 pm38 an38 cd38 ct38, fun s v => .of_eq rfl, fun base _ _ => ?_⟩
 exact (all_ok (P := l.prog) (w := w) (base := base) T D_code D_joined_up D_lowest_unlike D_turned D_labels D_neighbours D_least_free D_colours D_marks D_handed D_children D_beneath D_own_entries D_full_rows_beneath D_full_rows D_owns_of D_starts_of D_bridges_of D_bridges D_l_begin D_l_mixed D_l_take D_l_key D_l_tree D_l_row D_l_rows D_l_children D_l_code D_l_turned D_l_colours D_l_marks D_l_fulls D_l_stand D_l_starts D_l_due D_l_numbers D_l_right D_law).at (PySem.W.mg_of X G a38) l38
theorem walk {l : PySem.W.OpenLaw} {q : Program} {loose : List Str} {XP : (Str → Option Value) → Heap → Prop} {YP : World → Heap → Prop} {d : DefRec} {K : Params → PySem.W.Frag} (hn : l.most = some 63) (hdf : d.params.defaults = [])
  (hY : ∀ (w : World) (h : Heap), YP w h → (K w.params).In h)
  (F : ∀ (w : World) (mg : Str → Option Value) (fa : Addr) (h : Heap), (K w.params).In h → h.Ns mainGlobals mg → mg d.name = some (.ref fa) →
   ∃ fd : FuncData, (∀ (s : Shared) (u : Value), BindsTo s fd ⟨[u], []⟩ [("_law_script", u)]) ∧ ∀ base : Heap, (K w.params).In base → base.Ns mainGlobals mg → FnOk l.prog w (K w.params) mg base CX0 lawRoom fa fd ["_law_script"] (zjL (K w.params))) :
  PySem.W.WalkO q loose XP YP l.row.toRowW d [] (fun f vs => PySem.call f vs) :=
 L2.walk_of (n := 63) (k := lawRoom) (x := "_law_script") (CX := fun _ => CX0) (sp := fun w => zjL (K w.params)) hn (by decide) hdf ⟨rfl, by decide, by decide⟩ hY F (fun _ _ a ns hl _ hS => ⟨a, ns, rfl, hS, hl, fun _ => rfl⟩) fun _ _ _ _ _ z => z
end My
open PySem PySem.W PyProof.Rows
def PySem.W.Fast.tw3189728553502097750 : Nat := 0
def PySem.W.Fast.tw5381549389843744856 : Nat := 0
def PySem.W.Fast.tw12981931170209889787 : Nat := 0
def PySem.W.Fast.tw932131787704546480 : Nat := 0
def PySem.W.Fast.tw10797361341893900369 : Nat := 0
def PySem.W.Fast.tw14280055943340288523 : Nat := 0
def PySem.W.Fast.tw17691237193432640140 : Nat := 0
def PySem.W.Fast.tw17521184406991778025 : Nat := 0
def PySem.W.Fast.tw15441090518303727766 : Nat := 0
def PySem.W.Fast.tw4637222068433966487 : Nat := 0
def PySem.W.Fast.tw3202903666109146941 : Nat := 0
def PySem.W.Fast.tw11128701679360524493 : Nat := 0
set_option maxRecDepth 100000 in
set_option maxHeartbeats 0 in
theorem PySem.Challenge.cw_bridgefind_k27_bridges_told_holds : PySem.Challenge.rw_bridgefind_k27_bridges_told.Holds := by
 w_on; o_law; k_head; (case hw => w_witness2)
 k_fill
 refine My.walk (l := PySem.Challenge.rw_bridgefind_k27_bridges_told) rfl rfl (fun w h Y => PySem.W.kIn_of Y) ?F
 case F =>
  intro w mg fa h KX G hmg
  refine' My.all_mk KX G hmg ?a1 ?l1 ?c1 ?k1 ?a2 ?l2 ?c2 ?k2 ?a3 ?l3 ?c3 ?k3 ?a4 ?l4 ?c4 ?k4 ?a5 ?l5 ?c5 ?k5 ?a6 ?l6 ?c6 ?k6 ?a7 ?l7 ?c7 ?k7 ?a8 ?l8 ?c8 ?k8 ?a9 ?l9 ?c9 ?k9 ?a10 ?l10 ?c10 ?k10 ?a11 ?l11 ?c11 ?k11 ?a12 ?l12 ?c12 ?k12 ?a13 ?l13 ?c13 ?k13 ?a14 ?l14 ?c14 ?k14 ?a15 ?l15 ?c15 ?k15 ?a16 ?l16 ?c16 ?k16 ?a17 ?l17 ?c17 ?k17 ?a18 ?l18 ?c18 ?k18 ?a19 ?l19 ?c19 ?k19 ?a20 ?l20 ?c20 ?k20 ?a21 ?l21 ?c21 ?k21 ?a22 ?l22 ?c22 ?k22 ?a23 ?l23 ?c23 ?k23 ?a24 ?l24 ?c24 ?k24 ?a25 ?l25 ?c25 ?k25 ?a26 ?l26 ?c26 ?k26 ?a27 ?l27 ?c27 ?k27 ?a28 ?l28 ?c28 ?k28 ?a29 ?l29 ?c29 ?k29 ?a30 ?l30 ?c30 ?k30 ?a31 ?l31 ?c31 ?k31 ?a32 ?l32 ?c32 ?k32 ?a33 ?l33 ?c33 ?k33 ?a34 ?l34 ?c34 ?k34 ?a35 ?l35 ?c35 ?k35 ?a36 ?l36 ?c36 ?k36 ?a37 ?l37 ?c37 ?k37 ?a38 ?l38 ?c38 ?k38 ?z_abs ?z_all ?z_bool ?z_enumerate ?z_int ?z_isinstance ?z_len ?z_list ?z_max ?z_min ?z_range ?z_reversed ?z_sorted ?z_tuple ?z_zip ?y_KNOT_NUMBERS ?y_TURNS
  (case a1 => k_is)
  (case l1 => k_is)
  (case c1 => k_is)
  (case k1 => k_is)
  (case a2 => k_is)
  (case l2 => k_is)
  (case c2 => k_is)
  (case k2 => k_is)
  (case a3 => k_is)
  (case l3 => k_is)
  (case c3 => k_is)
  (case k3 => k_is)
  (case a4 => k_is)
  (case l4 => k_is)
  (case c4 => k_is)
  (case k4 => k_is)
  (case a5 => k_is)
  (case l5 => k_is)
  (case c5 => k_is)
  (case k5 => k_is)
  (case a6 => k_is)
  (case l6 => k_is)
  (case c6 => k_is)
  (case k6 => k_is)
  (case a7 => k_is)
  (case l7 => k_is)
  (case c7 => k_is)
  (case k7 => k_is)
  (case a8 => k_is)
  (case l8 => k_is)
  (case c8 => k_is)
  (case k8 => k_is)
  (case a9 => k_is)
  (case l9 => k_is)
  (case c9 => k_is)
  (case k9 => k_is)
  (case a10 => k_is)
  (case l10 => k_is)
  (case c10 => k_is)
  (case k10 => k_is)
  (case a11 => k_is)
  (case l11 => k_is)
  (case c11 => k_is)
  (case k11 => k_is)
  (case a12 => k_is)
  (case l12 => k_is)
  (case c12 => k_is)
  (case k12 => k_is)
  (case a13 => k_is)
  (case l13 => k_is)
  (case c13 => k_is)
  (case k13 => k_is)
  (case a14 => k_is)
  (case l14 => k_is)
  (case c14 => k_is)
  (case k14 => k_is)
  (case a15 => k_is)
  (case l15 => k_is)
  (case c15 => k_is)
  (case k15 => k_is)
  (case a16 => k_is)
  (case l16 => k_is)
  (case c16 => k_is)
  (case k16 => k_is)
  (case a17 => k_is)
  (case l17 => k_is)
  (case c17 => k_is)
  (case k17 => k_is)
  (case a18 => k_is)
  (case l18 => k_is)
  (case c18 => k_is)
  (case k18 => k_is)
  (case a19 => k_is)
  (case l19 => k_is)
  (case c19 => k_is)
  (case k19 => k_is)
  (case a20 => k_is)
  (case l20 => k_is)
  (case c20 => k_is)
  (case k20 => k_is)
  (case a21 => k_is)
  (case l21 => k_is)
  (case c21 => k_is)
  (case k21 => k_is)
  (case a22 => k_is)
  (case l22 => k_is)
  (case c22 => k_is)
  (case k22 => k_is)
  (case a23 => k_is)
  (case l23 => k_is)
  (case c23 => k_is)
  (case k23 => k_is)
  (case a24 => k_is)
  (case l24 => k_is)
  (case c24 => k_is)
  (case k24 => k_is)
  (case a25 => k_is)
  (case l25 => k_is)
  (case c25 => k_is)
  (case k25 => k_is)
  (case a26 => k_is)
  (case l26 => k_is)
  (case c26 => k_is)
  (case k26 => k_is)
  (case a27 => k_is)
  (case l27 => k_is)
  (case c27 => k_is)
  (case k27 => k_is)
  (case a28 => k_is)
  (case l28 => k_is)
  (case c28 => k_is)
  (case k28 => k_is)
  (case a29 => k_is)
  (case l29 => k_is)
  (case c29 => k_is)
  (case k29 => k_is)
  (case a30 => k_is)
  (case l30 => k_is)
  (case c30 => k_is)
  (case k30 => k_is)
  (case a31 => k_is)
  (case l31 => k_is)
  (case c31 => k_is)
  (case k31 => k_is)
  (case a32 => k_is)
  (case l32 => k_is)
  (case c32 => k_is)
  (case k32 => k_is)
  (case a33 => k_is)
  (case l33 => k_is)
  (case c33 => k_is)
  (case k33 => k_is)
  (case a34 => k_is)
  (case l34 => k_is)
  (case c34 => k_is)
  (case k34 => k_is)
  (case a35 => k_is)
  (case l35 => k_is)
  (case c35 => k_is)
  (case k35 => k_is)
  (case a36 => k_is)
  (case l36 => k_is)
  (case c36 => k_is)
  (case k36 => k_is)
  (case a37 => k_is)
  (case l37 => k_is)
  (case c37 => k_is)
  (case k37 => k_is)
  (case a38 => k_is)
  (case l38 => k_is)
  (case c38 => k_is)
  (case k38 => k_is)
  (case z_abs => k_is)
  (case z_all => k_is)
  (case z_bool => k_is)
  (case z_enumerate => k_is)
  (case z_int => k_is)
  (case z_isinstance => k_is)
  (case z_len => k_is)
  (case z_list => k_is)
  (case z_max => k_is)
  (case z_min => k_is)
  (case z_range => k_is)
  (case z_reversed => k_is)
  (case z_sorted => k_is)
  (case z_tuple => k_is)
  (case z_zip => k_is)
  (case y_KNOT_NUMBERS => k_is)
  (case y_TURNS => k_is)

