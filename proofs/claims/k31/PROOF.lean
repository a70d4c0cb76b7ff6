import PyProof.Rows.All
import Wide.All
import OpenK.AllK
import Wide.FinOn
import PyProof.EqAt
import PyProof.EqKinds
import PyProof.TupleCall
import PyProof.NeKinds
import Lean
import PySem.Challenge.RW_bridgefind_k31_whole_places_lie_near_the
set_option Elab.async false
set_option linter.all false
set_option maxRecDepth 100000
local macro_rules | `(tactic| omega) => `(tactic| lia)
namespace L2
open PySem PySem.Spec PyProof.Rows
abbrev Key := Sum Int Str
def zhy : Key → Value → Bool
  | .inl k, v => Value.isInt k v
  | .inr x, v => Value.isStrOf x v
def keyH (w : World) : Key → Int
  | .inl k => hashInt k
  | .inr x => hashStr w x
theorem zaW : ∀ {k : Key} {v : Value}, zhy k v = true → (∃ i t, k = Sum.inl i ∧ v = Value.int i t) ∨ (∃ x t, k = Sum.inr x ∧ v = Value.str x t)
  | .inl i, v, h => by
    obtain ⟨t, e⟩ := Value.isInt_shape (k := i) (v := v) h
    exact .inl ⟨i, t, rfl, e⟩
  | .inr x, v, h => by
    obtain ⟨t, e⟩ := Value.isStrOf_shape (x := x) (v := v) h
    exact .inr ⟨x, t, rfl, e⟩
theorem zkE (i : Int) (t : Tok) : zhy (.inl i) (.int i t) = true := by simp [zhy, Value.isInt]
theorem zkD (x : Str) (t : Tok) : zhy (.inr x) (.str x t) = true := by simp [zhy, Value.isStrOf]
theorem key_ll (a b : Int) : decide ((Sum.inl a : Key) = Sum.inl b) = (a == b) := by
  by_cases e : a = b
  · subst e; simp
  · have h : ¬ (Sum.inl a : Key) = Sum.inl b := fun q => e (Sum.inl.inj q)
    rw [decide_eq_false h]
    exact (beq_eq_false_iff_ne.mpr e).symm
theorem key_rr (a b : Str) : decide ((Sum.inr a : Key) = Sum.inr b) = decide (a = b) := by
  by_cases e : a = b
  · subst e; simp
  · have h : ¬ (Sum.inr a : Key) = Sum.inr b := fun q => e (Sum.inr.inj q)
    rw [decide_eq_false h, decide_eq_false e]
theorem key_lr (a : Int) (b : Str) : decide ((Sum.inl a : Key) = Sum.inr b) = false := decide_eq_false (fun q => nomatch q)
theorem key_rl (a : Str) (b : Int) : decide ((Sum.inr a : Key) = Sum.inl b) = false := decide_eq_false (fun q => nomatch q)
def zaA (prog : Program) (w : World) : PySem.KeyKind prog w Key where
  is := zhy
  hash := keyH w
  inj := fun v a b ha hb => by
    rcases zaW ha with ⟨i, t, rfl, rfl⟩ | ⟨x, t, rfl, rfl⟩
    · rcases zaW hb with ⟨j, u, rfl, e⟩ | ⟨y, u, rfl, e⟩
      · injection e with e1 _; rw [e1]
      · exact nomatch e
    · rcases zaW hb with ⟨j, u, rfl, e⟩ | ⟨y, u, rfl, e⟩
      · exact nomatch e
      · injection e with e1 _; rw [e1]
  byValue := fun k v h => by
    rcases zaW h with ⟨i, t, rfl, rfl⟩ | ⟨x, t, rfl, rfl⟩ <;> rfl
  pyHash := fun hv h => by
    rcases zaW hv with ⟨i, t, rfl, rfl⟩ | ⟨x, t, rfl, rfl⟩
    · exact wpAny_pyHash_int h
    · exact wpAny_pyHash_str h
  eqBool := fun hu hv h => by
    rcases zaW hu with ⟨i, t, rfl, rfl⟩ | ⟨x, t, rfl, rfl⟩
    · rcases zaW hv with ⟨j, u, rfl, rfl⟩ | ⟨y, u, rfl, rfl⟩
      · rw [key_ll] at h; exact wpAny_eqBool_int h
      · rw [key_lr] at h; exact SeqAt.EqAt.int_str i t y u _ _ _ _ h
    · rcases zaW hv with ⟨j, u, rfl, rfl⟩ | ⟨y, u, rfl, rfl⟩
      · rw [key_rl] at h; exact SeqAt.EqAt.str_int x t j u _ _ _ _ h
      · rw [key_rr] at h; exact wpAny_eqBool_str h
  «strs» := fun k x t v h => by
    rcases zaW h with ⟨i, u, rfl, e⟩ | ⟨y, u, rfl, e⟩
    · exact nomatch e
    · injection e with e1 _
      subst e1
      cases v <;> rfl
theorem zja (prog : Program) (w : World) (k : Key) (v : Value) : (zaA prog w).is k v = zhy k v := rfl
theorem zhp (prog : Program) (w : World) (i : Int) (t : Tok) : (zaA prog w).is (.inl i) (.int i t) = true := zkE i t
theorem zho (prog : Program) (w : World) (x : Str) (t : Tok) : (zaA prog w).is (.inr x) (.str x t) = true := zkD x t
end L2
namespace L2
open PySem PySem.Spec PyProof.Rows
inductive V where
  | non | bl (b : Bool) | int (i : Int) | str (x : Str) | byt (b : Array UInt8) | flt (b : UInt64) | ref (a : Addr) | ty (n : String)
  deriving DecidableEq
def RelV : V → Value → Prop
  | .non, u => u = Value.none
  | .bl b, u => u = Value.bool b
  | .int i, u => ∃ t, u = Value.int i t
  | .str x, u => ∃ t, u = Value.str x t
  | .byt b, u => ∃ t, u = Value.bytes b t
  | .flt b, u => ∃ t, u = Value.float b t
  | .ref a, u => u = Value.ref a
  | .ty n, u => u = Value.type n
abbrev Vals : List V → List Value → Prop := Paired RelV
theorem Vals.length {xs : List V} {us : List Value} (r : Vals xs us) : xs.length = us.length := Paired.length r
theorem Vals.get : ∀ {xs : List V} {us : List Value} {i : Nat} {x : V}, Vals xs us → xs[i]? = some x → ∃ u, us[i]? = some u ∧ RelV x u
  | _, _, _, _, .nil, e => by simp at e
  | _, _, 0, _, .cons r _, e => by simp at e; subst e; exact ⟨_, rfl, r⟩
  | _, _, i + 1, x, .cons _ t, e => by
    obtain ⟨u, h1, h2⟩ := Vals.get (i := i) (x := x) t (by simpa using e)
    exact ⟨u, by simpa using h1, h2⟩
theorem Vals.set {x : V} {u : Value} (r : RelV x u) : ∀ {xs : List V} {us : List Value} (i : Nat), Vals xs us → Vals (xs.set i x) (us.set i u)
  | _, _, _, .nil => .nil
  | _, _, 0, .cons _ t => .cons r t
  | _, _, i + 1, .cons q t => .cons q (Vals.set r i t)
theorem Vals.append : ∀ {xs ys : List V} {us ws : List Value}, Vals xs us → Vals ys ws → Vals (xs ++ ys) (us ++ ws)
  | _, _, _, _, .nil, s => s
  | _, _, _, _, .cons r t, s => .cons r (Vals.append t s)
theorem Vals.take : ∀ {xs : List V} {us : List Value} (n : Nat), Vals xs us → Vals (xs.take n) (us.take n)
  | _, _, 0, _ => .nil
  | _, _, _ + 1, .nil => .nil
  | _, _, n + 1, .cons r t => .cons r (Vals.take n t)
theorem Vals.drop : ∀ {xs : List V} {us : List Value} (n : Nat), Vals xs us → Vals (xs.drop n) (us.drop n)
  | _, _, 0, r => r
  | _, _, _ + 1, .nil => .nil
  | _, _, n + 1, .cons _ t => Vals.drop n t
def RelO : Option V → Option Value → Prop
  | some v, some u => RelV v u
  | none, none => True
  | _, _ => False
def KV {κ : Type} : List (κ × V) → List (κ × Value) → Prop := Paired fun (p : κ × V) (q : κ × Value) => p.1 = q.1 ∧ RelV p.2 q.2
def kV : Key → V
  | .inl i => .int i
  | .inr x => .str x
inductive HO where
  | lst (xs : List V)
  | tup (xs : List V)
  | dK (kvs : List (Key × V)) | dT (kvs : List (List Key × V))
  | set (S : Int → Bool) (n : Nat)
  | ins (C dx : Addr) (fs : List (Str × V))
  | own (x : Addr)
  | xd (fs : List (Str × V))
  | met (f x : Addr)
  | rng (lo hi : Int)
  | frz (o : Obj) (u : HO)
  | tbl (ps : Array Value)
  | ext (φ : Heap → Prop)
abbrev Hp := Addr → Option HO
def upd (H : Hp) (a : Addr) (o : HO) : Hp := fun b => if b = a then some o else H b
theorem zac {H : Hp} {a : Addr} {o : HO} : upd H a o a = some o := by unfold upd; rw [if_pos rfl]
theorem zah {H : Hp} {a b : Addr} {o : HO} (h : b ≠ a) : upd H a o b = H b := by unfold upd; rw [if_neg h]
theorem zmU {H : Hp} {a : Addr} {o u : HO} : upd (upd H a o) a u = upd H a u := by
  funext b; unfold upd; split <;> rfl
theorem zoD {H : Hp} {a b : Addr} {o u : HO} (h : H a = some o) (h' : H b = some u) (d : o ≠ u) : a ≠ b := by
  intro e; subst e; rw [h] at h'; exact d (Option.some.inj h')
theorem zab {H : Hp} {a b : Addr} {o : HO} (h : H a = some o) (h' : H b = none) : a ≠ b := by
  intro e; subst e; rw [h] at h'; cases h'
section
variable (P : Program) (w : World)
def zbT (H : Hp) (h : Heap) (a : Addr) : HO → Prop
  | .lst xs => xs.length ≤ sizeLine ∧ ∃ (its : List Value) (n : Nat), Vals xs its ∧ h.get? a = some { cls := .type "list", data := .seq its.toArray n }
  | .tup xs => xs.length ≤ sizeLine ∧ ∃ its : List Value, Vals xs its ∧ IsTup h a its.toArray
  | .dK kvs => kvs.length ≤ sizeLine ∧ (a == sysModules) = false ∧ ∃ vs, KV kvs vs ∧ h.DictOf (zaA P w) a vs
  | .dT kvs => kvs.length ≤ sizeLine ∧ (a == sysModules) = false ∧ ∃ xs : List (List Key × Addr × Value),
      Paired (fun (p : List Key × V) (q : List Key × Addr × Value) => p.1 = q.1 ∧ H q.2.1 = some (.tup (p.1.map kV)) ∧ RelV p.2 q.2.2) kvs xs ∧
      ∃ o es ep, h.get? a = some o ∧ o.ExactDict ∧ o.data = .dict es ep ∧ es.toList = xs.map (entryOfKey (tupleKind (zaA P w))) ∧ (xs.map (·.1)).Nodup
  | .set S n => h.SetOf (intKind P w) a S n
  | .ins C dx fs => H dx = some (.own a) ∧ fs.length ≤ 1000 ∧ dx ≠ a ∧ h.get? a = some (PySem.W.instObj C dx) ∧
      ∃ mA, h.Ns1 dx mA ∧ (∀ f, RelO (fs.lookup f) (mA f)) ∧ PySem.Within mA (fs.map (·.1))
  | .own _ => ∃ o, h.get? a = some o
  | .xd fs => ∃ mA, h.Ns1 a mA ∧ ∀ f, RelO (fs.lookup f) (mA f)
  | .rng lo hi => ∃ t u v, h.get? a = some { cls := .type "range", data := .fields #[.int lo t, .int hi u, .int 1 v] }
  | .frz o u => h.get? a = some o ∧ zbT H h a u
  | .tbl ps => h.get? a = some { cls := .none, data := .fields ps }
  | .met f x => h.get? a = some (PySem.W.methodObj (.ref f) (.ref x))
  | .ext φ => φ h ∧ (∃ o, h.get? a = some o) ∧ ∀ h1 h2 : Heap, φ h1 → (∀ o, h1.get? a = some o → h2.get? a = some o) → φ h2
def HOk (H : Hp) (h : Heap) : Prop := ∀ a o, H a = some o → zbT P w H h a o
end
section
variable {P : Program} {w : World} {H H' : Hp} {h h' : Heap} {a : Addr} {o : HO}
theorem zbT.lt (x : zbT P w H h a o) : a < h.objs.size := by
  cases o with
  | lst xs => obtain ⟨_, _, _, _, e⟩ := x; exact Heap.lt_size e
  | tup xs => obtain ⟨_, _, _, p⟩ := x; exact p.lt
  | dK kvs => obtain ⟨_, _, _, _, o, _, _, e, _⟩ := x; exact Heap.lt_size e
  | dT kvs => obtain ⟨_, _, _, _, o, _, _, e, _⟩ := x; exact Heap.lt_size e
  | set S n => obtain ⟨o, _, _, _, e, _⟩ := x; exact Heap.lt_size e
  | ins C dx fs => obtain ⟨_, _, _, e, _⟩ := x; exact Heap.lt_size e
  | own y => obtain ⟨_, e⟩ := x; exact Heap.lt_size e
  | xd fs => obtain ⟨_, ⟨_, _, _, e, _⟩, _⟩ := x; exact Heap.lt_size e
  | rng lo hi => obtain ⟨_, _, _, e⟩ := x; exact Heap.lt_size e
  | frz ob u => obtain ⟨e, _⟩ := x; exact Heap.lt_size e
  | tbl ps => exact Heap.lt_size (show h.get? a = some _ from x)
  | met f y => exact Heap.lt_size (show h.get? a = some _ from x)
  | ext φ => obtain ⟨_, ⟨_, e⟩, _⟩ := x; exact Heap.lt_size e
theorem Paired.mapP {α β : Type} {F G : α → β → Prop} : ∀ {l₁ : List α} {l₂ : List β}, Paired F l₁ l₂ → (∀ a b, F a b → G a b) → Paired G l₁ l₂
  | _, _, .nil, _ => .nil
  | _, _, .cons r t, f => .cons (f _ _ r) (Paired.mapP t f)
theorem zbT.stay (x : zbT P w H h a o) (k : ∀ b u, (b = a ∨ H b = some (.own a)) → h.get? b = some u → h'.get? b = some u)
    (ho : ∀ b, H b = some (.own a) → H' b = some (.own a)) (ht : ∀ b xs, H b = some (.tup xs) → H' b = some (.tup xs)) : zbT P w H' h' a o := by
  induction o with
  | lst xs => obtain ⟨z, its, n, r, e⟩ := x; exact ⟨z, its, n, r, k _ _ (.inl rfl) e⟩
  | tup xs => obtain ⟨z, its, r, ob, e, c⟩ := x; exact ⟨z, its, r, ob, k _ _ (.inl rfl) e, c⟩
  | dK kvs => obtain ⟨z, y, vs, r, ob, es, ep, e, c⟩ := x; exact ⟨z, y, vs, r, ob, es, ep, k _ _ (.inl rfl) e, c⟩
  | dT kvs =>
    obtain ⟨z, y, xs, r, ob, es, ep, e, c⟩ := x
    exact ⟨z, y, xs, Paired.mapP r fun p q z => ⟨z.1, ht _ _ z.2.1, z.2.2⟩, ob, es, ep, k _ _ (.inl rfl) e, c⟩
  | set S n => obtain ⟨ob, es, ep, t, e, c⟩ := x; exact ⟨ob, es, ep, t, k _ _ (.inl rfl) e, c⟩
  | ins C dx fs =>
    obtain ⟨d, z, ne, e, mA, ⟨od, es, ep, e2, c⟩, r⟩ := x
    exact ⟨ho _ d, z, ne, k _ _ (.inl rfl) e, mA, ⟨od, es, ep, k _ _ (.inr d) e2, c⟩, r⟩
  | own y => obtain ⟨ob, e⟩ := x; exact ⟨ob, k _ _ (.inl rfl) e⟩
  | xd fs => obtain ⟨mA, ⟨od, es, ep, e, c⟩, r⟩ := x; exact ⟨mA, ⟨od, es, ep, k _ _ (.inl rfl) e, c⟩, r⟩
  | rng lo hi => obtain ⟨t, u, v, e⟩ := x; exact ⟨t, u, v, k _ _ (.inl rfl) e⟩
  | frz ob u ih => obtain ⟨e, q⟩ := x; exact ⟨k _ _ (.inl rfl) e, ih q⟩
  | tbl ps =>
    have e : h.get? a = some { cls := .none, data := .fields ps } := x
    show h'.get? a = some { cls := .none, data := .fields ps }
    exact k a _ (.inl rfl) e
  | met f y =>
    have e : h.get? a = some (PySem.W.methodObj (.ref f) (.ref y)) := x
    show h'.get? a = some (PySem.W.methodObj (.ref f) (.ref y))
    exact k a _ (.inl rfl) e
  | ext φ => obtain ⟨p, ⟨o, e⟩, st⟩ := x; exact ⟨st _ _ p fun o q => k _ _ (.inl rfl) q, ⟨o, k _ _ (.inl rfl) e⟩, st⟩
theorem HOk.lt (x : HOk P w H h) (e : H a = some o) : a < h.objs.size := (x a o e).lt
theorem HOk.fresh (x : HOk P w H h) (e : h.objs.size ≤ a) : H a = none := by
  cases q : H a with
  | none => rfl
  | some u => exact absurd (Nat.lt_of_lt_of_le (x.lt q) e) (Nat.lt_irrefl _)
theorem HOk.kept (x : HOk P w H h) (k : ∀ b u, h.get? b = some u → h'.get? b = some u) : HOk P w H h' := fun a o e =>
  (x a o e).stay (fun b u _ q => k b u q) (fun _ q => q) fun _ _ q => q
theorem HOk.laid (x : HOk P w H h) (k : ∀ b u, h.get? b = some u → h'.get? b = some u) (hp : h.objs.size ≤ a) (new : zbT P w (upd H a o) h' a o) : HOk P w (upd H a o) h' := fun b u e => by
  have hn := x.fresh hp
  by_cases hb : b = a
  · subst hb; rw [zac] at e; cases e; exact new
  · rw [zah hb] at e
    exact (x b u e).stay (fun c v _ q => k c v q) (fun c q => by rw [zah (zab q hn)]; exact q) fun c xs q => by rw [zah (zab q hn)]; exact q
end
def Rd (H : Hp) (a : Addr) (u : HO) : Prop := H a = some u ∨ ∃ o, H a = some (.frz o u)
theorem Rd.of {H : Hp} {a : Addr} {u : HO} (h : H a = some u) : Rd H a u := .inl h
theorem Rd.ok {P : Program} {w : World} {H : Hp} {h : Heap} {a : Addr} {u : HO} (r : Rd H a u) (x : HOk P w H h) : zbT P w H h a u := by
  rcases r with r | ⟨o, r⟩
  · exact x a u r
  · obtain ⟨_, q⟩ := x a _ r
    exact q
def Mut : Option HO → Prop
  | some (.lst _) => True
  | some (.dK _) => True
  | some (.dT _) => True
  | some (.set _ _) => True
  | some (.ins _ _ _) => True
  | some (.ext _) => True
  | _ => False
section
variable {P : Program} {w : World} {H : Hp} {h h' : Heap} {x e : Addr} {o' : HO}
theorem HOk.write (ok : HOk P w H h) (mu : Mut (H x)) (he : e = x ∨ H e = some (.own x)) (k : ∀ b u, b ≠ e → h.get? b = some u → h'.get? b = some u) (heo : ∃ u, h'.get? e = some u)
    (new : zbT P w (upd H x o') h' x o') : HOk P w (upd H x o') h' := fun b u q => by
  have nown : ∀ c y, H c = some (.own y) → c ≠ x := fun c y r z => by subst z; rw [r] at mu; exact mu
  have ntup : ∀ c xs, H c = some (.tup xs) → c ≠ x := fun c xs r z => by subst z; rw [r] at mu; exact mu
  by_cases hb : b = x
  · subst hb; rw [zac] at q; cases q; exact new
  · rw [zah hb] at q
    by_cases hbe : b = e
    · have q' : H b = some (.own x) := by
        rcases he with z | z
        · exact absurd (hbe.trans z) hb
        · rw [hbe]; exact z
      rw [q] at q'; cases q'
      obtain ⟨v, hv⟩ := heo
      exact ⟨v, by rw [hbe]; exact hv⟩
    · refine (ok b u q).stay (fun c v hc r => k c v ?_ r) (fun c r => by rw [zah (nown c b r)]; exact r) fun c xs r => by rw [zah (ntup c xs r)]; exact r
      rcases hc with rfl | hc
      · exact hbe
      · rintro rfl
        rcases he with z | z
        · exact nown c b hc z
        · rw [hc] at z; cases z; exact hb rfl
end
structure Un (fs ex : List Addr) (H H' : Hp) (h h' : Heap) : Prop where
  keep : ∀ b o, h.get? b = some o → H b = none → b ∉ fs → b ∉ ex → h'.get? b = some o
  slot : ∀ b o, h.get? b = some o → H b = none → b ∈ fs → b ∉ ex → ∃ sl, h'.get? b = some { o with slots := sl }
  free : ∀ b o, h.get? b = some o → H b = none → b ∉ ex → H' b = none
  there : ∀ b o, h.get? b = some o → b ∉ ex → ∃ o', h'.get? b = some o'
  tups : ∀ b xs, H b = some (.tup xs) → H' b = some (.tup xs)
  frzs : ∀ b o u, H b = some (.frz o u) → H' b = some (.frz o u)
  tbls : ∀ b ps, H b = some (.tbl ps) → ∃ more, H' b = some (.tbl (ps ++ more))
section
variable {fs fs' ex ex' : List Addr} {H H1 H2 : Hp} {h h1 h2 h' : Heap} {a x e : Addr} {o : HO}
theorem Un.any (u : Un fs ex H H1 h h1) {b : Addr} {ob : Obj} (q : h.get? b = some ob) (n : H b = none) (hx : b ∉ ex) : ∃ sl, h1.get? b = some { ob with slots := sl } := by
  by_cases hb : b ∈ fs
  · exact u.slot b ob q n hb hx
  · exact ⟨ob.slots, u.keep b ob q n hb hx⟩
theorem Un.trans (a : Un fs ex H H1 h h1) (b : Un fs ex H1 H2 h1 h2) : Un fs ex H H2 h h2 where
  keep := fun c ob q n hc hx => b.keep c ob (a.keep c ob q n hc hx) (a.free c ob q n hx) hc hx
  slot := fun c ob q n hc hx => by
    obtain ⟨sl, e1⟩ := a.slot c ob q n hc hx
    obtain ⟨sl', e2⟩ := b.slot c _ e1 (a.free c ob q n hx) hc hx
    exact ⟨sl', e2⟩
  free := fun c ob q n hx => by
    obtain ⟨o', e1⟩ := a.there c ob q hx
    exact b.free c o' e1 (a.free c ob q n hx) hx
  there := fun c ob q hx => by
    obtain ⟨o', e1⟩ := a.there c ob q hx
    exact b.there c o' e1 hx
  tups := fun c xs q => b.tups c xs (a.tups c xs q)
  frzs := fun c ob xs q => b.frzs c ob xs (a.frzs c ob xs q)
  tbls := fun c ps q => by
    obtain ⟨m1, e1⟩ := a.tbls c ps q
    obtain ⟨m2, e2⟩ := b.tbls c _ e1
    exact ⟨m1 ++ m2, by rw [e2, Array.append_assoc]⟩
theorem Un.kept (k : ∀ b u, h.get? b = some u → h'.get? b = some u) : Un fs ex H H h h' :=
  ⟨fun b ob q _ _ _ => k b ob q, fun b ob q _ _ _ => ⟨ob.slots, k b ob q⟩, fun _ _ _ n _ => n, fun b ob q _ => ⟨ob, k b ob q⟩, fun _ _ q => q, fun _ _ _ q => q, fun _ ps q => ⟨#[], by rw [q]; simp⟩⟩
theorem Un.refl : Un fs ex H H h h := Un.kept fun _ _ q => q
theorem Un.laid (k : ∀ b u, h.get? b = some u → h'.get? b = some u) (hp : h.objs.size ≤ a) (hn : H a = none) : Un fs ex H (upd H a o) h h' where
  keep := fun b u q _ _ _ => k b u q
  slot := fun b u q _ _ _ => ⟨u.slots, k b u q⟩
  free := fun b u q n _ => by rw [zah (Nat.ne_of_lt (Nat.lt_of_lt_of_le (Heap.lt_size q) hp))]; exact n
  there := fun b u q _ => ⟨u, k b u q⟩
  tups := fun b xs q => by rw [zah (zab q hn)]; exact q
  frzs := fun b u xs q => by rw [zah (zab q hn)]; exact q
  tbls := fun b ps q => ⟨#[], by rw [zah (zab q hn), q]; simp⟩
theorem Un.write (mu : Mut (H x)) (he : e = x ∨ H e = some (.own x)) (k : ∀ b u, b ≠ e → h.get? b = some u → h'.get? b = some u) (heo : ∃ u, h'.get? e = some u) : Un fs ex H (upd H x o) h h' := by
  have hx : ∀ b, H b = none → b ≠ x := fun b n z => by subst z; rw [n] at mu; exact mu
  have hb : ∀ b, H b = none → b ≠ e := fun b n z => by
    subst z
    rcases he with r | r
    · exact hx b n r
    · rw [n] at r; cases r
  have hm : ∀ b u, H b = some u → ¬ Mut (some u) → b ≠ x := fun b u q nm z => by subst z; rw [q] at mu; exact nm mu
  refine ⟨fun b u q n _ _ => k b u (hb b n) q, fun b u q n _ _ => ⟨u.slots, k b u (hb b n) q⟩, fun b u q n _ => by rw [zah (hx b n)]; exact n, fun b u q _ => ?_,
    fun b xs q => by rw [zah (hm b _ q fun z => z)]; exact q, fun b u xs q => by rw [zah (hm b _ q fun z => z)]; exact q, fun b ps q => ⟨#[], by rw [zah (hm b _ q fun z => z), q]; simp⟩⟩
  by_cases hbe : b = e
  · subst hbe; exact heo
  · exact ⟨u, k b u hbe q⟩
theorem Un.mono (u : Un fs ex H H1 h h1) (hs : ∀ b ∈ fs, b ∈ fs') (hx : ∀ b ∈ ex, b ∈ ex') : Un fs' ex' H H1 h h1 :=
  ⟨fun b ob q n hb he => u.keep b ob q n (fun z => hb (hs b z)) fun z => he (hx b z), fun _ _ q n _ he => u.any q n fun z => he (hx _ z), fun b ob q n he => u.free b ob q n fun z => he (hx b z), fun b ob q he => u.there b ob q fun z => he (hx b z), u.tups, u.frzs, u.tbls⟩
end
def trk (h : Heap) (H : Hp) : List Addr := (List.range h.objs.size).filter fun a => (H a).isSome
def hidT (h : Heap) (H : Hp) : Heap := PySem.W.hideAll h (trk h H)
theorem zkK (h : Heap) (H : Hp) : (hidT h H).objs.size = h.objs.size := PySem.W.hideAll_size _ _
theorem zl4 {h : Heap} {H : Hp} {b : Addr} {o : Obj} (e : h.get? b = some o) (n : H b = none) : (hidT h H).get? b = some o :=
  PySem.W.hideAll_get _ e fun hm => by
    have q : (H b).isSome = true := (List.mem_filter.mp hm).2
    rw [n] at q; simp at q
theorem znl {h : Heap} {H : Hp} {b : Addr} {o : Obj} (e : (hidT h H).get? b = some o) : h.get? b = some o ∧ H b = none := by
  have e' : h.get? b = some o := PySem.W.of_hideAll (trk h H) e
  refine ⟨e', ?_⟩
  cases q : H b with
  | none => rfl
  | some x =>
    have hm : b ∈ trk h H := List.mem_filter.mpr ⟨List.mem_range.mpr (Heap.lt_size e'), by simp [q]⟩
    have z : (hidT h H).get? b = none := PySem.W.hideAll_none (trk h H) hm
    rw [z] at e; cases e
def znO (g h : Heap) (L : Addr) : List (Addr × Obj) := (List.range h.objs.size).filterMap fun a => if a = L ∨ (g.get? a).isSome = true then none else (h.get? a).map fun o => (a, o)
def rest (g h : Heap) (L d : Addr) : List (Addr × Obj) := (znO g h L).filter fun p => decide (p.1 ≠ d)
end L2
namespace L2
open PySem PySem.Spec PyProof.Rows
structure Mod (K : PySem.W.Frag) (mg : Str → Option Value) (base : Heap) : Prop where
  kin : K.In base
  glob : base.Ns mainGlobals mg
  blt : ∃ mb, base.Ns builtinsNs mb ∧ ∀ x : Str, x ≠ "__name__" → mb x = bootBuiltins x
  nolimit : base.NoLimit
structure Cx where
  prog : Program
  w : World
  K : PySem.W.Frag
  mg : Str → Option Value
  base : Heap
  A : Around
  N : List Str
  s₀ : Shared
  H₀ : Hp
  env : Env
  outer : List Env
  stack : List Env
  ex : List Addr
  fn : Str → Bool
  calm : Bool
  pn : List (Addr × Obj)
  xe : Value → Shared → Prop
def frs (l : List Env) : List Addr := l.filterMap (·.frame)
abbrev Cx.fs (X : Cx) : List Addr := frs X.outer
def Vis (sc : Scope) (x : Str) : Prop := sc.names.lookup x = some .local ∨ sc.names.lookup x = some .cell ∨ sc.names.lookup x = some .free
def Loc (sc : Scope) (x : Str) : Prop := sc.names.lookup x = some .local ∨ sc.names.lookup x = some .cell
def Look (env : Env) (h : Heap) (m : Str → Option Value) (x : Str) (u : Value) : Prop :=
  (env.kindOf x = some .local ∧ m x = some u) ∨ ((env.kindOf x = some .cell ∨ env.kindOf x = some .free) ∧ ∃ c, env.cells.lookup x = some c ∧ h.IsCell c (some u))
structure Cx.Ok (X : Cx) : Prop where
  mod : Mod X.K X.mg X.base
  kind : X.env.scope.kind = .function
  glob : X.env.globals = mainGlobals
  blt : X.env.builtins = builtinsNs
  above : X.s₀.heap.objs.size ≤ X.env.locals
  inj : ∀ x y c, X.env.cells.lookup x = some c → X.env.cells.lookup y = some c → x = y
  has : ∀ x, (X.env.kindOf x = some .cell ∨ X.env.kindOf x = some .free) → ∃ c, X.env.cells.lookup x = some c
  cab : ∀ x c, X.fn x = true → X.env.cells.lookup x = some c → X.s₀.heap.objs.size ≤ c
  hd : X.calm = true → X.A.handled = none
  frames : X.A.frames = some X.stack
  stk : X.stack = X.outer ∨ (X.stack = X.env :: X.outer ∧ X.env.frame = some X.env.locals)
  exf : ∀ b ∈ X.ex, b ≠ X.env.locals ∧ ∀ x c, X.env.cells.lookup x = some c → c ≠ b
  bs : ∀ b o, X.base.get? b = some o → X.s₀.heap.get? b = some o ∧ X.H₀ b = none
  bsz : X.base.objs.size ≤ X.s₀.heap.objs.size
  noex : ∀ b o, X.base.get? b = some o → b ∉ X.ex
  exfs : ∀ b ∈ X.ex, b ∉ X.fs
  funs : X.s₀.heap.FunFrames X.base X.outer
  frf : ∀ b ∈ X.fs, X.H₀ b = none
structure Inv (X : Cx) (pins : List (Addr × Obj)) (σ : List (Option V)) (H : Hp) (s : Shared) : Prop where
  ok : X.Ok
  os : s.os = X.s₀.os
  bare : AllBare s.gens
  base : Un X.fs X.ex X.H₀ H X.s₀.heap s.heap
  loc : ∃ m, s.heap.Ns X.env.locals m ∧ ∀ (i : Nat) (x : Str) (v : V), X.N[i]? = some x → σ[i]? = some (some v) → Vis X.env.scope x → ∃ u, RelV v u ∧ Look X.env s.heap m x u
  cell : ∀ x c, X.env.cells.lookup x = some c → ∃ v, s.heap.IsCell c v
  free : H X.env.locals = none
  freeC : ∀ x c, X.env.cells.lookup x = some c → H c = none
  pin : ∀ p ∈ X.pn ++ pins, s.heap.get? p.1 = some p.2 ∧ H p.1 = none ∧ p.1 ≠ X.env.locals ∧ p.1 ∉ X.fs ∧ ∀ v, p.2.data ≠ .cell v
  hok : HOk X.prog X.w H s.heap
  len : σ.length = X.N.length
section
variable {X : Cx} {pins : List (Addr × Obj)} {σ : List (Option V)} {H H' : Hp} {s : Shared} {h' : Heap}
theorem Cx.Ok.nofr (ok : X.Ok) {b : Addr} {o : Obj} (e : X.base.get? b = some o) : b ∉ X.fs := fun hb => by
  have := (ok.funs.mem hb).1
  rw [e] at this; cases this
theorem Inv.bs (I : Inv X pins σ H s) : ∀ b o, X.base.get? b = some o → s.heap.get? b = some o ∧ H b = none := fun b o e =>
  ⟨I.base.keep b o (I.ok.bs b o e).1 (I.ok.bs b o e).2 (I.ok.nofr e) (I.ok.noex b o e), I.base.free b o (I.ok.bs b o e).1 (I.ok.bs b o e).2 (I.ok.noex b o e)⟩
theorem Inv.bk (I : Inv X pins σ H s) : ∀ b o, X.base.get? b = some o → s.heap.get? b = some o := fun b o e => (I.bs b o e).1
theorem Inv.mod (I : Inv X pins σ H s) : Mod X.K X.mg X.base := I.ok.mod
theorem Inv.kIn (I : Inv X pins σ H s) : X.K.In s.heap := I.ok.mod.kin.keeps I.bk
theorem Inv.nolimit (I : Inv X pins σ H s) : s.heap.NoLimit := I.ok.mod.nolimit.keeps I.bk
theorem Inv.fr (I : Inv X pins σ H s) : ∃ m, Fr X.base X.env.locals s.heap m :=
  let ⟨m, hn, _⟩ := I.loc
  ⟨m, hn, I.bk, Nat.le_trans I.ok.bsz I.ok.above⟩
theorem Inv.lt (I : Inv X pins σ H s) : X.env.locals < s.heap.objs.size := let ⟨_, hn, _⟩ := I.loc; hn.lt
theorem Inv.sz (I : Inv X pins σ H s) : X.s₀.heap.objs.size ≤ s.heap.objs.size := Nat.le_trans I.ok.above (Nat.le_of_lt I.lt)
theorem Inv.nofs (I : Inv X pins σ H s) {a : Addr} (h : s.heap.objs.size ≤ a) : a ∉ X.fs := fun hb => by
  obtain ⟨_, o, ho, _⟩ := I.ok.funs.mem hb
  exact absurd (Nat.lt_of_lt_of_le (Heap.lt_size ho) (Nat.le_trans I.sz h)) (Nat.lt_irrefl _)
theorem Inv.cne (I : Inv X pins σ H s) : ∀ x c, X.env.cells.lookup x = some c → c ≠ X.env.locals := fun x c e z => by
  obtain ⟨v, o, ho, hd⟩ := I.cell x c e
  obtain ⟨m, ⟨o', es, ep, ho', hd', _⟩, _⟩ := I.loc
  rw [z, ho'] at ho; cases ho; rw [hd'] at hd; cases hd
theorem Inv.funs (I : Inv X pins σ H s) : s.heap.FunFrames X.base X.outer := by
  have all : ∀ (l : List Env), (∀ b ∈ frs l, b ∈ X.fs) → X.s₀.heap.FunFrames X.base l → s.heap.FunFrames X.base l := by
    intro l
    induction l with
    | nil => intro _ _; trivial
    | cons env r ih =>
      intro hs hl
      obtain ⟨hk, ⟨L, o, hf, hn, ho, hd⟩, hr⟩ := hl
      have hL : L ∈ X.fs := hs L (by unfold frs; rw [List.filterMap_cons, hf]; exact List.mem_cons_self)
      obtain ⟨sl, e⟩ := I.base.slot L o ho (I.ok.frf L hL) hL fun z => I.ok.exfs L z hL
      exact ⟨hk, ⟨L, _, hf, hn, e, hd⟩, ih (fun b hb => hs b (by unfold frs; rw [List.filterMap_cons, hf]; exact List.mem_cons_of_mem _ hb)) hr⟩
  exact all X.outer (fun _ hb => hb) I.ok.funs
theorem Inv.stack (I : Inv X pins σ H s) : s.heap.FunFrames X.base X.stack := by
  rcases I.ok.stk with e | ⟨e, hf⟩
  · rw [e]; exact I.funs
  · rw [e]
    obtain ⟨m, hn, _⟩ := I.loc
    refine .cons (by rw [I.ok.kind]; decide) hf hn ?_ I.funs
    exact Heap.get?_none_of_le (Nat.le_trans I.ok.bsz I.ok.above)
theorem Inv.stkSub (I : Inv X pins σ H s) : ∀ b ∈ frs X.stack, b ∈ X.env.locals :: X.fs := fun b hb => by
  rcases I.ok.stk with e | ⟨e, hf⟩
  · rw [e] at hb; exact List.mem_cons_of_mem _ hb
  · rw [e] at hb
    unfold frs at hb
    rw [List.filterMap_cons, hf] at hb
    exact hb
theorem Inv.stkFree (I : Inv X pins σ H s) : ∀ b ∈ frs X.stack, H b = none := fun b hb => by
  rcases List.mem_cons.mp (I.stkSub b hb) with e | hb
  · rw [e]; exact I.free
  · obtain ⟨_, o, ho, _⟩ := I.ok.funs.mem hb
    exact I.base.free b o ho (I.ok.frf b hb) fun z => I.ok.exfs b z hb
theorem Inv.step {g' : Array GenState} {t' : Nat} {d' : Drawn} {ch : List Addr} (I : Inv X pins σ H s)
    (hch : ∀ b ∈ ch, (b ∈ X.ex ∨ X.s₀.heap.objs.size ≤ b) ∧ b ≠ X.env.locals ∧ (∀ x c, X.env.cells.lookup x = some c → c ≠ b) ∧ ∀ p ∈ X.pn ++ pins, p.1 ≠ b)
    (keep : ∀ b o, b ≠ X.env.locals → b ∉ X.fs → b ∉ ch → s.heap.get? b = some o → H b = none → h'.get? b = some o)
    (slot : ∀ b o, b ≠ X.env.locals → b ∈ X.fs → b ∉ ch → s.heap.get? b = some o → H b = none → ∃ sl, h'.get? b = some { o with slots := sl }) (free : ∀ b o, b ∉ ch → s.heap.get? b = some o → H b = none → H' b = none)
    (there : ∀ b o, b ∉ ch → s.heap.get? b = some o → ∃ o', h'.get? b = some o')
    (tups : ∀ b xs, H b = some (.tup xs) → H' b = some (.tup xs)) (frzs : ∀ b o u, H b = some (.frz o u) → H' b = some (.frz o u)) (tbls : ∀ b ps, H b = some (.tbl ps) → ∃ more, H' b = some (.tbl (ps ++ more)))
    (ns : ∀ m, s.heap.Ns X.env.locals m → h'.Ns X.env.locals m) (hok : HOk X.prog X.w H' h') (hg : AllBare g') :
    Inv X pins σ H' { s with heap := h', gens := g', drawn := d', toks := t' } := by
  have neL : ∀ b o, X.s₀.heap.get? b = some o → b ≠ X.env.locals := fun b o e => Nat.ne_of_lt (Nat.lt_of_lt_of_le (Heap.lt_size e) I.ok.above)
  have neC : ∀ b o, X.s₀.heap.get? b = some o → b ∉ X.ex → b ∉ ch := fun b o e hx hb => by
    rcases (hch b hb).1 with z | z
    · exact hx z
    · exact absurd (Nat.lt_of_lt_of_le (Heap.lt_size e) z) (Nat.lt_irrefl _)
  have cellK : ∀ x c, X.env.cells.lookup x = some c → ∀ v, s.heap.IsCell c v → h'.IsCell c v := fun x c e v ⟨o, ho, hd⟩ => by
    have nch : c ∉ ch := fun z => (hch c z).2.2.1 x c e rfl
    by_cases hc : c ∈ X.fs
    · obtain ⟨sl, q⟩ := slot c o (I.cne x c e) hc nch ho (I.freeC x c e)
      exact ⟨_, q, hd⟩
    · exact ⟨o, keep c o (I.cne x c e) hc nch ho (I.freeC x c e), hd⟩
  refine ⟨I.ok, I.os, hg, ⟨fun b o e n hb hx => ?_, fun b o e n hb hx => ?_, fun b o e n hx => ?_, fun b o e hx => ?_, fun b xs e => tups b xs (I.base.tups b xs e), fun b o xs e => frzs b o xs (I.base.frzs b o xs e), fun b ps e => ?_⟩, ?_, fun x c e => ?_, ?_, fun x c e => ?_, fun p hp => ?_, hok, I.len⟩
  · exact keep b o (neL b o e) hb (neC b o e hx) (I.base.keep b o e n hb hx) (I.base.free b o e n hx)
  · obtain ⟨sl, e1⟩ := I.base.slot b o e n hb hx
    obtain ⟨sl', e2⟩ := slot b _ (neL b o e) hb (neC b o e hx) e1 (I.base.free b o e n hx)
    exact ⟨sl', e2⟩
  · obtain ⟨o', e1⟩ := I.base.there b o e hx
    exact free b o' (neC b o e hx) e1 (I.base.free b o e n hx)
  · obtain ⟨o', e1⟩ := I.base.there b o e hx
    exact there b o' (neC b o e hx) e1
  · obtain ⟨m1, e1⟩ := I.base.tbls b ps e
    obtain ⟨m2, e2⟩ := tbls b _ e1
    exact ⟨m1 ++ m2, by rw [e2, Array.append_assoc]⟩
  · obtain ⟨m, hn, hl⟩ := I.loc
    refine ⟨m, ns m hn, fun i x v e1 e2 e3 => ?_⟩
    obtain ⟨u, r, l⟩ := hl i x v e1 e2 e3
    refine ⟨u, r, ?_⟩
    rcases l with l | ⟨k, c, e, z⟩
    · exact .inl l
    · exact .inr ⟨k, c, e, cellK x c e _ z⟩
  · obtain ⟨v, z⟩ := I.cell x c e
    exact ⟨v, cellK x c e v z⟩
  · obtain ⟨m, ⟨o, _, _, ho, _⟩, _⟩ := I.loc
    exact free _ o (fun z => (hch _ z).2.1 rfl) ho I.free
  · obtain ⟨v, o, ho, hd⟩ := I.cell x c e
    exact free c o (fun z => (hch c z).2.2.1 x c e rfl) ho (I.freeC x c e)
  · obtain ⟨e, n, ne, nf, d⟩ := I.pin p hp
    have nch : p.1 ∉ ch := fun z => (hch p.1 z).2.2.2 p hp rfl
    exact ⟨keep p.1 p.2 ne nf nch e n, free p.1 p.2 nch e n, ne, nf, d⟩
theorem Inv.un {t' : Nat} (I : Inv X pins σ H s) (u : Un X.fs [] H H' s.heap h') (hok : HOk X.prog X.w H' h') : Inv X pins σ H' { s with heap := h', toks := t' } := by
  obtain ⟨m, ⟨o, es, ep, ho, r⟩, _⟩ := id I.loc
  obtain ⟨sl, hL⟩ := u.any ho I.free (by simp)
  exact I.step (g' := s.gens) (d' := s.drawn) (ch := []) (fun _ z => nomatch z) (fun b o _ hb _ e n => u.keep b o e n hb (by simp)) (fun b o _ hb _ e n => u.slot b o e n hb (by simp)) (fun b o _ e n => u.free b o e n (by simp)) (fun b o _ e => u.there b o e (by simp)) u.tups u.frzs u.tbls (fun m' hm => by
    obtain ⟨o', es', ep', ho', r'⟩ := hm
    rw [ho] at ho'; cases ho'
    exact ⟨_, es', ep', hL, r'⟩) hok I.bare
theorem Inv.call {g' : Array GenState} {t' : Nat} {d' : Drawn} {ch : List Addr} (I : Inv X pins σ H s) (u : Un (frs X.stack) ch H H' s.heap h') (hok : HOk X.prog X.w H' h') (hg : AllBare g')
    (hch : ∀ b ∈ ch, (b ∈ X.ex ∨ X.s₀.heap.objs.size ≤ b) ∧ b ≠ X.env.locals ∧ (∀ x c, X.env.cells.lookup x = some c → c ≠ b) ∧ ∀ p ∈ X.pn ++ pins, p.1 ≠ b) :
    Inv X pins σ H' { s with heap := h', gens := g', drawn := d', toks := t' } := by
  obtain ⟨m, ⟨o, es, ep, ho, r⟩, _⟩ := id I.loc
  obtain ⟨sl, hL⟩ := u.any ho I.free fun z => (hch _ z).2.1 rfl
  exact I.step (ch := ch) hch (fun b o hL hb hc e n => u.keep b o e n (fun z => (List.mem_cons.mp (I.stkSub b z)).elim hL hb) hc) (fun b o _ _ hc e n => u.any e n hc) (fun b o hc e n => u.free b o e n hc) (fun b o hc e => u.there b o e hc) u.tups u.frzs u.tbls (fun m' hm => by
    obtain ⟨o', es', ep', ho', r'⟩ := hm
    rw [ho] at ho'; cases ho'
    exact ⟨_, es', ep', hL, r'⟩) hok hg
theorem Inv.turned {t' : Nat} {it : Addr} (I : Inv X pins σ H s) (k : ∀ b o, b ≠ it → s.heap.get? b = some o → h'.get? b = some o) (hn : H it = none) (hL : it ≠ X.env.locals)
    (h1 : it ∈ X.ex ∨ X.s₀.heap.objs.size ≤ it) (h2 : ∀ x c, X.env.cells.lookup x = some c → c ≠ it) (h3 : ∀ p ∈ X.pn ++ pins, p.1 ≠ it) : Inv X pins σ H { s with heap := h', toks := t' } := by
  have nit : ∀ b u, H b = some u → b ≠ it := fun b u e z => by rw [z, hn] at e; cases e
  refine I.step (g' := s.gens) (d' := s.drawn) (ch := [it]) (fun b hb => ?_) (fun b o _ _ hc e _ => k b o (fun z => hc (by simp [z])) e) (fun b o _ _ hc e _ => ⟨o.slots, k b o (fun z => hc (by simp [z])) e⟩) (fun _ _ _ _ n => n)
    (fun b o hc e => ⟨o, k b o (fun z => hc (by simp [z])) e⟩) (fun _ _ e => e) (fun _ _ _ e => e) (fun b ps e => ⟨#[], by rw [e]; simp⟩) (fun m hm => ?_) (fun b u e => ?_) I.bare
  · have e : b = it := by simpa using hb
    subst e
    exact ⟨h1, hL, h2, h3⟩
  · obtain ⟨o, es, ep, ho, r⟩ := hm
    exact ⟨o, es, ep, k _ o (Ne.symm hL) ho, r⟩
  · refine (I.hok b u e).stay (fun c v hc q => k c v ?_ q) (fun _ q => q) fun _ _ q => q
    rcases hc with z | z
    · rw [z]; exact nit b u e
    · exact nit c _ z
theorem Inv.tok (I : Inv X pins σ H s) (t : Nat) : Inv X pins σ H { s with toks := t } := I.un (h' := s.heap) (t' := t) Un.refl I.hok
theorem Inv.kept {t' : Nat} (I : Inv X pins σ H s) (k : ∀ b u, s.heap.get? b = some u → h'.get? b = some u) : Inv X pins σ H { s with heap := h', toks := t' } := I.un (Un.kept k) (I.hok.kept k)
theorem Inv.laid {a : Addr} {o : HO} {t' : Nat} (I : Inv X pins σ H s) (k : ∀ b u, s.heap.get? b = some u → h'.get? b = some u) (hp : s.heap.objs.size ≤ a) (new : zbT X.prog X.w (upd H a o) h' a o) :
    Inv X pins σ (upd H a o) { s with heap := h', toks := t' } := I.un (Un.laid k hp (I.hok.fresh hp)) (I.hok.laid k hp new)
theorem Inv.write {x e : Addr} {o : HO} {t' : Nat} (I : Inv X pins σ H s) (mu : Mut (H x)) (he : e = x ∨ H e = some (.own x)) (k : ∀ b u, b ≠ e → s.heap.get? b = some u → h'.get? b = some u) (heo : ∃ u, h'.get? e = some u)
    (new : zbT X.prog X.w (upd H x o) h' x o) : Inv X pins σ (upd H x o) { s with heap := h', toks := t' } := I.un (Un.write mu he k heo) (I.hok.write mu he k heo new)
theorem Inv.pins_of {pins' : List (Addr × Obj)} (I : Inv X pins σ H s) (h : ∀ p ∈ pins', s.heap.get? p.1 = some p.2 ∧ H p.1 = none ∧ p.1 ≠ X.env.locals ∧ p.1 ∉ X.fs ∧ ∀ v, p.2.data ≠ .cell v) : Inv X pins' σ H s :=
  ⟨I.ok, I.os, I.bare, I.base, I.loc, I.cell, I.free, I.freeC, fun p hp => (List.mem_append.mp hp).elim (fun z => I.pin p (List.mem_append_left _ z)) (h p), I.hok, I.len⟩
theorem zii {N : List Str} (hN : N.Nodup) {i j : Nat} {x : Str} (a : N[i]? = some x) (b : N[j]? = some x) : i = j := by
  obtain ⟨h1, e1⟩ := List.getElem?_eq_some_iff.mp a
  obtain ⟨h2, e2⟩ := List.getElem?_eq_some_iff.mp b
  exact (List.getElem_inj hN).mp (e1.trans e2.symm)
theorem zgq {M : Model} {A : Around} {E : Value → Shared → Prop} {i : Nat} {x : Str} {v : V} {u : Value} {Q : Unit → Shared → Prop} (I : Inv X pins σ H s) (hN : X.N.Nodup) (hi : X.N[i]? = some x) (hx : Loc X.env.scope x) (r : RelV v u)
    (h : ∀ s', Inv X pins (σ.set i (some v)) H s' → (∃ a, Heap.SameBut a s.heap s'.heap ∧ (a = X.env.locals ∨ X.env.cells.lookup x = some a)) → Q () s') (hf : X.fn x = true ∨ X.env.scope.names.lookup x = some .local := by first | exact .inl rfl | exact .inr rfl | assumption) : wpAny M A (storeName X.env x u) Q E s := by
  obtain ⟨m, hn, hl⟩ := id I.loc
  have hcls : (X.env.scope.kind == .class || (X.env.scope.kind == .module && X.env.locals != X.env.globals)) = false := by rw [I.ok.kind]; rfl
  have hiσ : i < σ.length := by rw [I.len]; exact (List.getElem?_eq_some_iff.mp hi).1
  have cne := I.cne
  have tracked : ∀ {a : Addr} {h' : Heap}, (∃ o, s.heap.get? a = some o ∧ H a = none) → Heap.SameBut a s.heap h' → HOk X.prog X.w H h' := fun {a h'} ha hs b ob e => by
    obtain ⟨_, _, hfree⟩ := ha
    refine (I.hok b ob e).stay (fun c w' hc q => (hs.2 c ?_).trans q) (fun _ q => q) fun _ _ q => q
    rintro rfl
    rcases hc with rfl | hc
    · rw [hfree] at e; cases e
    · rw [hfree] at hc; cases hc
  rcases hx with hk | hk
  · refine wpAny_storeName_local hk hn (fun h' hn' hs => ?_) hcls
    obtain ⟨oL, _, _, hoL, _⟩ := id hn
    refine h _ ⟨I.ok, I.os, I.bare, ⟨fun b o e n hb hx => ?_, fun b o e n hb hx => ?_, I.base.free, fun b o e hx => ?_, I.base.tups, I.base.frzs, I.base.tbls⟩, ⟨_, hn', fun j y v' e1 e2 e3 => ?_⟩, fun y c e => ?_, I.free, I.freeC, fun p hp => ?_, tracked ⟨oL, hoL, I.free⟩ hs, by simpa using I.len⟩ ⟨_, hs, .inl rfl⟩
    · exact (hs.2 b (Nat.ne_of_lt (Nat.lt_of_lt_of_le (Heap.lt_size e) I.ok.above))).trans (I.base.keep b o e n hb hx)
    · obtain ⟨sl, e1⟩ := I.base.slot b o e n hb hx
      exact ⟨sl, (hs.2 b (Nat.ne_of_lt (Nat.lt_of_lt_of_le (Heap.lt_size e) I.ok.above))).trans e1⟩
    · obtain ⟨o', e1⟩ := I.base.there b o e hx
      exact ⟨o', (hs.2 b (Nat.ne_of_lt (Nat.lt_of_lt_of_le (Heap.lt_size e) I.ok.above))).trans e1⟩
    · by_cases hj : j = i
      · subst hj
        rw [hi] at e1; cases e1
        rw [List.getElem?_set_self hiσ] at e2
        cases e2
        exact ⟨u, r, .inl ⟨hk, by simp⟩⟩
      · rw [List.getElem?_set_ne (Ne.symm hj)] at e2
        obtain ⟨u', r', q⟩ := hl j y v' e1 e2 e3
        refine ⟨u', r', ?_⟩
        rcases q with ⟨k, e⟩ | ⟨k, c, e, z⟩
        · refine .inl ⟨k, ?_⟩
          have : y ≠ x := fun e => hj (zii hN e1 (e ▸ hi))
          simp [this, e]
        · exact .inr ⟨k, c, e, z.sameBut hs (cne y c e)⟩
    · obtain ⟨w', z⟩ := I.cell y c e
      exact ⟨w', z.sameBut hs (cne y c e)⟩
    · obtain ⟨e, n, ne, nf, d⟩ := I.pin p hp
      exact ⟨(hs.2 p.1 ne).trans e, n, ne, nf, d⟩
  · have hfn : X.fn x = true := by
      rcases hf with z | z
      · exact z
      · rw [z] at hk; cases hk
    obtain ⟨c, hc⟩ := I.ok.has x (.inl hk)
    obtain ⟨w', z⟩ := I.cell x c hc
    refine wpAny_storeName_cell I.ok.kind hk hc z (fun h' hc' hs => ?_)
    obtain ⟨oc, hoc, hocd⟩ := id z
    refine h { s with heap := h' } ⟨I.ok, I.os, I.bare, ⟨fun b o e n hb hx => ?_, fun b o e n hb hx => ?_, I.base.free, fun b o e hx => ?_, I.base.tups, I.base.frzs, I.base.tbls⟩, ⟨m, hn.sameBut hs (Ne.symm (cne x c hc)), fun j y v' e1 e2 e3 => ?_⟩, fun y c' e => ?_, I.free, I.freeC, fun p hp => ?_, tracked ⟨oc, hoc, I.freeC x c hc⟩ hs, by simpa using I.len⟩ ⟨c, hs, .inr hc⟩
    · exact (hs.2 b (Nat.ne_of_lt (Nat.lt_of_lt_of_le (Heap.lt_size e) (I.ok.cab x c hfn hc)))).trans (I.base.keep b o e n hb hx)
    · obtain ⟨sl, e1⟩ := I.base.slot b o e n hb hx
      exact ⟨sl, (hs.2 b (Nat.ne_of_lt (Nat.lt_of_lt_of_le (Heap.lt_size e) (I.ok.cab x c hfn hc)))).trans e1⟩
    · obtain ⟨o', e1⟩ := I.base.there b o e hx
      exact ⟨o', (hs.2 b (Nat.ne_of_lt (Nat.lt_of_lt_of_le (Heap.lt_size e) (I.ok.cab x c hfn hc)))).trans e1⟩
    · by_cases hj : j = i
      · subst hj
        rw [hi] at e1; cases e1
        rw [List.getElem?_set_self hiσ] at e2
        cases e2
        exact ⟨u, r, .inr ⟨.inl hk, c, hc, hc'⟩⟩
      · rw [List.getElem?_set_ne (Ne.symm hj)] at e2
        obtain ⟨u', r', q⟩ := hl j y v' e1 e2 e3
        refine ⟨u', r', ?_⟩
        rcases q with q | ⟨k, c', e, z'⟩
        · exact .inl q
        · refine .inr ⟨k, c', e, z'.sameBut hs ?_⟩
          rintro rfl
          exact hj (zii hN e1 (I.ok.inj _ _ _ e hc ▸ hi))
    · by_cases hcc : c' = c
      · subst hcc; exact ⟨_, hc'⟩
      · obtain ⟨w2, z2⟩ := I.cell y c' e
        exact ⟨w2, z2.sameBut hs hcc⟩
    · obtain ⟨e, n, ne, nf, d⟩ := I.pin p hp
      refine ⟨(hs.2 p.1 ?_).trans e, n, ne, nf, d⟩
      intro q
      rw [q, hoc] at e
      have q' : oc = p.2 := Option.some.inj e
      exact d w' (by rw [← q']; exact hocd)
theorem zh0 {M : Model} {A : Around} {E : Value → Shared → Prop} {i : Nat} {x : Str} {v : V} {u : Value} {Q : Unit → Shared → Prop} (I : Inv X pins σ H s) (hN : X.N.Nodup) (hi : X.N[i]? = some x) (hx : Loc X.env.scope x) (r : RelV v u)
    (h : ∀ s', Inv X pins (σ.set i (some v)) H s' → Q () s') (hf : X.fn x = true ∨ X.env.scope.names.lookup x = some .local := by first | exact .inl rfl | exact .inr rfl | assumption) : wpAny M A (storeName X.env x u) Q E s :=
  zgq I hN hi hx r (fun s' I' _ => h s' I') hf
theorem Inv.call' {s' : Shared} {ch : List Addr} (I : Inv X pins σ H s) (ho : s'.os = s.os) (u : Un (frs X.stack) ch H H' s.heap s'.heap) (hok : HOk X.prog X.w H' s'.heap) (hg : AllBare s'.gens)
    (hch : ∀ b ∈ ch, (b ∈ X.ex ∨ X.s₀.heap.objs.size ≤ b) ∧ b ≠ X.env.locals ∧ (∀ x c, X.env.cells.lookup x = some c → c ≠ b) ∧ ∀ p ∈ X.pn ++ pins, p.1 ≠ b) : Inv X pins σ H' s' := by
  obtain ⟨h', g', d', t', o'⟩ := s'
  have e : o' = s.os := ho
  subst e
  exact I.call (g' := g') (t' := t') (d' := d') u hok hg hch
end
abbrev XK := Value → Option Addr → Hp → Prop
abbrev St := List (Option V)
abbrev VK := V → Hp → Prop
abbrev TE := St → Hp → VK → Prop
abbrev TT := St → Hp → (Bool → Hp → Prop) → Prop
abbrev TA := St → Hp → (List V → Hp → Prop) → Prop
structure Ends where
  nx : St → Hp → Prop
  rt : VK
  bk : St → Hp → Prop := fun _ _ => False
  ct : St → Hp → Prop := fun _ _ => False
abbrev TS := Ends → St → Hp → Prop
def EP (X : Cx) (pins : List (Addr × Obj)) (σ : St) (Q : VK) (u : Value) (s' : Shared) : Prop := ∃ v H', Inv X pins σ H' s' ∧ RelV v u ∧ Q v H'
def TP (X : Cx) (pins : List (Addr × Obj)) (σ : St) (Q : Bool → Hp → Prop) (b : Bool) (s' : Shared) : Prop := ∃ H', Inv X pins σ H' s' ∧ Q b H'
def AP (X : Cx) (pins : List (Addr × Obj)) (σ : St) (Q : List V → Hp → Prop) (us : List Value) (s' : Shared) : Prop := ∃ vs H', Inv X pins σ H' s' ∧ Vals vs us ∧ Q vs H'
def SP (X : Cx) (pins : List (Addr × Obj)) (D : Ends) (f : Flow) (s' : Shared) : Prop :=
  match f with
  | .next => ∃ σ' H', Inv X pins σ' H' s' ∧ D.nx σ' H'
  | .brk => ∃ σ' H', Inv X pins σ' H' s' ∧ D.bk σ' H'
  | .cont => ∃ σ' H', Inv X pins σ' H' s' ∧ D.ct σ' H'
  | .ret u => ∃ v σ' H', Inv X pins σ' H' s' ∧ RelV v u ∧ D.rt v H'
def PE (X : Cx) (e : Expr) (t : TE) : Prop :=
  ∀ (pins : List (Addr × Obj)) (s : Shared) (σ : St) (H : Hp) (Q : VK), Inv X pins σ H s → t σ H Q → wpAny (model X.prog X.w) X.A (eval e X.env) (EP X pins σ Q) X.xe s
def PT (X : Cx) (e : Expr) (t : TT) : Prop :=
  ∀ (pins : List (Addr × Obj)) (s : Shared) (σ : St) (H : Hp) (Q : Bool → Hp → Prop), Inv X pins σ H s → t σ H Q → wpAny (model X.prog X.w) X.A (isTrue e X.env (eval e X.env)) (TP X pins σ Q) X.xe s
def PW (X : Cx) (e : Expr) (t : TT) : Prop :=
  ∀ (whole : Sem Value) (pins : List (Addr × Obj)) (s : Shared) (σ : St) (H : Hp) (Q : Bool → Hp → Prop), Inv X pins σ H s → t σ H Q → wpAny (model X.prog X.w) X.A (isTrue e X.env whole) (TP X pins σ Q) X.xe s
theorem PW.pt {X : Cx} {e : Expr} {t : TT} (h : PW X e t) : PT X e t := h _
def PA (X : Cx) (es : List Expr) (t : TA) : Prop :=
  ∀ (pos : Pos) (pins : List (Addr × Obj)) (s : Shared) (σ : St) (H : Hp) (Q : List V → Hp → Prop), Inv X pins σ H s → t σ H Q → wpAny (model X.prog X.w) X.A (spliced (backTo pos (starEach es X.env))) (AP X pins σ Q) X.xe s
def PS (X : Cx) (st : Stmt) (t : TS) : Prop :=
  ∀ (pins : List (Addr × Obj)) (s : Shared) (σ : St) (H : Hp) (D : Ends), Inv X pins σ H s → t D σ H → wpAny (model X.prog X.w) X.A (exec st X.env) (SP X pins D) X.xe s
def PSs (X : Cx) (st : List Stmt) (t : TS) : Prop :=
  ∀ (pins : List (Addr × Obj)) (s : Shared) (σ : St) (H : Hp) (D : Ends), Inv X pins σ H s → t D σ H → wpAny (model X.prog X.w) X.A (execs st X.env) (SP X pins D) X.xe s
theorem thn {α : Type} {t : Sem α} {Q Q' : α → Shared → Prop} {M : Model} {A : Around} {E : Value → Shared → Prop} {s : Shared} (h : wpAny M A t Q E s) (hQ : ∀ a s, Q a s → Q' a s) : wpAny M A t Q' E s := wpAny_mono h hQ fun _ _ x => x
end L2
namespace L2
open PySem PySem.Spec PyProof.Rows
section
variable {X : Cx}
def tVar (i : Nat) : TE := fun σ H Q => ∃ v, σ[i]? = some (some v) ∧ Q v H
def tC (v : V) : TE := fun _ H Q => Q v H
theorem zoj {i : Nat} {x : Str} {pos : Pos} (hN : X.N[i]? = some x) (hv : Vis X.env.scope x) (hd : (x == ("__debug__" : Str)) = false := by decide) (hcd : (x == ("__classdict__" : Str)) = false := by decide) : PE X (.Name x pos) (tVar i) := by
  intro pins s σ H Q I h
  obtain ⟨v, e, h⟩ := h
  obtain ⟨m, hn, hl⟩ := I.loc
  obtain ⟨u, r, l⟩ := hl i x v hN e hv
  have fin : EP X pins σ Q u s := ⟨v, H, I, r, h⟩
  rcases l with ⟨hk, hm⟩ | ⟨hk, c, hc, hcell⟩
  · exact wpAny_Name (wpAny_loadName_local I.ok.kind hk hn hm fin) hd
  · rcases hk with hk | hk
    · exact wpAny_Name (wpAny_loadName_cell I.ok.kind hk hc hcell fin) hd
    · exact wpAny_Name (wpAny_loadName_free I.ok.kind hk hc hcell fin hcd) hd
theorem zaf {i j pos} : PE X (.Constant (.int i) j pos) (tC (.int i)) := fun _ _ _ H _ I h => wpAny_Constant_int ⟨.int i, H, I.tok _, ⟨_, rfl⟩, h⟩
theorem zhg {b j pos} : PE X (.Constant (.bool b) j pos) (tC (.bl b)) := fun _ _ _ H _ I h => Constant_bool ⟨.bl b, H, I, rfl, h⟩
theorem zol {j pos} : PE X (.Constant .none j pos) (tC .non) := fun _ _ _ H _ I h => Constant_none ⟨.non, H, I, rfl, h⟩
theorem zdb {x j pos} : PE X (.Constant (.str x) j pos) (tC (.str x)) := fun _ _ _ H _ I h => Calls.Constant_str ⟨.str x, H, I.tok _, ⟨_, rfl⟩, h⟩
def Gl (X : Cx) (x : Str) : Prop := X.env.kindOf x = some .globalImplicit
theorem zhs {E : Value → Shared → Prop} {pins : List (Addr × Obj)} {s : Shared} {σ : St} {H : Hp} {x : Str} {u : Value} {pos : Pos} {Q : Value → Shared → Prop} (I : Inv X pins σ H s) (hg : Gl X x) (hm : X.mg x = some u) (h : Q u s)
    (hd : (x == ("__debug__" : Str)) = false := by decide) : wpAny (model X.prog X.w) X.A (eval (.Name x pos) X.env) Q E s :=
  Calls.Name_function_global I.ok.kind hg (Calls.loadGlobal_global (by rw [I.ok.glob]; exact I.mod.glob.keeps I.bk) hm h) hd
theorem zeV {E : Value → Shared → Prop} {pins : List (Addr × Obj)} {s : Shared} {σ : St} {H : Hp} {x : Str} {u : Value} {pos : Pos} {Q : Value → Shared → Prop} (I : Inv X pins σ H s) (hg : Gl X x) (hm : X.mg x = none) (hv : bootBuiltins x = some u) (h : Q u s)
    (hn : x ≠ "__name__" := by decide) (hd : (x == ("__debug__" : Str)) = false := by decide) : wpAny (model X.prog X.w) X.A (eval (.Name x pos) X.env) Q E s := by
  obtain ⟨mb, h1, h2⟩ := I.mod.blt
  exact Calls.Name_function_global I.ok.kind hg (Calls.loadGlobal_builtin (by rw [I.ok.glob]; exact I.mod.glob.keeps I.bk) hm (by rw [I.ok.blt]; exact h1.keeps I.bk) ((h2 x hn).trans hv) h) hd
theorem znc {x : Str} {v : V} {u : Value} {pos : Pos} (hg : Gl X x) (hm : X.mg x = some u) (r : RelV v u) (hd : (x == ("__debug__" : Str)) = false := by decide) : PE X (.Name x pos) (tC v) :=
  fun _ _ _ H _ I h => zhs I hg hm ⟨v, H, I, r, h⟩ hd
def t2I (ta tb : TE) (k : Int → Int → Hp → Prop) : St → Hp → Prop := fun σ H => ta σ H fun x H1 => tb σ H1 fun y H2 => ∃ i j, x = .int i ∧ y = .int j ∧ k i j H2
def tAdd (ta tb : TE) : TE := fun σ H Q => t2I ta tb (fun i j H2 => Q (.int (i + j)) H2) σ H
def tSub (ta tb : TE) : TE := fun σ H Q => t2I ta tb (fun i j H2 => Q (.int (i - j)) H2) σ H
def tMul (ta tb : TE) : TE := fun σ H Q => t2I ta tb (fun i j H2 => (-(2 ^ 64) < i ∧ i < 2 ^ 64) ∧ Q (.int (i * j)) H2) σ H
variable {a b : Expr} {ta tb : TE} {pos : Pos}
def PC (X : Cx) (op : CmpOp) (a b : Expr) (t : TE) : Prop :=
  ∀ (pins : List (Addr × Obj)) (s : Shared) (σ : St) (H : Hp) (Q : VK), Inv X pins σ H s → t σ H Q →
    wpAny (model X.prog X.w) X.A (eval a X.env) (fun v s₁ => wpAny (model X.prog X.w) X.A (eval b X.env) (fun u s₂ => wpAny (model X.prog X.w) X.A (compareOp op v u) (EP X pins σ Q) X.xe s₂) X.xe s₁) X.xe s
def tCmp (p : Int → Int → Bool) (ta tb : TE) : TE := fun σ H Q => t2I ta tb (fun i j H2 => Q (.bl (p i j)) H2) σ H
abbrev tLt : TE → TE → TE := tCmp fun i j => decide (i < j)
abbrev tLe : TE → TE → TE := tCmp fun i j => decide (i ≤ j)
abbrev tGt : TE → TE → TE := tCmp fun i j => decide (j < i)
abbrev tGe : TE → TE → TE := tCmp fun i j => decide (j ≤ i)
abbrev tEqI : TE → TE → TE := tCmp fun i j => decide (i = j)
abbrev tNeI : TE → TE → TE := tCmp fun i j => !decide (i = j)
def tIsN (ta : TE) : TE := fun σ H Q => ta σ H fun x H1 => Q (.bl (decide (x = .non))) H1
def tNotN (ta : TE) : TE := fun σ H Q => ta σ H fun x H1 => Q (.bl (!decide (x = .non))) H1
def tB (t : TE) : TT := fun σ H Q => t σ H fun x H1 => ∃ c, x = .bl c ∧ Q c H1
theorem zj6 {e : Expr} {t : TE} (h : PE X e t) (he : ∀ whole, isTrue e X.env whole = (do let v ← whole; standAt e.pos; holding [v] (truthy v)) := by intro _; rfl) : PT X e (tB t) := by
  intro pins s σ H Q I hw
  refine isTrue_plain (thn (h pins s σ H _ I hw) fun v s1 ⟨x, H1, I1, r1, q1⟩ => ?_) (he _)
  obtain ⟨d, rfl, q⟩ := q1
  cases r1
  exact wpAny_truthy_bool ⟨H1, I1, q⟩
variable {tA tB' : TT} {rest : List Expr}
def tAnd (t u : TT) : TT := fun σ H Q => t σ H fun c H1 => if c = true then u σ H1 Q else Q false H1
def tOr (t u : TT) : TT := fun σ H Q => t σ H fun c H1 => if c = true then Q true H1 else u σ H1 Q
def tNot (t : TT) : TT := fun σ H Q => t σ H fun c H1 => Q (!c) H1
theorem zj4 (ha : PT X a tA) : PW X (.BoolOp .And [a] pos) tA := by
  intro wh pins s σ H Q I h
  refine isTrue_and (thn (ha pins s σ H Q I h) fun c s1 e => ?_)
  cases c with
  | true => exact isTrue_and_nil e
  | false => exact e
theorem zmA (ha : PT X a tA) : PW X (.BoolOp .Or [a] pos) tA := by
  intro wh pins s σ H Q I h
  refine isTrue_or (thn (ha pins s σ H Q I h) fun c s1 e => ?_)
  cases c with
  | false => exact isTrue_or_nil e
  | true => exact e
theorem zmB (ha : PT X a tA) (hb : PW X (.BoolOp .And (b :: rest) pos) tB') : PW X (.BoolOp .And (a :: b :: rest) pos) (tAnd tA tB') := by
  intro wh pins s σ H Q I h
  refine isTrue_and (thn (ha pins s σ H _ I h) fun c s1 ⟨H1, I1, q1⟩ => ?_)
  cases c with
  | true => exact hb wh pins s1 σ H1 Q I1 q1
  | false => exact ⟨H1, I1, q1⟩
theorem zog (ha : PT X a tA) (hb : PW X (.BoolOp .Or (b :: rest) pos) tB') : PW X (.BoolOp .Or (a :: b :: rest) pos) (tOr tA tB') := by
  intro wh pins s σ H Q I h
  refine isTrue_or (thn (ha pins s σ H _ I h) fun c s1 ⟨H1, I1, q1⟩ => ?_)
  cases c with
  | true => exact ⟨H1, I1, q1⟩
  | false => exact hb wh pins s1 σ H1 Q I1 q1
theorem zmD (ha : PT X a tA) : PT X (.UnaryOp .Not a pos) (tNot tA) := by
  intro pins s σ H Q I h
  exact isTrue_not (ha pins s σ H (fun c H1 => Q (!c) H1) I h)
def tAndV (ta tb : TE) : TE := fun σ H Q => ta σ H fun x H1 => ∃ c, x = .bl c ∧ if c = true then tb σ H1 Q else Q (.bl false) H1
def tOrV (ta tb : TE) : TE := fun σ H Q => ta σ H fun x H1 => ∃ c, x = .bl c ∧ if c = true then Q (.bl true) H1 else tb σ H1 Q
def tNotV (ta : TE) : TE := fun σ H Q => ta σ H fun x H1 => ∃ c, x = .bl c ∧ Q (.bl (!c)) H1
theorem zok {op} {t : TE} (h : PE X a t) : PE X (.BoolOp op [a] pos) t := fun pins s σ H Q I hw => BoolOp_one (h pins s σ H Q I hw)
theorem zmF (ha : PE X a ta) (hb : PE X (.BoolOp .And (b :: rest) pos) tb) : PE X (.BoolOp .And (a :: b :: rest) pos) (tAndV ta tb) := by
  intro pins s σ H Q I h
  refine BoolOp_and (thn (ha pins s σ H _ I h) fun v s1 ⟨x, H1, I1, r1, q1⟩ => ?_)
  obtain ⟨c, rfl, q1⟩ := q1
  cases r1
  refine wpAny_truthy_bool ?_
  cases c with
  | true => exact hb pins s1 σ H1 Q I1 q1
  | false => exact ⟨.bl false, H1, I1, rfl, q1⟩
def tIf (t : TT) (ta tb : TE) : TE := fun σ H Q => t σ H fun c H1 => if c = true then ta σ H1 Q else tb σ H1 Q
theorem zid {c : Expr} (hc : PT X c tA) (ha : PE X a ta) (hb : PE X b tb) : PE X (.IfExp c a b pos) (tIf tA ta tb) := by
  intro pins s σ H Q I h
  refine wpAny_IfExp (thn (hc pins s σ H _ I h) fun d s1 ⟨H1, I1, q1⟩ => ?_)
  cases d with
  | true => exact ha pins s1 σ H1 Q I1 q1
  | false => exact hb pins s1 σ H1 Q I1 q1
end
end L2
namespace L2
open PySem PySem.Spec PyProof.Rows
def SqL (K : PySem.W.Frag) (H : Hp) (a : Addr) (xs : List V) : Prop :=
  Rd H a (.lst xs) ∨
    ∃ (o : Obj) (its : Array Value) (n : Nat), K.lookup a = some o ∧ o.cls = .type "list" ∧ o.dict = none ∧ o.data = .seq its n ∧ its.size ≤ sizeLine ∧ Vals xs its.toList
def SqT (K : PySem.W.Frag) (H : Hp) (a : Addr) (xs : List V) : Prop :=
  Rd H a (.tup xs) ∨
    ∃ (o : Obj) (its : Array Value) (n : Nat), K.lookup a = some o ∧ o.cls = .type "tuple" ∧ o.data = .seq its n ∧ its.size ≤ sizeLine ∧ Vals xs its.toList
def absV : Value → Option V
  | .none => some .non
  | .bool b => some (.bl b)
  | .int i _ => some (.int i)
  | .str x _ => some (.str x)
  | .bytes b _ => some (.byt b)
  | .float b _ => some (.flt b)
  | .ref a => some (.ref a)
  | .type n => some (.ty n)
  | _ => none
theorem RelV.abs {x : V} {u : Value} (r : RelV x u) : absV u = some x := by
  cases x with
  | non => cases r; rfl
  | bl _ => cases r; rfl
  | int _ => obtain ⟨t, rfl⟩ := r; rfl
  | str _ => obtain ⟨t, rfl⟩ := r; rfl
  | byt _ => obtain ⟨t, rfl⟩ := r; rfl
  | flt _ => obtain ⟨t, rfl⟩ := r; rfl
  | ref _ => cases r; rfl
  | ty _ => cases r; rfl
theorem RelV.inj {x y : V} {u : Value} (r : RelV x u) (q : RelV y u) : x = y := Option.some.inj (r.abs.symm.trans q.abs)
theorem Vals.inj : ∀ {xs ys : List V} {us : List Value}, Vals xs us → Vals ys us → xs = ys
  | _, _, _, .nil, .nil => rfl
  | _, _, _, .cons r t, .cons r' t' => by rw [r.inj r', Vals.inj t t']
section
variable {X : Cx} {pins : List (Addr × Obj)} {σ : St} {H : Hp} {s : Shared} {a : Addr} {xs ys : List V}
theorem SqL.of {K : PySem.W.Frag} (h : H a = some (.lst xs)) : SqL K H a xs := .inl (.inl h)
theorem SqT.of {K : PySem.W.Frag} (h : H a = some (.tup xs)) : SqT K H a xs := .inl (.inl h)
theorem Inv.list (I : Inv X pins σ H s) (h : SqL X.K H a xs) : ∃ its : List Value, Vals xs its ∧ PlainL s.heap a its.toArray ∧ xs.length ≤ sizeLine := by
  rcases h with h | ⟨o, its, n, hk, hc, hd, hs, hz, r⟩
  · obtain ⟨z, its, n, r, e⟩ := h.ok I.hok
    exact ⟨its, r, ⟨_, n, e, rfl, rfl, rfl⟩, z⟩
  · refine ⟨its.toList, r, ⟨o, n, I.kIn a o hk, hc, hd, by simpa using hs⟩, ?_⟩
    have e := r.length
    simp only [Array.length_toList] at e
    omega
theorem Inv.tuple (I : Inv X pins σ H s) (h : SqT X.K H a xs) : ∃ its : List Value, Vals xs its ∧ IsTup s.heap a its.toArray ∧ xs.length ≤ sizeLine := by
  rcases h with h | ⟨o, its, n, hk, hc, hs, hz, r⟩
  · obtain ⟨z, its, r, p⟩ := h.ok I.hok
    exact ⟨its, r, p, z⟩
  · refine ⟨its.toList, r, ⟨o, I.kIn a o hk, hc, n, by simpa using hs⟩, ?_⟩
    have e := r.length
    simp only [Array.length_toList] at e
    omega
theorem Inv.list_inj (I : Inv X pins σ H s) (h : SqL X.K H a xs) (h' : SqL X.K H a ys) : xs = ys := by
  obtain ⟨its, r, ⟨o, n, e, _, _, d⟩, _⟩ := I.list h
  obtain ⟨its', r', ⟨o', n', e', _, _, d'⟩, _⟩ := I.list h'
  rw [e] at e'; cases e'
  rw [d] at d'
  injection d' with d1 _
  have : its = its' := by simpa using congrArg Array.toList d1
  subst this
  exact r.inj r'
theorem Inv.tuple_inj (I : Inv X pins σ H s) (h : SqT X.K H a xs) (h' : SqT X.K H a ys) : xs = ys := by
  obtain ⟨its, r, ⟨o, e, _, n, d⟩, _⟩ := I.tuple h
  obtain ⟨its', r', ⟨o', e', _, n', d'⟩, _⟩ := I.tuple h'
  rw [e] at e'; cases e'
  rw [d] at d'
  injection d' with d1 _
  have : its = its' := by simpa using congrArg Array.toList d1
  subst this
  exact r.inj r'
end
abbrev Cx.wish (X : Cx) (E : Value → Shared → Prop) : Cx := { X with xe := E }
abbrev Cx.nox (X : Cx) : Cx := X.wish fun _ _ => False
theorem Cx.Ok.wish {X : Cx} (ok : X.Ok) (E : Value → Shared → Prop) : (X.wish E).Ok :=
  ⟨ok.mod, ok.kind, ok.glob, ok.blt, ok.above, ok.inj, ok.has, ok.cab, ok.hd, ok.frames, ok.stk, ok.exf, ok.bs, ok.bsz, ok.noex, ok.exfs, ok.funs, ok.frf⟩
theorem Cx.Ok.unwish {X : Cx} {E : Value → Shared → Prop} (ok : (X.wish E).Ok) : X.Ok :=
  ⟨ok.mod, ok.kind, ok.glob, ok.blt, ok.above, ok.inj, ok.has, ok.cab, ok.hd, ok.frames, ok.stk, ok.exf, ok.bs, ok.bsz, ok.noex, ok.exfs, ok.funs, ok.frf⟩
section
variable {X : Cx} {pins : List (Addr × Obj)} {σ : St} {H : Hp} {s : Shared} {E : Value → Shared → Prop}
theorem Inv.wish (I : Inv X pins σ H s) (E : Value → Shared → Prop) : Inv (X.wish E) pins σ H s := ⟨I.ok.wish E, I.os, I.bare, I.base, I.loc, I.cell, I.free, I.freeC, I.pin, I.hok, I.len⟩
theorem Inv.unwish (I : Inv (X.wish E) pins σ H s) : Inv X pins σ H s := ⟨I.ok.unwish, I.os, I.bare, I.base, I.loc, I.cell, I.free, I.freeC, I.pin, I.hok, I.len⟩
theorem SP.unwish {D : Ends} {f : Flow} {s' : Shared} (h : SP (X.wish E) pins D f s') : SP X pins D f s' := by
  cases f with
  | next => obtain ⟨σ', H', I, q⟩ := h; exact ⟨σ', H', I.unwish, q⟩
  | brk => obtain ⟨σ', H', I, q⟩ := h; exact ⟨σ', H', I.unwish, q⟩
  | cont => obtain ⟨σ', H', I, q⟩ := h; exact ⟨σ', H', I.unwish, q⟩
  | ret u => obtain ⟨v, σ', H', I, r, q⟩ := h; exact ⟨v, σ', H', I.unwish, r, q⟩
theorem PE.nox {e : Expr} {t : TE} (h : PE X.nox e t) : PE X e t := fun pins s σ H Q I hw =>
  wpAny_mono (h pins s σ H Q (I.wish _) hw) (fun _ _ ⟨v, H', I', r, q⟩ => ⟨v, H', I'.unwish, r, q⟩) fun _ _ z => False.elim z
theorem PT.nox {e : Expr} {t : TT} (h : PT X.nox e t) : PT X e t := fun pins s σ H Q I hw =>
  wpAny_mono (h pins s σ H Q (I.wish _) hw) (fun _ _ ⟨H', I', q⟩ => ⟨H', I'.unwish, q⟩) fun _ _ z => False.elim z
theorem PSs.nox {st : List Stmt} {t : TS} (h : PSs X.nox st t) : PSs X st t := fun pins s σ H D I hw =>
  wpAny_mono (h pins s σ H D (I.wish _) hw) (fun _ _ q => q.unwish) fun _ _ z => False.elim z
end
section
variable {X : Cx} {st : Stmt} {rest : List Stmt} {t u : TS} {e : Expr} {te : TE} {pos : Pos}
def tNext : TS := fun D σ H => D.nx σ H
def tSeq (t u : TS) : TS := fun D σ H => t { D with nx := u D } σ H
theorem zbF : PSs X [] tNext := fun _ _ σ H _ I h => wpAny_execs_nil ⟨σ, H, I, h⟩
theorem zag (h1 : PS X st t) (h2 : PSs X rest u) : PSs X (st :: rest) (tSeq t u) := by
  intro pins s σ H D I h
  refine wpAny_execs_cons (thn (h1 pins s σ H { D with nx := u D } I h) fun f s1 q => ?_)
  cases f with
  | next =>
    obtain ⟨σ', H', I', q⟩ := q
    exact h2 pins s1 σ' H' D I' q
  | ret v => exact q
  | brk => exact q
  | cont => exact q
theorem zai (h1 : PS X st t) : PSs X [st] t := by
  intro pins s σ H D I h
  refine wpAny_execs_cons (thn (h1 pins s σ H D I h) fun f s1 q => ?_)
  cases f with
  | next => exact wpAny_execs_nil q
  | ret v => exact q
  | brk => exact q
  | cont => exact q
def tBreak : TS := fun D σ H => D.bk σ H
def tCont : TS := fun D σ H => D.ct σ H
theorem Inv.quiet {pins : List (Addr × Obj)} {σ : St} {H : Hp} {s : Shared} (I : Inv X pins σ H s) : interactive X.env = false := by simp [interactive, I.ok.kind]
def tDrop (te : TE) : TS := fun D σ H => te σ H fun _ H1 => D.nx σ H1
theorem zcy (he : PE X e te) (hs : swapsWith e none pos.line X.env = pure false := by rfl) : PS X (.Expr e pos) (tDrop te) := by
  intro pins s σ H D I h
  exact wpAny_Expr_any (thn (he pins s σ H _ I h) fun v s1 ⟨x, H1, I1, r1, q1⟩ => ⟨σ, H1, I1, q1⟩) I.quiet hs
def tRet (te : TE) : TS := fun D σ H => te σ H D.rt
theorem zaC (he : PE X e te) : PS X (.Return (some e) pos) (tRet te) := by
  intro pins s σ H D I h
  exact wpAny_Return_some (thn (he pins s σ H _ I h) fun v s1 ⟨x, H1, I1, r1, q1⟩ => ⟨x, σ, H1, I1, r1, q1⟩)
def tRetN : TS := fun D _ H => D.rt .non H
def tIfS (c : TT) (t u : TS) : TS := fun D σ H => c σ H fun b H1 => if b = true then t D σ H1 else u D σ H1
theorem zdw {c : Expr} {a b : List Stmt} {tc : TT} (hc : PT X c tc) (ha : PSs X a t) (hb : PSs X b u) : PS X (.If c a b pos) (tIfS tc t u) := by
  intro pins s σ H D I h
  refine wpAny_If (thn (hc pins s σ H _ I h) fun d s1 ⟨H1, I1, q1⟩ => ?_)
  cases d with
  | true => exact ha pins s1 σ H1 D I1 q1
  | false => exact hb pins s1 σ H1 D I1 q1
def tNever : TS := fun _ _ _ => False
end
abbrev TG := V → St → Hp → (St → Hp → Prop) → Prop
abbrev TGs := List V → St → Hp → (St → Hp → Prop) → Prop
def PG (X : Cx) (target : Expr) (t : TG) : Prop :=
  ∀ (pins : List (Addr × Obj)) (s : Shared) (σ : St) (H : Hp) (v : V) (u : Value) (Q : St → Hp → Prop), Inv X pins σ H s → RelV v u → t v σ H Q →
    wpAny (model X.prog X.w) X.A (assign target X.env u) (fun _ s' => ∃ σ' H', Inv X pins σ' H' s' ∧ Q σ' H') X.xe s
def PGs (X : Cx) (ts : List Expr) (t : TGs) : Prop :=
  ∀ (pins : List (Addr × Obj)) (s : Shared) (σ : St) (H : Hp) (vs : List V) (us : List Value) (Q : St → Hp → Prop), Inv X pins σ H s → Vals vs us → t vs σ H Q →
    wpAny (model X.prog X.w) X.A (assignInOrder ((assignEach ts X.env).map (·.2)) us) (fun _ s' => ∃ σ' H', Inv X pins σ' H' s' ∧ Q σ' H') X.xe s
abbrev TSet := V → V → V → Hp → (Hp → Prop) → Prop
def PSet (X : Cx) (t : TSet) : Prop :=
  ∀ (pins : List (Addr × Obj)) (s : Shared) (σ : St) (H : Hp) (o i v : V) (ov iv u : Value) (Q : Hp → Prop), Inv X pins σ H s → RelV o ov → RelV i iv → RelV v u → t o i v H Q →
    wpAny (model X.prog X.w) X.A (setItem ov iv u) (fun _ s' => ∃ H', Inv X pins σ H' s' ∧ Q H') X.xe s
abbrev TIp := V → V → Hp → VK → Prop
def PIp (X : Cx) (op : Operator) (t : TIp) : Prop :=
  ∀ (pins : List (Addr × Obj)) (s : Shared) (σ : St) (H : Hp) (x y : V) (v u : Value) (Q : VK), Inv X pins σ H s → RelV x v → RelV y u → t x y H Q →
    wpAny (model X.prog X.w) X.A (inplaceOp op v u) (EP X pins σ Q) X.xe s
section
variable {X : Cx} {pos : Pos}
def zkP (i : Nat) : TG := fun v σ H Q => Q (σ.set i (some v)) H
theorem zaq {i : Nat} {x : Str} (hN : X.N.Nodup) (hi : X.N[i]? = some x) (hx : Loc X.env.scope x) (hf : X.fn x = true ∨ X.env.scope.names.lookup x = some .local := by first | exact .inl rfl | exact .inr rfl | assumption) : PG X (.Name x pos) (zkP i) := by
  intro pins s σ H v u Q I r h
  exact wpAny_assign_Name (zh0 I hN hi hx r (fun s' I' => ⟨_, H, I', h⟩) hf)
def gNil : TGs := fun vs σ H Q => vs = [] ∧ Q σ H
def gCons (t : TG) (u : TGs) : TGs := fun vs σ H Q => ∃ v r, vs = v :: r ∧ t v σ H fun σ' H' => u r σ' H' Q
theorem zeO : PGs X [] gNil := by
  intro pins s σ H vs us Q I r h
  obtain ⟨e, h⟩ := h
  subst e
  cases r
  exact assignInOrder_nil ⟨σ, H, I, h⟩
theorem zbO {e : Expr} {es : List Expr} {t : TG} {u : TGs} (h1 : PG X e t) (h2 : PGs X es u)
    (hs : (assignEach (e :: es) X.env).map (·.2) = assign e X.env :: (assignEach es X.env).map (·.2) := by rfl) : PGs X (e :: es) (gCons t u) := by
  intro pins s σ H vs us Q I r h
  obtain ⟨v, vr, e1, h⟩ := h
  subst e1
  cases r with
  | cons r rr =>
    rw [hs]
    refine assignInOrder_cons (thn (h1 pins s σ H _ _ _ I r h) fun _ s1 ⟨σ1, H1, I1, q1⟩ => ?_)
    exact h2 pins s1 σ1 H1 _ _ Q I1 rr q1
def gTup (K : PySem.W.Frag) (n : Nat) (t : TGs) : TG := fun v σ H Q => ∃ a xs, v = .ref a ∧ SqT K H a xs ∧ xs.length = n ∧ t xs σ H Q
theorem zgA {es : List Expr} {k : Nat} {t : TGs} {n : Nat} (hc : X.calm = true) (h : PGs X es t)
    (hn : (assignEach es X.env).length = n := by rfl) (hst : (assignEach es X.env).findIdx? (·.1) = none := by rfl) : PG X (.Tuple es k pos) (gTup X.K n t) := by
  intro pins s σ H v u Q I r hw
  obtain ⟨a, xs, e1, hq, hl, hw⟩ := hw
  subst e1
  cases r
  obtain ⟨its, rv, ht, hz⟩ := I.tuple hq
  refine assign_Tuple_tuple (I.ok.hd hc) ht (by simp [hn, ← hl, rv.length]) hst fun h' hx => ?_
  have I1 : Inv X pins σ H { s with heap := h' } := I.kept (t' := s.toks) fun b o e => hx b o (Nat.ne_of_lt (Heap.lt_size e)) e
  exact h pins _ σ H xs _ Q I1 (by simpa using rv) hw
def gSub (to ti : TE) (t : TSet) : TG := fun v σ H Q => to σ H fun o H1 => ti σ H1 fun i H2 => t o i v H2 fun H3 => Q σ H3
theorem zmE {o i : Expr} {to ti : TE} {t : TSet} (ho : PE X o to) (hi : PE X i ti) (hs : PSet X t)
    (ha : ∀ v, assign (.Subscript o i pos) X.env v = (do
      let ov ← holding [v] (eval o X.env)
      let iv ← holding [v, ov] (eval i X.env)
      standAt pos
      holding [v, ov, iv] (setItem ov iv v)
      release [v, ov, iv] []) := by intro _; rfl) : PG X (.Subscript o i pos) (gSub to ti t) := by
  intro pins s σ H v u Q I r h
  rw [ha]
  refine wpAny_bind (wpAny_holding (thn (ho pins s σ H _ I h) fun ov s1 ⟨x, H1, I1, r1, q1⟩ => ?_))
  refine wpAny_bind (wpAny_holding (thn (hi pins s1 σ H1 _ I1 q1) fun iv s2 ⟨y, H2, I2, r2, q2⟩ => ?_))
  refine wpAny_bind (wpAny_standAt (wpAny_bind (wpAny_holding (thn (hs pins s2 σ H2 x y v ov iv u _ I2 r1 r2 r q2) fun _ s3 ⟨H3, I3, q3⟩ => ?_))))
  exact wpAny_release ⟨σ, H3, I3, q3⟩
def tAsg (te : TE) (g : TG) : TS := fun D σ H => te σ H fun x H1 => g x σ H1 D.nx
theorem zj7 {tg e : Expr} {te : TE} {g : TG} (he : PE X e te) (hg : PG X tg g) (hs : swapsWithSole [tg] e pos.line X.env = pure false := by rfl) (hw : swappedStores [tg] e X.env = pure none := by rfl)
    (h1 : (assignEach [tg] X.env).map (·.2) = [assign tg X.env] := by rfl) : PS X (.Assign [tg] e pos) (tAsg te g) := by
  intro pins s σ H D I h
  refine wpAny_Assign_stores (thn (he pins s σ H _ I h) fun v s1 ⟨x, H1, I1, r1, q1⟩ => ?_) hs hw
  rw [h1]
  exact thn (hg pins s1 σ H1 x v _ I1 r1 q1) fun _ s2 q => q
theorem zat {i : Nat} {x : Str} {e : Expr} {te : TE} {pos' : Pos} (hN : X.N.Nodup) (hi : X.N[i]? = some x) (hx : Loc X.env.scope x) (he : PE X e te) (hs : swapsWith e (some (.Name x pos')) pos.line X.env = pure false := by rfl) (hf : X.fn x = true ∨ X.env.scope.names.lookup x = some .local := by first | exact .inl rfl | exact .inr rfl | assumption) :
    PS X (.Assign [.Name x pos'] e pos) (tAsg te (zkP i)) := by
  intro pins s σ H D I h
  refine wpAny_Assign_Name (thn (he pins s σ H _ I h) fun v s1 ⟨y, H1, I1, r1, q1⟩ => ?_) hs
  exact zh0 I1 hN hi hx r1 (fun s2 I2 => ⟨_, H1, I2, q1⟩) hf
def tPar (i j : Nat) (ta : TA) : TS := fun D σ H => ta σ H fun vs H1 => ∃ v w, vs = [v, w] ∧ D.nx ((σ.set i (some v)).set j (some w)) H1
def tAug (i : Nat) (te : TE) (ti : TIp) : TS := fun D σ H => ∃ x, σ[i]? = some (some x) ∧ te σ H fun y H1 => ti x y H1 fun z H2 => D.nx (σ.set i (some z)) H2
def tAugS (to ti te : TE) (tget : V → V → Hp → VK → Prop) (tip : TIp) (tset : TSet) : TS := fun D σ H => to σ H fun o H1 => ti σ H1 fun i H2 => tget o i H2 fun x H3 => te σ H3 fun y H4 => tip x y H4 fun z H5 => tset o i z H5 fun H6 => D.nx σ H6
def PGet (X : Cx) (t : V → V → Hp → VK → Prop) : Prop :=
  ∀ (pins : List (Addr × Obj)) (s : Shared) (σ : St) (H : Hp) (o i : V) (ov iv : Value) (Q : VK), Inv X pins σ H s → RelV o ov → RelV i iv → t o i H Q →
    wpAny (model X.prog X.w) X.A (getItem ov iv) (EP X pins σ Q) X.xe s
def ipI (f : Int → Int → Int) : TIp := fun x y H Q => ∃ i j, x = .int i ∧ y = .int j ∧ Q (.int (f i j)) H
end
section
variable {X : Cx} {pos : Pos}
def zjP (c : TT) (tb : TS) : TS := fun D σ H => ∃ W : Nat → St → Hp → Prop, (∃ m, W m σ H) ∧ ∀ m σ H, W m σ H →
  c σ H fun b H1 => if b = true then ∃ N : St → Hp → Prop, (∀ σ' H', N σ' H' → ∃ m', m' < m ∧ W m' σ' H') ∧ tb { D with nx := N, ct := N, bk := D.nx } σ H1 else D.nx σ H1
theorem zlD {c : Expr} {body : List Stmt} {tc : TT} {tb : TS} (hp : PassesOwn (model X.prog X.w) X.A X.env X.xe) (hc : PT X c tc) (hb : PSs X body tb) : PS X (.While c body [] pos) (zjP tc tb) := by
  intro pins s σ H D I h
  obtain ⟨W, ⟨m0, w0⟩, turn⟩ := h
  refine wpAny_While (codeAny_whileLoop (fun n s' => ∃ σ' H', Inv X pins σ' H' s' ∧ W n σ' H') ?_ m0 ⟨σ, H, I, w0⟩)
  rintro n s1 ⟨σ1, H1, I1, w1⟩
  refine wpAny_passesOwn hp (thn (hc pins s1 σ1 H1 _ I1 (turn n σ1 H1 w1)) fun b s2 ⟨H2, I2, q2⟩ => ?_)
  cases b with
  | true =>
    obtain ⟨N, hN, q2⟩ := q2
    rw [if_pos rfl]
    refine wpAny_passesOwn hp (thn (hb pins s2 σ1 H2 _ I2 q2) fun f s3 q3 => ?_)
    cases f with
    | next =>
      obtain ⟨σ3, H3, I3, n3⟩ := q3
      obtain ⟨m', hm, w3⟩ := hN σ3 H3 n3
      exact ⟨m', hm, σ3, H3, I3, w3⟩
    | cont =>
      obtain ⟨σ3, H3, I3, n3⟩ := q3
      obtain ⟨m', hm, w3⟩ := hN σ3 H3 n3
      exact ⟨m', hm, σ3, H3, I3, w3⟩
    | brk => exact q3
    | ret v => exact q3
  | false =>
    rw [if_neg Bool.false_ne_true]
    exact wpAny_execs_nil ⟨σ1, H2, I2, q2⟩
end
structure It where
  go : Nat → Hp → Prop
  yld : Nat → Hp → V → Hp → Prop
  stop : Nat → Hp → Prop
def FpOk (X : Cx) (pins : List (Addr × Obj)) (H : Hp) (b : Addr) : Prop :=
  H b = none ∧ b ≠ X.env.locals ∧ b ∉ X.fs ∧ (b ∈ X.ex ∨ X.s₀.heap.objs.size ≤ b) ∧ (∀ x c, X.env.cells.lookup x = some c → c ≠ b) ∧ ∀ p ∈ X.pn ++ pins, p.1 ≠ b
theorem Inv.fpOk {X : Cx} {pins : List (Addr × Obj)} {σ : St} {H H' : Hp} {s : Shared} {b : Addr} (I : Inv X pins σ H s) (hb : s.heap.objs.size ≤ b) (hn : H' b = none) : FpOk X pins H' b := by
  refine ⟨hn, Nat.ne_of_gt (Nat.lt_of_lt_of_le I.lt hb), I.nofs hb, .inr (Nat.le_trans I.sz hb), fun x c e z => ?_, fun p hp z => ?_⟩
  · obtain ⟨v, q⟩ := I.cell x c e
    exact absurd (Nat.lt_of_lt_of_le q.lt (by rw [z]; exact hb)) (Nat.lt_irrefl _)
  · exact absurd (Nat.lt_of_lt_of_le (Heap.lt_size (I.pin p hp).1) (by rw [z]; exact hb)) (Nat.lt_irrefl _)
structure Turn (P : Program) (w : World) (K : PySem.W.Frag) (tg : Expr) (J : It) (fp : List Addr) (it : Addr) (tn : Nat → Heap → Prop) : Prop where
  mem : it ∈ fp
  obj : ∀ i h, tn i h → ∀ b ∈ fp, ∃ o, h.get? b = some o ∧ ∀ v, o.data ≠ .cell v
  keep : ∀ i h h', tn i h → (∀ b ∈ fp, ∀ o, h.get? b = some o → h'.get? b = some o) → tn i h'
  item : ∀ (X : Cx), X.prog = P → X.w = w → X.K = K → X.calm = true → ∀ (i : Nat) (pins : List (Addr × Obj)) (s : Shared) (σ : St) (H : Hp) (E : Value → Shared → Prop), Inv X pins σ H s → (∀ b ∈ fp, FpOk X pins H b) → tn i s.heap → J.go i H →
    wpAny (model P w) X.A (pyNext (.ref it)) (fun r s1 => ∃ u, r = some u ∧
      wpAny (model P w) X.A (letOwnedTupleGo tg (.ref it) u) (fun _ s2 => ∃ x H', Inv X pins σ H' s2 ∧ RelV x u ∧ J.yld i H x H' ∧ tn (i + 1) s2.heap ∧ ∀ b ∈ fp, H' b = none) E s1) E s
  done : ∀ (X : Cx), X.prog = P → X.w = w → X.K = K → X.calm = true → ∀ (i : Nat) (pins : List (Addr × Obj)) (s : Shared) (σ : St) (H : Hp) (E : Value → Shared → Prop), Inv X pins σ H s → (∀ b ∈ fp, FpOk X pins H b) → tn i s.heap → J.stop i H →
    wpAny (model P w) X.A (pyNext (.ref it)) (fun r s1 => r = none ∧ Inv X pins σ H s1) E s
  self : ∀ (A : Around) (i : Nat) (s : Shared) (Q : Value → Shared → Prop) (E : Value → Shared → Prop), tn i s.heap → Q (.ref it) s → wpAny (model P w) A (pyIter (.ref it)) Q E s
abbrev TI := St → Hp → (It → Hp → Prop) → Prop
def PIE (X : Cx) (pins : List (Addr × Obj)) (σ : St) (tg : Expr) (R : It → Hp → Prop) (itv : Value) (s2 : Shared) : Prop :=
  ∃ (it : Addr) (fp : List Addr) (tn : Nat → Heap → Prop) (J : It) (H' : Hp), itv = .ref it ∧ Inv X pins σ H' s2 ∧ Turn X.prog X.w X.K tg J fp it tn ∧ tn 0 s2.heap ∧ (∀ b ∈ fp, FpOk X pins H' b) ∧ R J H'
def PI (X : Cx) (tg iter : Expr) (wi : TI) : Prop :=
  ∀ (pins : List (Addr × Obj)) (s : Shared) (σ : St) (H : Hp) (R : It → Hp → Prop), Inv X pins σ H s → wi σ H R →
    wpAny (model X.prog X.w) X.A (eval iter X.env) (fun v s1 => wpAny (model X.prog X.w) X.A (pyIter v) (PIE X pins σ tg R) X.xe s1) X.xe s
theorem zl8 {M : Model} {A : Around} {E : Value → Shared → Prop} {s : Shared} {tg : Expr} {it : Addr} {u : Value} {o : Obj} {n : String} {vs : Array Value} {Q : Unit → Shared → Prop} (ho : s.heap.get? it = some o) (hc : o.cls = .type n) (hd : o.data = .fields vs)
    (hn : ["enumerate", "zip", "dict_itemiterator", "dict_reverseitemiterator", "odict_iterator", "itertools.zip_longest", "itertools.pairwise"].contains n = false) (hQ : Q () s) : wpAny M A (letOwnedTupleGo tg (.ref it) u) Q E s := by
  unfold letOwnedTupleGo
  cases tg <;> first
    | exact wpAny_pure hQ
    | (cases u <;> first
        | exact wpAny_pure hQ
        | (refine wpAny_bind (wpAny_load ho ?_)
           rw [hc, hd]
           show wpAny M A (if (["enumerate", "zip", "dict_itemiterator", "dict_reverseitemiterator", "odict_iterator", "itertools.zip_longest", "itertools.pairwise"].contains n && vs[0]? == some (rawInt _)) = true then _ else _) Q E s
           rw [if_neg (by intro h; rw [hn, Bool.false_and] at h; cases h)]
           exact wpAny_pure hQ))
def Itl (K : PySem.W.Frag) (a : Addr) : It :=
  ⟨fun i H => ∃ xs x, SqL K H a xs ∧ xs[i]? = some x, fun i H x H' => H' = H ∧ ∀ xs, SqL K H a xs → xs[i]? = some x, fun i H => ∃ xs, SqL K H a xs ∧ xs.length ≤ i⟩
def Itt (K : PySem.W.Frag) (a : Addr) : It :=
  ⟨fun i H => ∃ xs x, SqT K H a xs ∧ xs[i]? = some x, fun i H x H' => H' = H ∧ ∀ xs, SqT K H a xs → xs[i]? = some x, fun i H => ∃ xs, SqT K H a xs ∧ xs.length ≤ i⟩
def Itr (lo : Int) (n : Nat) : It := ⟨fun i _ => i < n, fun i H x H' => H' = H ∧ x = .int (lo + i), fun i _ => n ≤ i⟩
theorem zjI {P : Program} {w : World} {K : PySem.W.Frag} {tg : Expr} (a it : Addr) : Turn P w K tg (Itl K a) [it] it (fun i h => h.IsListIter it a i) where
  mem := by simp
  obj := fun i h st b hb => by
    have e : b = it := by simpa using hb
    subst e
    obtain ⟨o, e, c, d⟩ := st
    exact ⟨o, e, fun v z => by rw [d] at z; cases z⟩
  keep := fun i h h' st k => st.at fun o e => k it (by simp) o e
  item := by
    intro X hP hw hK hc i pins s σ H E I hf st hg
    subst hP hw hK
    obtain ⟨xs, x, hq, hx⟩ := hg
    obtain ⟨its, rv, p, hz⟩ := I.list hq
    obtain ⟨u, hu, ru⟩ := rv.get hx
    obtain ⟨f0, f1, f2, f3, f4, f5⟩ := hf it (by simp)
    refine wpAny_pyNext_list_item st p.isList (x := u) (by simpa using hu) fun h' st' sb => ?_
    have I1 : Inv X pins σ H { s with heap := h' } := I.turned (t' := s.toks) (fun b o hb e => (sb.2 b hb).trans e) f0 f1 f3 f4 f5
    obtain ⟨o, e, c, d⟩ := id st'
    exact ⟨u, rfl, zl8 (s := { s with heap := h' }) e c d (by decide) ⟨x, H, I1, ru, ⟨rfl, fun ys hy => by rw [I.list_inj hy hq]; exact hx⟩, st', fun b hb => (hf b hb).1⟩⟩
  done := by
    intro X hP hw hK hc i pins s σ H E I hf st hg
    subst hP hw hK
    obtain ⟨xs, hq, hx⟩ := hg
    obtain ⟨its, rv, p, hz⟩ := I.list hq
    obtain ⟨f0, f1, f2, f3, f4, f5⟩ := hf it (by simp)
    have hl := rv.length
    exact wpAny_pyNext_list_end (I.ok.hd hc) st p.isList (by simp; omega) fun h' eb => ⟨rfl, I.turned (t' := s.toks) (fun b o hb e => eb b o hb e) f0 f1 f3 f4 f5⟩
  self := fun _ _ _ _ _ st h => wpAny_pyIter_listiter st h
theorem ziS {P : Program} {w : World} {K : PySem.W.Frag} {tg : Expr} (a it : Addr) : Turn P w K tg (Itt K a) [it] it (fun i h => h.IsTupleIter it a i) where
  mem := by simp
  obj := fun i h st b hb => by
    have e : b = it := by simpa using hb
    subst e
    obtain ⟨o, e, c, d⟩ := st
    exact ⟨o, e, fun v z => by rw [d] at z; cases z⟩
  keep := fun i h h' st k => st.at fun o e => k it (by simp) o e
  item := by
    intro X hP hw hK hc i pins s σ H E I hf st hg
    subst hP hw hK
    obtain ⟨xs, x, hq, hx⟩ := hg
    obtain ⟨its, rv, p, hz⟩ := I.tuple hq
    obtain ⟨u, hu, ru⟩ := rv.get hx
    obtain ⟨f0, f1, f2, f3, f4, f5⟩ := hf it (by simp)
    refine wpAny_pyNext_tuple_item st (show s.heap.IsTuple a its.toArray from p) (x := u) (by simpa using hu) fun h' st' sb => ?_
    have I1 : Inv X pins σ H { s with heap := h' } := I.turned (t' := s.toks) (fun b o hb e => (sb.2 b hb).trans e) f0 f1 f3 f4 f5
    obtain ⟨o, e, c, d⟩ := id st'
    exact ⟨u, rfl, zl8 (s := { s with heap := h' }) e c d (by decide) ⟨x, H, I1, ru, ⟨rfl, fun ys hy => by rw [I.tuple_inj hy hq]; exact hx⟩, st', fun b hb => (hf b hb).1⟩⟩
  done := by
    intro X hP hw hK hc i pins s σ H E I hf st hg
    subst hP hw hK
    obtain ⟨xs, hq, hx⟩ := hg
    obtain ⟨its, rv, p, hz⟩ := I.tuple hq
    obtain ⟨f0, f1, f2, f3, f4, f5⟩ := hf it (by simp)
    have hl := rv.length
    exact wpAny_pyNext_tuple_end (I.ok.hd hc) st (show s.heap.IsTuple a its.toArray from p) (by simp; omega) fun h' eb => ⟨rfl, I.turned (t' := s.toks) (fun b o hb e => eb b o hb e) f0 f1 f3 f4 f5⟩
  self := fun _ _ _ _ _ st h => wpAny_pyIter_tupleiter st h
theorem ziT {P : Program} {w : World} {K : PySem.W.Frag} {tg : Expr} (it : Addr) (lo : Int) (n : Nat) : Turn P w K tg (Itr lo n) [it] it (fun i h => IsRangeIter h it (lo + (i : Nat) * 1) ((n : Int) - (i : Nat)) 1) where
  mem := by simp
  obj := fun i h st b hb => by
    have e : b = it := by simpa using hb
    subst e
    exact ⟨_, st, fun v z => by
      have z' : Data.fields _ = Data.cell v := z
      cases z'⟩
  keep := fun i h h' st k => k it (by simp) _ st
  item := by
    intro X hP hw hK hc i pins s σ H E I hf st hg
    subst hP hw hK
    obtain ⟨f0, f1, f2, f3, f4, f5⟩ := hf it (by simp)
    have W := Walks.range (prog := X.prog) (w := X.w) (I.ok.hd hc) it lo 1 n
    refine W.item i s _ _ hg st fun v h' tk hv st' kk => ?_
    obtain ⟨t, rfl⟩ := hv
    have I1 : Inv X pins σ H { s with heap := h', toks := tk } := I.turned (fun b o hb e => kk b o (by simpa using hb) e) f0 f1 f3 f4 f5
    refine ⟨_, rfl, zl8 (s := { s with heap := h', toks := tk }) (n := "range_iterator") st' rfl rfl (by decide) ⟨.int (lo + i), H, I1, ⟨t, ?_⟩, ⟨rfl, rfl⟩, st', fun b hb => (hf b hb).1⟩⟩
    rw [Int.mul_one]
  done := by
    intro X hP hw hK hc i pins s σ H E I hf st hg
    subst hP hw hK
    obtain ⟨f0, f1, f2, f3, f4, f5⟩ := hf it (by simp)
    exact wpAny_pyNext_range_end (I.ok.hd hc) st (by have : n ≤ i := hg; omega) fun h' eb => ⟨rfl, I.turned (t' := s.toks) (fun b o hb e => eb b o hb e) f0 f1 f3 f4 f5⟩
  self := fun _ _ _ _ _ st h => wpAny_pyIter_rangeiter st h
end L2
namespace L2
open PySem PySem.Spec PyProof.Rows
section
variable {X : Cx} {tg : Expr}
def iList (K : PySem.W.Frag) (tl : TE) : TI := fun σ H R => tl σ H fun x H1 => ∃ a, x = .ref a ∧ (∃ xs, SqL K H1 a xs) ∧ R (Itl K a) H1
def iTup (K : PySem.W.Frag) (tl : TE) : TI := fun σ H R => tl σ H fun x H1 => ∃ a, x = .ref a ∧ (∃ xs, SqT K H1 a xs) ∧ R (Itt K a) H1
theorem zcz {l : Expr} {tl : TE} (hl : PE X l tl) : PI X tg l (iList X.K tl) := by
  intro pins s σ H R I h
  refine thn (hl pins s σ H _ I h) fun v s1 ⟨x, H1, I1, r1, q1⟩ => ?_
  obtain ⟨a, e, ⟨xs, hq⟩, q⟩ := q1
  subst e
  cases r1
  obtain ⟨its, rv, p, hz⟩ := I1.list hq
  refine wpAny_pyIter_list p.isList ?_
  refine ⟨s1.heap.objs.size, [s1.heap.objs.size], _, _, H1, rfl, I1.kept (t' := s1.toks) fun b o e => Heap.get?_push_of_some _ e, zjI a _, ⟨_, Heap.get?_push_size _ rfl, rfl, rfl⟩, fun b hb => ?_, q⟩
  have e : b = s1.heap.objs.size := by simpa using hb
  subst e
  exact I1.fpOk (Nat.le_refl _) (I1.hok.fresh (Nat.le_refl _))
theorem zeN {l : Expr} {tl : TE} (hl : PE X l tl) : PI X tg l (iTup X.K tl) := by
  intro pins s σ H R I h
  refine thn (hl pins s σ H _ I h) fun v s1 ⟨x, H1, I1, r1, q1⟩ => ?_
  obtain ⟨a, e, ⟨xs, hq⟩, q⟩ := q1
  subst e
  cases r1
  obtain ⟨its, rv, p, hz⟩ := I1.tuple hq
  refine wpAny_pyIter_tuple (show s1.heap.IsTuple a its.toArray from p) ?_
  refine ⟨s1.heap.objs.size, [s1.heap.objs.size], _, _, H1, rfl, I1.kept (t' := s1.toks) fun b o e => Heap.get?_push_of_some _ e, ziS a _, ⟨_, Heap.get?_push_size _ rfl, rfl, rfl⟩, fun b hb => ?_, q⟩
  have e : b = s1.heap.objs.size := by simpa using hb
  subst e
  exact I1.fpOk (Nat.le_refl _) (I1.hok.fresh (Nat.le_refl _))
theorem zia {pins : List (Addr × Obj)} {σ : St} {H : Hp} {s : Shared} {R : It → Hp → Prop} {E : Value → Shared → Prop} {lo hi : Int} {t u v : Tok} {tk : Nat} (I : Inv X pins σ H s) (h1 : -(2 ^ 62) ≤ lo) (h2 : lo < 2 ^ 62) (h3 : -(2 ^ 62) ≤ hi) (h4 : hi < 2 ^ 62)
    (q : R (Itr lo (hi - lo).toNat) H) : wpAny (model X.prog X.w) X.A (pyIter (.ref s.heap.objs.size)) (PIE X pins σ tg R) E { s with heap := s.heap.push { cls := .type "range", data := .fields #[.int lo t, .int hi u, .int 1 v] }, toks := tk } := by
  refine wpAny_pyIter_range (IsRange.new ..) (small_one h1 h2 h3 h4) ?_
  have I1 : Inv X pins σ H { s with heap := s.heap.push { cls := .type "range", data := .fields #[.int lo t, .int hi u, .int 1 v] }, toks := tk } := I.kept fun b o e => Heap.get?_push_of_some _ e
  refine ⟨(s.heap.push { cls := .type "range", data := .fields #[.int lo t, .int hi u, .int 1 v] }).objs.size, [(s.heap.push { cls := .type "range", data := .fields #[.int lo t, .int hi u, .int 1 v] }).objs.size], _, _, H, rfl,
    I1.kept (t' := tk) fun b o e => Heap.get?_push_of_some _ e, ziT _ lo (hi - lo).toNat, ?_, fun b hb => ?_, q⟩
  · have e1 : lo + ((0 : Nat) : Int) * 1 = lo := by simp
    have e2 : (((hi - lo).toNat : Nat) : Int) - ((0 : Nat) : Int) = Builtin.Range.rangeSize lo hi 1 := by rw [rangeSize_one]; split <;> omega
    show IsRangeIter _ _ (lo + ((0 : Nat) : Int) * 1) ((((hi - lo).toNat : Nat) : Int) - ((0 : Nat) : Int)) 1
    rw [e1, e2]
    exact Heap.get?_push_size _ rfl
  · have e : b = (s.heap.push { cls := .type "range", data := .fields #[.int lo t, .int hi u, .int 1 v] }).objs.size := by simpa using hb
    subst e
    exact I1.fpOk (Nat.le_refl _) (I1.hok.fresh (Nat.le_refl _))
def iRng1 (ta : TA) : TI := fun σ H R => ta σ H fun vs H1 => ∃ j : Int, vs = [.int j] ∧ -(2 ^ 62) ≤ j ∧ j < 2 ^ 62 ∧ R (Itr 0 j.toNat) H1
def iRng2 (ta : TA) : TI := fun σ H R => ta σ H fun vs H1 => ∃ i j : Int, vs = [.int i, .int j] ∧ (-(2 ^ 62) ≤ i ∧ i < 2 ^ 62 ∧ -(2 ^ 62) ≤ j ∧ j < 2 ^ 62) ∧ R (Itr i (j - i).toNat) H1
theorem zcI {a : Expr} {ta : TA} {p pos : Pos} (hg : Gl X "range") (hm : X.mg "range" = none) (ha : PA X [a] ta) (hs : starEach [a] X.env = [(false, eval a X.env)] := by rfl) : PI X tg (.Call (.Name "range" p) [a] [] pos) (iRng1 ta) := by
  intro pins s σ H R I h
  refine Call_ (zeV I hg hm boot_range (PyProof.Rows.callWith_type1 (thn (ha pos pins s σ H _ I h) fun us s1 ⟨vs, H1, I1, r1, q1⟩ => ?_) hs rfl))
  obtain ⟨j, e, q1, q2, q⟩ := q1
  subst e
  cases r1 with
  | cons r rr =>
    cases rr
    obtain ⟨t, rfl⟩ := r
    exact call_range_1 (zia I1 (by omega) (by omega) q1 q2 (by simpa using q))
theorem zdT {a b : Expr} {ta : TA} {p pos : Pos} (hg : Gl X "range") (hm : X.mg "range" = none) (ha : PA X [a, b] ta) (hs : starEach [a, b] X.env = [(false, eval a X.env), (false, eval b X.env)] := by rfl) (hs2 : starEach [b] X.env = [(false, eval b X.env)] := by rfl) :
    PI X tg (.Call (.Name "range" p) [a, b] [] pos) (iRng2 ta) := by
  intro pins s σ H R I h
  refine Call_ (zeV I hg hm boot_range (PyProof.Rows.callWith_type1 (thn (ha pos pins s σ H _ I h) fun us s1 ⟨vs, H1, I1, r1, q1⟩ => ?_) (by rw [hs, hs2]) (by rw [hs2]; rfl)))
  obtain ⟨i, j, e, ⟨q1, q2, q3, q4⟩, q⟩ := q1
  subst e
  cases r1 with
  | cons r rr =>
    cases rr with
    | cons r' rr =>
      cases rr
      obtain ⟨t, rfl⟩ := r
      obtain ⟨t', rfl⟩ := r'
      exact call_range_2 (zia I1 q1 q2 q3 q4 q)
def tFor (wi : TI) (g : TG) (tb : TS) : TS := fun D σ H => wi σ H fun J H1 => ∃ W : Nat → Nat → St → Hp → Prop, (∃ m, W 0 m σ H1) ∧ ∀ i m σ H, W i m σ H →
  (J.stop i H ∧ D.nx σ H) ∨ (J.go i H ∧ ∃ N : St → Hp → Prop, (∀ σ' H', N σ' H' → ∃ m', m' < m ∧ W (i + 1) m' σ' H') ∧ ∀ x H', J.yld i H x H' → g x σ H' fun σ2 H2 => tb { D with nx := N, ct := N, bk := D.nx } σ2 H2)
def zgz (fp : List Addr) (h : Heap) : List (Addr × Obj) := fp.filterMap fun b => (h.get? b).map fun o => (b, o)
theorem zdo {fp : List Addr} {h : Heap} {b : Addr} {o : Obj} (hb : b ∈ fp) (e : h.get? b = some o) : (b, o) ∈ zgz fp h := List.mem_filterMap.mpr ⟨b, hb, by rw [e]; rfl⟩
theorem zkl {fp : List Addr} {h : Heap} {p : Addr × Obj} (hp : p ∈ zgz fp h) : p.1 ∈ fp ∧ h.get? p.1 = some p.2 := by
  obtain ⟨b, hb, e⟩ := List.mem_filterMap.mp hp
  cases q : h.get? b with
  | none => rw [q] at e; cases e
  | some o =>
    rw [q] at e
    have e' : (b, o) = p := Option.some.inj e
    subst e'
    exact ⟨hb, q⟩
theorem Inv.pinned {pins : List (Addr × Obj)} {σ : St} {H : Hp} {s : Shared} {fp : List Addr} (I : Inv X pins σ H s) (hf : ∀ b ∈ fp, FpOk X pins H b) (ho : ∀ b ∈ fp, ∃ o, s.heap.get? b = some o ∧ ∀ v, o.data ≠ .cell v) : Inv X (pins ++ zgz fp s.heap) σ H s :=
  I.pins_of fun p hp => (List.mem_append.mp hp).elim (fun z => I.pin p (List.mem_append_right _ z)) fun z => by
    obtain ⟨hb, e⟩ := zkl z
    obtain ⟨f0, f1, f2, _⟩ := hf p.1 hb
    obtain ⟨o, e', d⟩ := ho p.1 hb
    rw [e] at e'; cases e'
    exact ⟨e, f0, f1, f2, d⟩
theorem Inv.unpinned {pins pl : List (Addr × Obj)} {σ : St} {H : Hp} {s : Shared} (I : Inv X (pins ++ pl) σ H s) : Inv X pins σ H s := I.pins_of fun p hp => I.pin p (List.mem_append_right _ (List.mem_append_left _ hp))
theorem zbu {iter : Expr} {body : List Stmt} {wi : TI} {g : TG} {tb : TS} {pos : Pos} (hp : PassesOwn (model X.prog X.w) X.A X.env X.xe) (hc : X.calm = true) (hi : PI X tg iter wi) (hg : PG X tg g) (hb : PSs X body tb)
    (hs : ∀ x, foldedSetIterable iter X.env x = pure x := by intro _; rfl) : PS X (.For tg iter body [] pos) (tFor wi g tb) := by
  intro pins s σ H D I h
  refine wpAny_For (thn (hi pins s σ H _ I h) fun v s1 h1 => thn h1 fun itv s2 h2 => ?_) hs
  obtain ⟨it, fp, tn, J, H2, e, I2, T, st2, f2, W, ⟨m0, w0⟩, turn⟩ := h2
  subst e
  have stat : ∀ {H' : Hp}, (∀ b ∈ fp, H' b = none) → ∀ b ∈ fp, FpOk X pins H' b := fun hn b hb => ⟨hn b hb, (f2 b hb).2⟩
  refine codeAny_forLoop_any (fun n s' => ∃ i σ' H', Inv X pins σ' H' s' ∧ tn i s'.heap ∧ (∀ b ∈ fp, H' b = none) ∧ W i n σ' H') ?_ m0 ⟨0, σ, H2, I2, st2, fun b hb => (f2 b hb).1, w0⟩
  rintro n s3 ⟨i, σ3, H3, I3, st3, fr3, w3⟩
  rcases turn i n σ3 H3 w3 with ⟨stop, qn⟩ | ⟨go, N, hN, step⟩
  · refine wpAny_passesOwn hp (thn (T.done X rfl rfl rfl hc i pins s3 σ3 H3 X.xe I3 (stat fr3) st3 stop) fun r s4 ⟨hr, I4⟩ => ?_)
    subst hr
    exact wpAny_execs_nil ⟨σ3, H3, I4, qn⟩
  · refine wpAny_passesOwn hp (thn (T.item X rfl rfl rfl hc i pins s3 σ3 H3 X.xe I3 (stat fr3) st3 go) fun r s4 ⟨u, hr, h4⟩ => ?_)
    subst hr
    refine wpAny_passesOwn hp (thn h4 fun _ s5 ⟨x, H5, I5, r5, y5, st5, fr5⟩ => ?_)
    have I5' := I5.pinned (stat fr5) (T.obj _ _ st5)
    refine wpAny_passesOwn hp (thn (hg _ s5 σ3 H5 x u _ I5' r5 (step x H5 y5)) fun _ s6 ⟨σ6, H6, I6, q6⟩ => ?_)
    refine wpAny_passesOwn hp (thn (hb _ s6 σ6 H6 _ I6 q6) fun f s7 q7 => ?_)
    have again : ∀ {σ7 : St} {H7 : Hp}, Inv X (pins ++ zgz fp s5.heap) σ7 H7 s7 → N σ7 H7 → ∃ m, m < n ∧ ∃ i σ' H', Inv X pins σ' H' s7 ∧ tn i s7.heap ∧ (∀ b ∈ fp, H' b = none) ∧ W i m σ' H' := fun {σ7 H7} I7 n7 => by
      obtain ⟨m', hm, w7⟩ := hN σ7 H7 n7
      refine ⟨m', hm, i + 1, σ7, H7, I7.unpinned, T.keep _ _ _ st5 fun b hb o e => (I7.pin (b, o) (List.mem_append_right _ (List.mem_append_right _ (zdo hb e)))).1, fun b hb => ?_, w7⟩
      obtain ⟨o, e, d⟩ := T.obj _ _ st5 b hb
      exact (I7.pin (b, o) (List.mem_append_right _ (List.mem_append_right _ (zdo hb e)))).2.1
    cases f with
    | next => obtain ⟨σ7, H7, I7, n7⟩ := q7; exact again I7 n7
    | cont => obtain ⟨σ7, H7, I7, n7⟩ := q7; exact again I7 n7
    | brk => obtain ⟨σ7, H7, I7, q7⟩ := q7; exact ⟨σ7, H7, I7.unpinned, q7⟩
    | ret v => obtain ⟨x7, σ7, H7, I7, r7, q7⟩ := q7; exact ⟨x7, σ7, H7, I7.unpinned, r7, q7⟩
end
theorem zeD {K : PySem.W.Frag} {a : Addr} {xs : List V} {g : TG} {tb : TS} {D : Ends} {σ : St} {H : Hp} (Pv : Nat → St → Hp → Prop) (h0 : Pv 0 σ H) (hl : ∀ i σ H, i ≤ xs.length → Pv i σ H → SqL K H a xs)
    (hs : ∀ i x σ H, xs[i]? = some x → Pv i σ H → g x σ H fun σ2 H2 => tb { D with nx := Pv (i + 1), ct := Pv (i + 1), bk := D.nx } σ2 H2) (hd : ∀ σ H, Pv xs.length σ H → D.nx σ H) :
    ∃ W : Nat → Nat → St → Hp → Prop, (∃ m, W 0 m σ H) ∧ ∀ i m σ H, W i m σ H →
      ((Itl K a).stop i H ∧ D.nx σ H) ∨ ((Itl K a).go i H ∧ ∃ N : St → Hp → Prop, (∀ σ' H', N σ' H' → ∃ m', m' < m ∧ W (i + 1) m' σ' H') ∧ ∀ x H', (Itl K a).yld i H x H' → g x σ H' fun σ2 H2 => tb { D with nx := N, ct := N, bk := D.nx } σ2 H2) := by
  refine ⟨fun i m σ H => m = xs.length - i ∧ i ≤ xs.length ∧ Pv i σ H, ⟨xs.length, by simp, Nat.zero_le _, h0⟩, ?_⟩
  rintro i m σ H ⟨rfl, hi, p⟩
  have q := hl i σ H hi p
  by_cases hlt : i < xs.length
  · refine .inr ⟨⟨xs, xs[i], q, by simp [hlt]⟩, Pv (i + 1), fun σ' H' p' => ⟨xs.length - (i + 1), by omega, rfl, hlt, p'⟩, fun x H' y => ?_⟩
    obtain ⟨e, y⟩ := y
    subst e
    exact hs i x σ _ (y xs q) p
  · have e : i = xs.length := by omega
    subst e
    exact .inl ⟨⟨xs, q, Nat.le_refl _⟩, hd σ H p⟩
theorem zge {K : PySem.W.Frag} {a : Addr} {xs : List V} {g : TG} {tb : TS} {D : Ends} {σ : St} {H : Hp} (Pv : Nat → St → Hp → Prop) (h0 : Pv 0 σ H) (hl : ∀ i σ H, i ≤ xs.length → Pv i σ H → SqT K H a xs)
    (hs : ∀ i x σ H, xs[i]? = some x → Pv i σ H → g x σ H fun σ2 H2 => tb { D with nx := Pv (i + 1), ct := Pv (i + 1), bk := D.nx } σ2 H2) (hd : ∀ σ H, Pv xs.length σ H → D.nx σ H) :
    ∃ W : Nat → Nat → St → Hp → Prop, (∃ m, W 0 m σ H) ∧ ∀ i m σ H, W i m σ H →
      ((Itt K a).stop i H ∧ D.nx σ H) ∨ ((Itt K a).go i H ∧ ∃ N : St → Hp → Prop, (∀ σ' H', N σ' H' → ∃ m', m' < m ∧ W (i + 1) m' σ' H') ∧ ∀ x H', (Itt K a).yld i H x H' → g x σ H' fun σ2 H2 => tb { D with nx := N, ct := N, bk := D.nx } σ2 H2) := by
  refine ⟨fun i m σ H => m = xs.length - i ∧ i ≤ xs.length ∧ Pv i σ H, ⟨xs.length, by simp, Nat.zero_le _, h0⟩, ?_⟩
  rintro i m σ H ⟨rfl, hi, p⟩
  have q := hl i σ H hi p
  by_cases hlt : i < xs.length
  · refine .inr ⟨⟨xs, xs[i], q, by simp [hlt]⟩, Pv (i + 1), fun σ' H' p' => ⟨xs.length - (i + 1), by omega, rfl, hlt, p'⟩, fun x H' y => ?_⟩
    obtain ⟨e, y⟩ := y
    subst e
    exact hs i x σ _ (y xs q) p
  · have e : i = xs.length := by omega
    subst e
    exact .inl ⟨⟨xs, q, Nat.le_refl _⟩, hd σ H p⟩
theorem zbS {lo : Int} {n : Nat} {g : TG} {tb : TS} {D : Ends} {σ : St} {H : Hp} (Pv : Nat → St → Hp → Prop) (h0 : Pv 0 σ H)
    (hs : ∀ i σ H, i < n → Pv i σ H → g (.int (lo + i)) σ H fun σ2 H2 => tb { D with nx := Pv (i + 1), ct := Pv (i + 1), bk := D.nx } σ2 H2) (hd : ∀ σ H, Pv n σ H → D.nx σ H) :
    ∃ W : Nat → Nat → St → Hp → Prop, (∃ m, W 0 m σ H) ∧ ∀ i m σ H, W i m σ H →
      ((Itr lo n).stop i H ∧ D.nx σ H) ∨ ((Itr lo n).go i H ∧ ∃ N : St → Hp → Prop, (∀ σ' H', N σ' H' → ∃ m', m' < m ∧ W (i + 1) m' σ' H') ∧ ∀ x H', (Itr lo n).yld i H x H' → g x σ H' fun σ2 H2 => tb { D with nx := N, ct := N, bk := D.nx } σ2 H2) := by
  refine ⟨fun i m σ H => m = n - i ∧ i ≤ n ∧ Pv i σ H, ⟨n, by simp, Nat.zero_le _, h0⟩, ?_⟩
  rintro i m σ H ⟨rfl, hi, p⟩
  by_cases hlt : i < n
  · refine .inr ⟨hlt, Pv (i + 1), fun σ' H' p' => ⟨n - (i + 1), by omega, rfl, hlt, p'⟩, fun x H' y => ?_⟩
    obtain ⟨e, y⟩ := y
    subst e y
    exact hs i σ _ hlt p
  · have e : i = n := by omega
    subst e
    exact .inl ⟨Nat.le_refl _, hd σ H p⟩
theorem zlq {c : TT} {tb : TS} {D : Ends} {σ : St} {H : Hp} (Pv : St → Hp → Prop) (μ : St → Hp → Nat) (h0 : Pv σ H)
    (hs : ∀ σ H, Pv σ H → c σ H fun b H1 => if b = true then tb { D with nx := fun σ' H' => Pv σ' H' ∧ μ σ' H' < μ σ H, ct := fun σ' H' => Pv σ' H' ∧ μ σ' H' < μ σ H, bk := D.nx } σ H1 else D.nx σ H1)
    (mono : ∀ σ H Q Q', (∀ b H1, Q b H1 → Q' b H1) → c σ H Q → c σ H Q') : zjP c tb D σ H := by
  refine ⟨fun m σ H => m = μ σ H ∧ Pv σ H, ⟨_, rfl, h0⟩, ?_⟩
  rintro m σ H ⟨rfl, p⟩
  refine mono σ H _ _ (fun b H1 q => ?_) (hs σ H p)
  cases b with
  | true => exact ⟨_, fun σ' H' ⟨p', l⟩ => ⟨_, l, rfl, p'⟩, q⟩
  | false => exact q
end L2
namespace L2
open PySem PySem.Spec PyProof.Rows
abbrev R2 := V → V → Hp → VK → Prop
def OpR (X : Cx) (f : Value → Value → Sem Value) (r : R2) : Prop :=
  ∀ (pins : List (Addr × Obj)) (s : Shared) (σ : St) (H : Hp) (x y : V) (v u : Value) (Q : VK), Inv X pins σ H s → RelV x v → RelV y u → r x y H Q →
    wpAny (model X.prog X.w) X.A (f v u) (EP X pins σ Q) X.xe s
def UnR (X : Cx) (f : Value → Sem Value) (r : V → Hp → VK → Prop) : Prop :=
  ∀ (pins : List (Addr × Obj)) (s : Shared) (σ : St) (H : Hp) (x : V) (v : Value) (Q : VK), Inv X pins σ H s → RelV x v → r x H Q →
    wpAny (model X.prog X.w) X.A (f v) (EP X pins σ Q) X.xe s
def zd6 (X : Cx) (f : Value) (r : List V → Hp → VK → Prop) : Prop :=
  ∀ (pins : List (Addr × Obj)) (s : Shared) (σ : St) (H : Hp) (xs : List V) (us : List Value) (Q : VK), Inv X pins σ H s → Vals xs us → r xs H Q →
    wpAny (model X.prog X.w) X.A (call f us) (EP X pins σ Q) X.xe s
def TruR (X : Cx) (r : V → Hp → (Bool → Hp → Prop) → Prop) : Prop :=
  ∀ (pins : List (Addr × Obj)) (s : Shared) (σ : St) (H : Hp) (x : V) (v : Value) (Q : Bool → Hp → Prop), Inv X pins σ H s → RelV x v → r x H Q →
    wpAny (model X.prog X.w) X.A (truthy v) (TP X pins σ Q) X.xe s
def tOp (r : R2) (ta tb : TE) : TE := fun σ H Q => ta σ H fun x H1 => tb σ H1 fun y H2 => r x y H2 Q
def tUn (r : V → Hp → VK → Prop) (ta : TE) : TE := fun σ H Q => ta σ H fun x H1 => r x H1 Q
def rI (C : Int → Int → Prop) (g : Int → Int → V) : R2 := fun x y H Q => ∃ i j, x = .int i ∧ y = .int j ∧ C i j ∧ Q (g i j) H
def rI0 (g : Int → Int → V) : R2 := fun x y H Q => ∃ i j, x = .int i ∧ y = .int j ∧ Q (g i j) H
def rU (g : Int → V) : V → Hp → VK → Prop := fun x H Q => ∃ i, x = .int i ∧ Q (g i) H
section
variable {X : Cx} {a b c : Expr} {ta tb tc : TE} {pos : Pos}
theorem binT (ha : PE X a ta) (hb : PE X b tb) {pins : List (Addr × Obj)} {s : Shared} {σ : St} {H : Hp} {R : V → V → Hp → Prop} (I : Inv X pins σ H s)
    (h : ta σ H fun x H1 => tb σ H1 fun y H2 => R x y H2) {Q : Value → Shared → Prop} {f : Value → Value → Sem Value}
    (hf : ∀ v u s2 x y H2, Inv X pins σ H2 s2 → RelV x v → RelV y u → R x y H2 → wpAny (model X.prog X.w) X.A (f v u) Q X.xe s2) :
    wpAny (model X.prog X.w) X.A (eval a X.env) (fun v s₁ => wpAny (model X.prog X.w) X.A (eval b X.env) (fun u s₂ => wpAny (model X.prog X.w) X.A (f v u) Q X.xe s₂) X.xe s₁) X.xe s := by
  refine thn (ha pins s σ H _ I h) fun v s1 ⟨x, H1, I1, r1, q1⟩ => ?_
  refine thn (hb pins s1 σ H1 _ I1 q1) fun u s2 ⟨y, H2, I2, r2, q2⟩ => ?_
  exact hf v u s2 x y H2 I2 r1 r2 q2
theorem zav {op : Operator} {r : R2} (ho : OpR X (binaryOp op) r) (ha : PE X a ta) (hb : PE X b tb) : PE X (.BinOp a op b pos) (tOp r ta tb) := by
  intro pins s σ H Q I h
  exact wpAny_BinOp (binT ha hb I h fun v u s2 x y H2 I2 rx ry q => ho pins s2 σ H2 x y v u Q I2 rx ry q)
theorem ziZ {op : UnaryOp} {r : V → Hp → VK → Prop} (ho : UnR X (unaryOp op) r) (ha : PE X a ta) : PE X (.UnaryOp op a pos) (tUn r ta) := by
  intro pins s σ H Q I h
  exact UnaryOp_ (thn (ha pins s σ H _ I h) fun v s1 ⟨x, H1, I1, r1, q1⟩ => ho pins s1 σ H1 x v Q I1 r1 q1)
theorem opI {f : Value → Value → Sem Value} {C : Int → Int → Prop} {g : Int → Int → Int}
    (rule : ∀ (i j : Int) (t u : Tok) (s : Shared) (Q : Value → Shared → Prop) (E : Value → Shared → Prop), C i j → Q (.int (g i j) s.toks) { s with toks := s.toks + 1 } → wpAny (model X.prog X.w) X.A (f (.int i t) (.int j u)) Q E s) :
    OpR X f (rI C fun i j => .int (g i j)) := by
  intro pins s σ H x y v u Q I rx ry h
  obtain ⟨i, j, rfl, rfl, hc, q⟩ := h
  obtain ⟨t, rfl⟩ := rx
  obtain ⟨t', rfl⟩ := ry
  exact rule i j t t' s _ _ hc ⟨.int (g i j), H, I.tok _, ⟨_, rfl⟩, q⟩
theorem opI0 {f : Value → Value → Sem Value} {g : Int → Int → Int}
    (rule : ∀ (i j : Int) (t u : Tok) (s : Shared) (Q : Value → Shared → Prop) (E : Value → Shared → Prop), Q (.int (g i j) s.toks) { s with toks := s.toks + 1 } → wpAny (model X.prog X.w) X.A (f (.int i t) (.int j u)) Q E s) :
    OpR X f (rI0 fun i j => .int (g i j)) := by
  intro pins s σ H x y v u Q I rx ry h
  obtain ⟨i, j, rfl, rfl, q⟩ := h
  obtain ⟨t, rfl⟩ := rx
  obtain ⟨t', rfl⟩ := ry
  exact rule i j t t' s _ _ ⟨.int (g i j), H, I.tok _, ⟨_, rfl⟩, q⟩
theorem opB0 {f : Value → Value → Sem Value} {g : Int → Int → Bool}
    (rule : ∀ (i j : Int) (t u : Tok) (s : Shared) (Q : Value → Shared → Prop) (E : Value → Shared → Prop), Q (.bool (g i j)) s → wpAny (model X.prog X.w) X.A (f (.int i t) (.int j u)) Q E s) :
    OpR X f (rI0 fun i j => .bl (g i j)) := by
  intro pins s σ H x y v u Q I rx ry h
  obtain ⟨i, j, rfl, rfl, q⟩ := h
  obtain ⟨t, rfl⟩ := rx
  obtain ⟨t', rfl⟩ := ry
  exact rule i j t t' s _ _ ⟨.bl (g i j), H, I, rfl, q⟩
def CDiv (i j : Int) : Prop := 0 < j ∧ j < 1073741824
def CDivN (i j : Int) : Prop := j ≠ 0 ∧ j.natAbs < 1073741824
def CPow (i j : Int) : Prop := 0 ≤ j ∧ j ≤ 1000000 ∧ i.natAbs < 2 ^ 64
def CMul (i j : Int) : Prop := (-(2 ^ 64) < i ∧ i < 2 ^ 64) ∨ (-(2 ^ 64) < j ∧ j < 2 ^ 64)
theorem CMul.ok {i j : Int} (h : CMul i j) : IntMulOk i j := by
  rcases h with ⟨h1, h2⟩ | ⟨h1, h2⟩
  · exact .of_left (intBits_le_64 h1 h2)
  · exact .of_right (intBits_le_64 h1 h2)
theorem ziR (k : Nat) : (0 : Int) ≤ 2 ^ k := by
  rw [two_pow_cast]
  exact Int.natCast_nonneg _
theorem zbv : OpR X (binaryOp .Add) (rI0 fun i j => .int (i + j)) := opI0 fun _ _ _ _ _ _ _ q => add_int q
theorem zcu : OpR X (binaryOp .Sub) (rI0 fun i j => .int (i - j)) := opI0 fun _ _ _ _ _ _ _ q => sub_int q
theorem zcK : OpR X (binaryOp .Mult) (rI CMul fun i j => .int (i * j)) := opI fun _ _ _ _ _ _ _ hc q => mul_int q hc.ok
theorem zhk : OpR X (binaryOp .FloorDiv) (rI CDiv fun i j => .int (i / j)) := opI fun i j _ _ _ _ _ hc q => by
  have h1 : (0 : Int) < j := hc.1
  have h2 : j < 1073741824 := hc.2
  exact floordiv_int (by omega) (by rw [Int.fdiv_eq_ediv_of_nonneg i (by omega)]; exact q) (.inl (PyProof.noPylong_small (by omega)))
theorem zeq : OpR X (binaryOp .Mod) (rI (fun _ j => 0 < j) fun i j => .int (i % j)) := opI fun i j _ _ _ _ _ hc q => by
  have h1 : (0 : Int) < j := hc
  exact mod_int' (by omega) (by rw [Int.fmod_eq_emod_of_nonneg i (by omega)]; exact q)
theorem zfu : OpR X (binaryOp .Pow) (rI CPow fun i j => .int (i ^ j.toNat)) := opI fun _ _ _ _ _ _ _ hc q => pow_int_small hc.1 hc.2.1 hc.2.2 q
theorem zor : OpR X (binaryOp .RShift) (rI (fun _ j => 0 ≤ j) fun i j => .int (i / 2 ^ j.toNat)) := opI fun i j _ _ _ _ _ hc q =>
  rshift_int hc (by rw [Int.fdiv_eq_ediv_of_nonneg i (ziR _)]; exact q)
theorem zmI : OpR X (binaryOp .BitAnd) (rI0 fun i j => .int (Builtin.bitAnd i j)) := opI0 fun _ _ _ _ _ _ _ q => and_int q
theorem zoq : OpR X (binaryOp .BitXor) (rI0 fun i j => .int (Builtin.bitXor i j)) := opI0 fun _ _ _ _ _ _ _ q => xor_int q
theorem unI {f : Value → Sem Value} {g : Int → Int}
    (rule : ∀ (i : Int) (t : Tok) (s : Shared) (Q : Value → Shared → Prop) (E : Value → Shared → Prop), Q (.int (g i) s.toks) { s with toks := s.toks + 1 } → wpAny (model X.prog X.w) X.A (f (.int i t)) Q E s) :
    UnR X f (rU fun i => .int (g i)) := by
  intro pins s σ H x v Q I rx h
  obtain ⟨i, rfl, q⟩ := h
  obtain ⟨t, rfl⟩ := rx
  exact rule i t s _ _ ⟨.int (g i), H, I.tok _, ⟨_, rfl⟩, q⟩
theorem zfk : UnR X (unaryOp .USub) (rU fun i => .int (-i)) := unI fun _ _ _ _ _ q => neg_int q
end
def scal : V → V → Bool
  | .non, .non => true | .non, .int _ => true | .int _, .non => true | .non, .bl _ => true | .bl _, .non => true | .non, .str _ => true | .str _, .non => true
  | .int _, .int _ => true | .bl _, .bl _ => true | .str _, .str _ => true | .byt _, .byt _ => true
  | .int _, .str _ => true | .str _, .int _ => true | .bl _, .str _ => true | .str _, .bl _ => true
  | _, _ => false
def rEq : R2 := fun x y H Q => scal x y = true ∧ Q (.bl (decide (x = y))) H
def rNe : R2 := fun x y H Q => scal x y = true ∧ Q (.bl (!decide (x = y))) H
theorem zk0 {i j : Int} : decide (V.int i = V.int j) = (i == j) := by
  rw [Bool.eq_iff_iff]
  simp
theorem zmO {i j : Bool} : decide (V.bl i = V.bl j) = (i == j) := by
  rw [Bool.eq_iff_iff]
  simp
theorem zkZ {i j : Str} : decide (V.str i = V.str j) = (i == j) := by
  rw [Bool.eq_iff_iff]
  simp
theorem zk1 {i j : Array UInt8} : decide (V.byt i = V.byt j) = (i.toList == j.toList) := by
  rw [Bool.eq_iff_iff]
  cases i
  cases j
  simp
section
variable {X : Cx} {a b c : Expr} {ta tb tc : TE} {pos : Pos}
theorem zaN {pins : List (Addr × Obj)} {σ : St} {H : Hp} {s : Shared} {Q : VK} {k k' : Bool} (I : Inv X pins σ H s) (q : Q (.bl k) H) (e : k = k') : EP X pins σ Q (.bool k') s := by
  subst e
  exact ⟨.bl k, H, I, rfl, q⟩
theorem zff : OpR X (compareOp .Eq) rEq := by
  intro pins s σ H x y v u Q I rx ry h
  obtain ⟨hs, q⟩ := h
  cases x with
  | non =>
    cases rx
    cases y with
    | non => cases ry; exact PySem.EqNone.eq_none_none (zaN I q (by simp))
    | bl j => cases ry; exact PySem.EqNone.eq_none_bool (zaN I q (by simp))
    | int j => obtain ⟨t', rfl⟩ := ry; exact PySem.EqNone.eq_none_int (zaN I q (by simp))
    | str j => obtain ⟨t', rfl⟩ := ry; exact PySem.EqNone.eq_none_str (zaN I q (by simp))
    | _ => exact absurd (show false = true from hs) Bool.false_ne_true
  | bl i =>
    cases rx
    cases y with
    | non => cases ry; exact PySem.EqNone.eq_bool_none (zaN I q (by simp))
    | bl j => cases ry; exact eq_bool (zaN I q zmO)
    | str j => obtain ⟨t', rfl⟩ := ry; exact PySem.EqMixed.eq_bool_str (zaN I q (by simp))
    | _ => exact absurd (show false = true from hs) Bool.false_ne_true
  | int i =>
    obtain ⟨t, rfl⟩ := rx
    cases y with
    | non => cases ry; exact PySem.EqNone.eq_int_none (zaN I q (by simp))
    | int j => obtain ⟨t', rfl⟩ := ry; exact eq_int (zaN I q zk0)
    | str j => obtain ⟨t', rfl⟩ := ry; exact PySem.EqMixed.eq_int_str (zaN I q (by simp))
    | _ => exact absurd (show false = true from hs) Bool.false_ne_true
  | str i =>
    obtain ⟨t, rfl⟩ := rx
    cases y with
    | non => cases ry; exact PySem.EqNone.eq_str_none (zaN I q (by simp))
    | bl j => cases ry; exact PySem.EqMixed.eq_str_bool (zaN I q (by simp))
    | int j => obtain ⟨t', rfl⟩ := ry; exact PySem.EqMixed.eq_str_int (zaN I q (by simp))
    | str j => obtain ⟨t', rfl⟩ := ry; exact eq_str (zaN I q zkZ)
    | _ => exact absurd (show false = true from hs) Bool.false_ne_true
  | byt i =>
    obtain ⟨t, rfl⟩ := rx
    cases y with
    | byt j => obtain ⟨t', rfl⟩ := ry; exact PySem.W.eq_bytes (zaN I q zk1)
    | _ => exact absurd (show false = true from hs) Bool.false_ne_true
  | _ => cases y <;> exact absurd (show false = true from hs) Bool.false_ne_true
theorem op_ne : OpR X (compareOp .NotEq) rNe := by
  intro pins s σ H x y v u Q I rx ry h
  obtain ⟨hs, q⟩ := h
  cases x with
  | non =>
    cases rx
    cases y with
    | non => cases ry; exact PySem.EqNone.ne_none_none (zaN I q (by simp))
    | bl j => cases ry; exact PySem.EqNone.ne_none_bool (zaN I q (by simp))
    | int j => obtain ⟨t', rfl⟩ := ry; exact PySem.EqNone.ne_none_int (zaN I q (by simp))
    | str j => obtain ⟨t', rfl⟩ := ry; exact PySem.EqNone.ne_none_str (zaN I q (by simp))
    | _ => exact absurd (show false = true from hs) Bool.false_ne_true
  | bl i =>
    cases rx
    cases y with
    | non => cases ry; exact PySem.EqNone.ne_bool_none (zaN I q (by simp))
    | bl j => cases ry; exact ne_bool (zaN I q (congrArg not zmO))
    | str j => obtain ⟨t', rfl⟩ := ry; exact PySem.EqMixed.ne_bool_str (zaN I q (by simp))
    | _ => exact absurd (show false = true from hs) Bool.false_ne_true
  | int i =>
    obtain ⟨t, rfl⟩ := rx
    cases y with
    | non => cases ry; exact PySem.EqNone.ne_int_none (zaN I q (by simp))
    | int j => obtain ⟨t', rfl⟩ := ry; exact ne_int (zaN I q (congrArg not zk0))
    | str j => obtain ⟨t', rfl⟩ := ry; exact PySem.EqMixed.ne_int_str (zaN I q (by simp))
    | _ => exact absurd (show false = true from hs) Bool.false_ne_true
  | str i =>
    obtain ⟨t, rfl⟩ := rx
    cases y with
    | non => cases ry; exact PySem.EqNone.ne_str_none (zaN I q (by simp))
    | bl j => cases ry; exact PySem.EqMixed.ne_str_bool (zaN I q (by simp))
    | int j => obtain ⟨t', rfl⟩ := ry; exact PySem.EqMixed.ne_str_int (zaN I q (by simp))
    | str j => obtain ⟨t', rfl⟩ := ry; exact ne_str (zaN I q (congrArg not zkZ))
    | _ => exact absurd (show false = true from hs) Bool.false_ne_true
  | byt i =>
    obtain ⟨t, rfl⟩ := rx
    cases y with
    | byt j => obtain ⟨t', rfl⟩ := ry; exact PySem.W.ne_bytes (zaN I q (congrArg not zk1))
    | _ => exact absurd (show false = true from hs) Bool.false_ne_true
  | _ => cases y <;> exact absurd (show false = true from hs) Bool.false_ne_true
theorem zgC : OpR X (compareOp .Lt) (rI0 fun i j => .bl (decide (i < j))) := opB0 fun _ _ _ _ _ _ _ q => lt_int q
theorem zos : OpR X (compareOp .LtE) (rI0 fun i j => .bl (decide (i ≤ j))) := opB0 fun _ _ _ _ _ _ _ q => le_int q
theorem zot : OpR X (compareOp .Gt) (rI0 fun i j => .bl (decide (j < i))) := opB0 fun _ _ _ _ _ _ _ q => gt_int q
theorem zou : OpR X (compareOp .GtE) (rI0 fun i j => .bl (decide (j ≤ i))) := opB0 fun _ _ _ _ _ _ _ q => ge_int q
def isObj : HO → Bool
  | .lst _ => true
  | .ins _ _ _ => true
  | _ => false
theorem zbc (b : Expr) {op : CmpOp} (h : op ≠ .In := by decide) (h2 : op ≠ .NotIn := by decide) : behindInMarks op b = false := by
  have e1 : (op == CmpOp.In) = false := by cases op <;> first | rfl | exact absurd rfl h
  have e2 : (op == CmpOp.NotIn) = false := by cases op <;> first | rfl | exact absurd rfl h2
  cases b <;> simp [behindInMarks, e1, e2]
theorem zeP {op : CmpOp} {r : R2} (ho : OpR X (compareOp op) r) (ha : PE X a ta) (hb : PE X b tb) (hm : behindInMarks op b = false) : PE X (.Compare a [op] [b] pos) (tOp r ta tb) := by
  intro pins s σ H Q I h
  exact wpAny_Compare1 (binT ha hb I h fun v u s2 x y H2 I2 rx ry q => ho pins s2 σ H2 x y v u Q I2 rx ry q) hm
def znW (t : TE) : TT := fun σ H Q => t σ H fun x H' => ∃ k, x = .bl k ∧ Q k H'
theorem zaJ {op : CmpOp} {r : R2} (ho : OpR X (compareOp op) r) (ha : PE X a ta) (hb : PE X b tb) (hm : behindInMarks op b = false) : PT X (.Compare a [op] [b] pos) (znW (tOp r ta tb)) := by
  intro pins s σ H Q I h
  refine wpAny_isTrue_Compare1 (thn (ha pins s σ H _ I h) fun v s1 ⟨x, H1, I1, r1, q1⟩ => thn (hb pins s1 σ H1 _ I1 q1) fun u s2 ⟨y, H2, I2, r2, q2⟩ =>
    thn (ho pins s2 σ H2 x y v u _ I2 r1 r2 q2) fun c s3 ⟨z, H3, I3, r3, k, e, q3⟩ => ?_) hm
  subst e
  cases r3
  exact wpAny_truthy_bool ⟨H3, I3, q3⟩
def zn1 (r r' : R2) (ta tb tc : TE) : TE := fun σ H Q => ta σ H fun x H1 => tb σ H1 fun y H2 => r x y H2 fun z H3 => ∃ k, z = .bl k ∧
  (if k = true then tc σ H3 fun w' H4 => r' y w' H4 Q else Q (.bl false) H3)
theorem zlC {op op' : CmpOp} {r r' : R2} (ho : OpR X (compareOp op) r) (ho' : OpR X (compareOp op') r') (ha : PE X a ta) (hb : PE X b tb) (hc : PE X c tc)
    (hm : lastMarks [op, op'] [b, c] = false := by with_unfolding_all rfl) : PT X (.Compare a [op, op'] [b, c] pos) (znW (zn1 r r' ta tb tc)) := by
  intro pins s σ H Q I h
  refine isTrue_chain (thn (ha pins s σ H _ I h) fun v s1 ⟨x, H1, I1, r1, q1⟩ => test_link (thn (hb pins s1 σ H1 _ I1 q1) fun u s2 ⟨y, H2, I2, r2, q2⟩ =>
    thn (ho pins s2 σ H2 x y v u _ I2 r1 r2 q2) fun d s3 ⟨z, H3, I3, r3, k, e, q3⟩ => ?_)) hm
  subst e
  cases r3
  refine wpAny_truthy_bool ?_
  cases k with
  | false =>
    obtain ⟨k', e', q'⟩ := q3
    cases e'
    exact ite_ff ⟨H3, I3, q'⟩
  | true =>
    refine ite_tt (test_last (thn (hc pins s3 σ H3 _ I3 q3) fun w' s4 ⟨z', H4, I4, r4, q4⟩ => thn (ho' pins s4 σ H4 y z' u w' _ I4 r2 r4 q4) fun d' s5 ⟨z2, H5, I5, r5, k2, e2, q5⟩ => ?_))
    subst e2
    cases r5
    exact wpAny_truthy_bool ⟨H5, I5, q5⟩
def TruV (K : PySem.W.Frag) (x : V) (H : Hp) (k : Bool) : Prop :=
  match x with
  | .non => k = false
  | .bl b => k = b
  | .int i => k = (i != 0)
  | .str y => y.length ≤ sizeLine ∧ k = ((y.length : Int) != 0)
  | .byt y => y.size ≤ sizeLine ∧ k = ((y.size : Int) != 0)
  | .ref p => (∃ xs, SqL K H p xs ∧ k = !xs.isEmpty) ∨ (∃ xs, SqT K H p xs ∧ k = !xs.isEmpty) ∨ ∃ kvs, H p = some (.dK kvs) ∧ k = !kvs.isEmpty
  | _ => False
theorem zim : (sizeLine : Nat) < 2 ^ 63 := by rw [sizeLine_eq]; decide
def PlainIxT (b : Expr) : Prop := ∀ o i, subscripted b false o i = operate [o, i] (getItem o i)
theorem zfd {x : V} {us : List Value} (r : Vals [x] us) : ∃ u, us = [u] ∧ RelV x u := by
  cases r with
  | cons r1 r2 => cases r2; exact ⟨_, rfl, r1⟩
theorem zhc {x y : V} {us : List Value} (r : Vals [x, y] us) : ∃ u w', us = [u, w'] ∧ RelV x u ∧ RelV y w' := by
  cases r with
  | cons r1 r2 =>
    cases r2 with
    | cons r3 r4 => cases r4; exact ⟨_, _, rfl, r1, r3⟩
theorem zgi : zd6 X (.builtin "abs") (fun xs H Q => ∃ i, xs = [.int i] ∧ Q (.int (if i < 0 then -i else i)) H) := by
  intro pins s σ H xs us Q I r h
  obtain ⟨i, rfl, q⟩ := h
  obtain ⟨u, rfl, t, rfl⟩ := zfd r
  exact call_abs_int fun u tk => ⟨.int (if i < 0 then -i else i), H, I.tok _, ⟨_, rfl⟩, q⟩
theorem zgX (hc : X.calm = true) : zd6 X (.builtin "max") (fun xs H Q => ∃ i j, xs = [.int i, .int j] ∧ Q (.int (if j > i then j else i)) H) := by
  intro pins s σ H xs us Q I r h
  obtain ⟨i, j, rfl, q⟩ := h
  obtain ⟨u, w', rfl, ⟨t, rfl⟩, ⟨t', rfl⟩⟩ := zhc r
  refine max_two_ints (I.ok.hd hc) fun h' tk k => ⟨_, H, I.kept k, ?_, q⟩
  by_cases hj : j > i
  · rw [if_pos hj, if_pos hj]; exact ⟨_, rfl⟩
  · rw [if_neg hj, if_neg hj]; exact ⟨_, rfl⟩
theorem zlb (hc : X.calm = true) : zd6 X (.builtin "min") (fun xs H Q => ∃ i j, xs = [.int i, .int j] ∧ Q (.int (if j < i then j else i)) H) := by
  intro pins s σ H xs us Q I r h
  obtain ⟨i, j, rfl, q⟩ := h
  obtain ⟨u, w', rfl, ⟨t, rfl⟩, ⟨t', rfl⟩⟩ := zhc r
  refine min_two_ints (I.ok.hd hc) fun h' tk k => ⟨_, H, I.kept k, ?_, q⟩
  by_cases hj : j < i
  · rw [if_pos hj, if_pos hj]; exact ⟨_, rfl⟩
  · rw [if_neg hj, if_neg hj]; exact ⟨_, rfl⟩
def LenV (K : PySem.W.Frag) (x : V) (H : Hp) (n : Nat) : Prop :=
  match x with
  | .str y => y.length ≤ sizeLine ∧ n = y.length
  | .byt y => y.size ≤ sizeLine ∧ n = y.size
  | .ref p => (∃ xs, SqL K H p xs ∧ n = xs.length) ∨ ∃ xs, SqT K H p xs ∧ n = xs.length
  | _ => False
end
end L2
namespace L2
open PySem PySem.Spec PyProof.Rows
structure ObjM (h : Heap) (x dx C : Addr) (mA : Str → Option Value) : Prop where
  obj : h.get? x = some (PySem.W.instObj C dx)
  ns : h.Ns1 dx mA
  ne : dx ≠ x
section
variable {prog : Program} {w : World} {A : Around} {E : Value → Shared → Prop} {s : Shared} {K : PySem.W.Frag} {x dx C f : Addr} {mA : Str → Option Value} {name : Str} {v : Value}
end
def putF (f : Str) (v : V) : List (Str × V) → List (Str × V)
  | [] => [(f, v)]
  | (g, x) :: r => if g = f then (g, v) :: r else (g, x) :: putF f v r
theorem RelO.some_of {v : V} {o : Option Value} (r : RelO (some v) o) : ∃ u, o = some u ∧ RelV v u := by
  cases o with
  | none => exact (show False from r).elim
  | some u => exact ⟨u, rfl, r⟩
section
variable {P : Program} {w : World} {H H' : Hp} {h h' : Heap} {a C dx : Addr} {fs fs' : List (Str × V)}
end
structure Cls (K : PySem.W.Frag) (C : Addr) : Prop where
  pg : PySem.W.plainGet K C Str.empty = true
  hd : PySem.W.hasDictIn K C = true
  po : PySem.W.plainOver K C = true
  sa : PySem.W.findIn K (.ref C) "__setattr__" = some (some (.builtin "object.__setattr__"))
theorem Cls.get {K : PySem.W.Frag} {C : Addr} (c : Cls K C) (f : Str) : PySem.W.plainGet K C f = true := c.pg
def zlo (K : PySem.W.Frag) (C : Addr) (f : Str) : Prop := PySem.W.findIn K (.ref C) f = some none
structure Con (K : PySem.W.Frag) (C : Addr) (f : Str) (v : V) (u : Value) : Prop where
  at_ : PySem.W.findIn K (.ref C) f = some (some u)
  rel : RelV v u
  get : PySem.W.specialIn K u "__get__" = some none
  cp : PySem.W.copiedNames.contains f = false
structure Meth (K : PySem.W.Frag) (C : Addr) (m : Str) (f : Addr) : Prop where
  at_ : PySem.W.findIn K (.ref C) m = some (some (.ref f))
  fn : PySem.W.isFn K (.ref f) = true
  kp : PySem.W.keepIn K (.ref f) = true
section
variable {X : Cx} {pins : List (Addr × Obj)} {σ : St} {H : Hp} {s : Shared} {a C dx : Addr} {fs : List (Str × V)} {f : Str} {v : V} {A : Around} {E : Value → Shared → Prop}
theorem Inv.made (I : Inv X pins σ H s) : Inv X pins σ (upd (upd H s.heap.objs.size (.own (s.heap.objs.size + 1))) (s.heap.objs.size + 1) (.ins C s.heap.objs.size []))
    { s with heap := (s.heap.push PySem.W.emptyDict).push (PySem.W.instObj C s.heap.objs.size) } := by
  have e1 : (s.heap.push PySem.W.emptyDict).get? s.heap.objs.size = some PySem.W.emptyDict := Heap.get?_push_size s.heap rfl
  have e2 : ((s.heap.push PySem.W.emptyDict).push (PySem.W.instObj C s.heap.objs.size)).get? (s.heap.objs.size + 1) = some (PySem.W.instObj C s.heap.objs.size) := by
    have := Heap.get?_push_size (s.heap.push PySem.W.emptyDict) (o := PySem.W.instObj C s.heap.objs.size) rfl
    rwa [Heap.size_push] at this
  have e3 : (s.heap.push PySem.W.emptyDict).Ns s.heap.objs.size (fun _ => none) := ⟨PySem.W.emptyDict, #[], _, e1, rfl, (fun e he => absurd he (by simp)), fun _ => rfl⟩
  have I1 := I.laid (a := s.heap.objs.size) (o := .own (s.heap.objs.size + 1)) (h' := s.heap.push PySem.W.emptyDict) (t' := s.toks) (fun b u q => Heap.get?_push_of_some _ q) (Nat.le_refl _) ⟨_, e1⟩
  refine I1.laid (a := s.heap.objs.size + 1) (o := .ins C s.heap.objs.size []) (t' := s.toks) (fun b u q => Heap.get?_push_of_some _ q) (Nat.le_of_eq (Heap.size_push _ _)) ?_
  have ne : s.heap.objs.size ≠ s.heap.objs.size + 1 := Nat.ne_of_lt (Nat.lt_succ_self _)
  refine ⟨by rw [zah ne, zac], Nat.zero_le _, ne, e2, fun _ => none, (Heap.Ns1.of_empty e3).at fun o q => Heap.get?_push_of_some _ q, fun _ => True.intro, fun y hy => absurd rfl hy⟩
end
def tFld (K : PySem.W.Frag) (ta : TE) (f : Str) : TE := fun σ H Q => ta σ H fun x H1 => ∃ a C dx fs v, x = .ref a ∧ H1 a = some (.ins C dx fs) ∧ Cls K C ∧ zlo K C f ∧ fs.lookup f = some v ∧ Q v H1
def tCon (K : PySem.W.Frag) (ta : TE) (f : Str) : TE := fun σ H Q => ta σ H fun x H1 => ∃ a C dx fs v u, x = .ref a ∧ H1 a = some (.ins C dx fs) ∧ Cls K C ∧ Con K C f v u ∧ fs.lookup f = none ∧ Q v H1
def sFld (K : PySem.W.Frag) (ta tv : TE) (f : Str) : TS := fun D σ H => tv σ H fun y H1 => ta σ H1 fun x H2 => ∃ a C dx fs, x = .ref a ∧ H2 a = some (.ins C dx fs) ∧ Cls K C ∧ zlo K C f ∧ fs.length < 1000 ∧
  D.nx σ (upd H2 a (.ins C dx (putF f y fs)))
def InOp (X : Cx) (op : Operator) (rd : V → V → Hp → VK → Prop) : Prop :=
  ∀ (pins : List (Addr × Obj)) (s : Shared) (σ : St) (H : Hp) (x y : V) (u v : Value) (Q : VK), Inv X pins σ H s → RelV x u → RelV y v → rd x y H Q → wpAny (model X.prog X.w) X.A (inplaceOp op u v) (EP X pins σ Q) X.xe s
def sFldAug (K : PySem.W.Frag) (ta tv : TE) (rd : V → V → Hp → VK → Prop) (f : Str) : TS := fun D σ H => ta σ H fun x H1 => ∃ a C dx fs v, x = .ref a ∧ H1 a = some (.ins C dx fs) ∧ Cls K C ∧ zlo K C f ∧ fs.lookup f = some v ∧
  tv σ H1 fun y H2 => rd v y H2 fun z H3 => ∃ dx' fs', H3 a = some (.ins C dx' fs') ∧ fs'.length < 1000 ∧ D.nx σ (upd H3 a (.ins C dx' (putF f z fs')))
section
variable {X : Cx} {o e value : Expr} {f : Str} {pos pos' tpos : Pos} {ta tv : TE}
def rAdd : V → V → Hp → VK → Prop := fun x y H Q => ∃ i j, x = .int i ∧ y = .int j ∧ Q (.int (i + j)) H
def rSub : V → V → Hp → VK → Prop := fun x y H Q => ∃ i j, x = .int i ∧ y = .int j ∧ Q (.int (i - j)) H
end
section
variable {X : Cx} {pins : List (Addr × Obj)} {σ : St} {H : Hp} {s : Shared} {A : Around} {E : Value → Shared → Prop} {Q : Value → Shared → Prop} {c : Value} {b : Bool}
inductive TyOf (K : PySem.W.Frag) (H : Hp) : V → Value → Prop where
  | non : TyOf K H .non (.type "NoneType")
  | bl (x : Bool) : TyOf K H (.bl x) (.type "bool")
  | int (i : Int) : TyOf K H (.int i) (.type "int")
  | str (x : Str) : TyOf K H (.str x) (.type "str")
  | flt (x : UInt64) : TyOf K H (.flt x) (.type "float")
  | lst {a : Addr} {xs : List V} (e : H a = some (.lst xs)) : TyOf K H (.ref a) (.type "list")
  | frz {a : Addr} {o : Obj} {xs : List V} (e : H a = some (.frz o (.lst xs))) : TyOf K H (.ref a) (.type "list")
  | tup {a : Addr} {xs : List V} (e : H a = some (.tup xs)) : TyOf K H (.ref a) (.type "tuple")
  | dK {a : Addr} {kvs : List (Key × V)} (e : H a = some (.dK kvs)) : TyOf K H (.ref a) (.type "dict")
  | dT {a : Addr} {kvs : List (List Key × V)} (e : H a = some (.dT kvs)) : TyOf K H (.ref a) (.type "dict")
  | ins {a C dx : Addr} {fs : List (Str × V)} (e : H a = some (.ins C dx fs)) (cl : Cls K C) (ha : PySem.W.findIn K (.ref C) "__class__" = some (some (.builtin "object.__class__")))
      (hn : PySem.W.specialIn K (.builtin "object.__class__") "__get__" = some (some (.builtin "getset_descriptor.__get__"))) (htk : PySem.W.takesIn K (.builtin "object.__class__") = some true)
      (hm : PySem.W.mroIn K C (.type "object") = some true) : TyOf K H (.ref a) (.ref C)
end
end L2
namespace L2
open PySem PySem.Spec PyProof.Rows
structure Room (k : Nat) (A : Around) : Prop where
  hd : A.handled = none
  dp : A.depth + 3 * k + 5 < recursionLimit
  un : A.units + 16 * k + 200 < cLine
theorem Room.mono {j k : Nat} {A : Around} (r : Room k A) (h : j ≤ k) : Room j A := ⟨r.hd, by have := r.dp; omega, by have := r.un; omega⟩
theorem Room.deeper {k : Nat} {A : Around} (r : Room (k + 1) A) (env : Env) : Room k (A.deeper env) :=
  ⟨r.hd, by have := r.dp; show A.depth + 1 + 3 * k + 5 < _; omega, by have := r.un; show A.units + 3 + 16 * k + 200 < _; omega⟩
theorem Room.in1 {k : Nat} {A : Around} (r : Room (k + 1) A) : Room k A.in1 :=
  ⟨r.hd, by have := r.dp; show A.depth + 3 * k + 5 < _; omega, by have := r.un; show A.units + 1 + 16 * k + 200 < _; omega⟩
theorem Room.depth {k : Nat} {A : Around} (r : Room k A) : A.depth < recursionLimit := by have := r.dp; omega
theorem Room.units {k : Nat} {A : Around} (r : Room k A) : A.units + 64 < cLine := by have := r.un; omega
def tNil : TA := fun _ H Q => Q [] H
def tCons (ta : TE) (tr : TA) : TA := fun σ H Q => ta σ H fun x H1 => tr σ H1 fun xs H2 => Q (x :: xs) H2
section
variable {X : Cx} {e : Expr} {es : List Expr} {te : TE} {t : TA} {pos : Pos}
theorem zae : PA X [] tNil := fun _ _ _ _ H Q I h => Calls.spliced_nil ⟨[], H, I, .nil, h⟩
theorem zaa (ha : PE X e te) (hr : PA X es t) (hs : starEach (e :: es) X.env = (false, eval e X.env) :: starEach es X.env := by rfl) : PA X (e :: es) (tCons te t) := by
  intro pos pins s σ H Q I h
  rw [hs]
  show wpAny _ _ (spliced ((false, eval e X.env) :: backTo pos (starEach es X.env))) _ _ s
  refine Calls.spliced_cons (thn (ha pins s σ H _ I h) fun u s1 ⟨x, H1, I1, r1, q1⟩ => ?_)
  exact thn (hr pos pins s1 σ H1 _ I1 q1) fun us s2 ⟨xs, H2, I2, r2, q2⟩ => ⟨x :: xs, H2, I2, .cons r1 r2, q2⟩
def tTup (t : TA) : TE := fun σ H Q => t σ H fun xs H1 => xs.length ≤ sizeLine ∧ ∀ p, H1 p = none → Q (.ref p) (upd H1 p (.tup xs))
def tLst (t : TA) : TE := fun σ H Q => t σ H fun xs H1 => xs.length ≤ sizeLine ∧ ∀ p, H1 p = none → Q (.ref p) (upd H1 p (.lst xs))
theorem zdU {x1} (h : PA X es t) : PE X (.Tuple es x1 pos) (tTup t) := by
  intro pins s σ H Q I hq
  refine wpAny_Tuple_spliced (thn (h pos pins s σ H _ I hq) fun us s1 ⟨xs, H1, I1, r, z, q⟩ => ⟨by rw [← r.length]; exact z, ?_⟩)
  have hf : H1 s1.heap.objs.size = none := I1.hok.fresh (Nat.le_refl _)
  refine ⟨.ref s1.heap.objs.size, upd H1 s1.heap.objs.size (.tup xs), I1.laid (t' := s1.toks) (fun b u e => Heap.get?_push_of_some _ e) (Nat.le_refl _) ?_, rfl, q _ hf⟩
  exact ⟨z, us, r, ⟨_, Heap.get?_push_size _ rfl, rfl, _, rfl⟩⟩
theorem zcJ (h : PA X es t) : PE X (.List es pos) (tLst t) := by
  intro pins s σ H Q I hq
  refine wpAny_List_spliced (thn (h pos pins s σ H _ I hq) fun us s1 ⟨xs, H1, I1, r, z, q⟩ => ⟨by rw [← r.length]; exact z, ?_⟩)
  have hf : H1 s1.heap.objs.size = none := I1.hok.fresh (Nat.le_refl _)
  refine ⟨.ref s1.heap.objs.size, upd H1 s1.heap.objs.size (.lst xs), I1.laid (t' := s1.toks) (fun b u e => Heap.get?_push_of_some _ e) (Nat.le_refl _) ?_, rfl, q _ hf⟩
  exact ⟨z, us, 0, r, Heap.get?_push_size _ rfl⟩
end
abbrev Sp := List V → Hp → VK → XK → Prop
abbrev CXT := List Env → Hp → Shared → XK → Value → Shared → Prop
structure Env0 (P : Program) (w : World) (K : PySem.W.Frag) (mg : Str → Option Value) (base : Heap) (A : Around) (outer : List Env) (s : Shared) (H : Hp) : Prop where
  frames : A.frames = some outer
  mod : Mod K mg base
  bs : ∀ b o, base.get? b = some o → s.heap.get? b = some o ∧ H b = none
  bsz : base.objs.size ≤ s.heap.objs.size
  funs : s.heap.FunFrames base outer
  frf : ∀ b ∈ frs outer, H b = none
  hok : HOk P w H s.heap
  bare : AllBare s.gens
def CE (outer : List Env) (P : Program) (w : World) (H : Hp) (s : Shared) (Q : VK) (u : Value) (s' : Shared) : Prop :=
  ∃ v H', s'.os = s.os ∧ AllBare s'.gens ∧ Un (frs outer) [] H H' s.heap s'.heap ∧ HOk P w H' s'.heap ∧ RelV v u ∧ Q v H'
def CR (CX : CXT) (outer : List Env) (P : Program) (w : World) (H : Hp) (s : Shared) (Q : VK) (E : XK) (r : Result) (s' : Shared) : Prop :=
  match r with
  | .ok (.ret u) => CE outer P w H s Q u s'
  | .ok _ => False
  | .error e => CX outer H s E e s'
structure FnOk (P : Program) (w : World) (K : PySem.W.Frag) (mg : Str → Option Value) (base : Heap) (CX : CXT) (k : Nat) (f : Addr) (fd : FuncData) (ps : List Str) (sp : Sp) : Prop where
  len : ∀ vs H Q E, sp vs H Q E → vs.length = ps.length
  run : ∀ (A : Around) (outer : List Env) (s : Shared) (H : Hp) (args : Args) (us : List Value) (vs : List V) (Q : VK) (E : XK), Room k A → Env0 P w K mg base A outer s H → BindsTo s fd args (ps.zip us) → Vals vs us → sp vs H Q E →
    codeAny (model P w) A (.call (.ref f) args) (CR CX outer P w H s Q E) s
theorem FnOk.mono {P : Program} {w : World} {K : PySem.W.Frag} {mg : Str → Option Value} {base : Heap} {CX : CXT} {j k : Nat} {f : Addr} {fd : FuncData} {ps : List Str} {sp : Sp} (F : FnOk P w K mg base CX j f fd ps sp) (h : j ≤ k) :
    FnOk P w K mg base CX k f fd ps sp := ⟨F.len, fun A outer s H args us vs Q E hr => F.run A outer s H args us vs Q E (hr.mono h)⟩
theorem FnOk.imp {P : Program} {w : World} {K : PySem.W.Frag} {mg : Str → Option Value} {base : Heap} {CX : CXT} {k : Nat} {f : Addr} {fd : FuncData} {ps : List Str} {sp sp' : Sp} (F : FnOk P w K mg base CX k f fd ps sp)
    (h : ∀ vs H Q E, sp' vs H Q E → sp vs H Q E) : FnOk P w K mg base CX k f fd ps sp' :=
  ⟨fun vs H Q E q => F.len vs H Q E (h _ _ _ _ q), fun A outer s H args us vs Q E hr he hb hv hs => F.run A outer s H args us vs Q E hr he hb hv (h _ _ _ _ hs)⟩
theorem Env0.in1 {P : Program} {w : World} {K : PySem.W.Frag} {mg : Str → Option Value} {base : Heap} {A : Around} {outer : List Env} {s : Shared} {H : Hp} (e : Env0 P w K mg base A outer s H) :
    Env0 P w K mg base A.in1 outer s H := ⟨e.frames, e.mod, e.bs, e.bsz, e.funs, e.frf, e.hok, e.bare⟩
section
variable {X : Cx} {pins : List (Addr × Obj)} {σ : St} {H : Hp} {s s' : Shared}
theorem Inv.env0 (I : Inv X pins σ H s) : Env0 X.prog X.w X.K X.mg X.base X.A X.stack s H :=
  ⟨I.ok.frames, I.ok.mod, I.bs, Nat.le_trans I.ok.bsz I.sz, I.stack, I.stkFree, I.hok, I.bare⟩
theorem Inv.after {Q : VK} {u : Value} (I : Inv X pins σ H s) (h : CE X.stack X.prog X.w H s Q u s') : EP X pins σ Q u s' := by
  obtain ⟨v, H', os, bare, un, hok, r, q⟩ := h
  obtain ⟨hh, g, d, t, os'⟩ := s'
  obtain rfl : os' = s.os := os
  exact ⟨v, H', I.call (h' := hh) (g' := g) (d' := d) (t' := t) (ch := []) un hok bare (fun b z => absurd z (by simp)), r, q⟩
end
def zn3 (sp : Sp) (dvs : List V) (E : XK) (t : TA) : TE := fun σ H Q => t σ H fun vs H1 => sp (vs ++ dvs) H1 Q E
def tMeth (C : Addr) (m : Str) (sp : Sp) (dvs : List V) (E : XK) (ta : TE) (t : TA) : TE := fun σ H Q => ta σ H fun x H1 => ∃ a dx fs, x = .ref a ∧ H1 a = some (.ins C dx fs) ∧ fs.lookup m = none ∧
  t σ H1 fun vs H2 => sp (x :: (vs ++ dvs)) H2 Q E
def tMake (C : Addr) (sp : Sp) (dvs : List V) (E : XK) (t : TA) : TE := fun σ H Q => t σ H fun vs H1 => ∀ x dx, H1 x = none → H1 dx = none → dx ≠ x →
  sp (.ref x :: (vs ++ dvs)) (upd (upd H1 dx (.own x)) x (.ins C dx [])) (fun v H2 => v = .non ∧ Q (.ref x) H2) E
def zgm (K : PySem.W.Frag) (fd : FuncData) (ps : List Str) (ds : List Value) : Prop :=
  ∀ (s : Shared) (us : List Value), K.In s.heap → (us ++ ds).length = ps.length → BindsTo s fd ⟨us, []⟩ (ps.zip (us ++ ds))
theorem zgm.all {K : PySem.W.Frag} {fd : FuncData} {ps : List Str} (h : ∀ us : List Value, us.length = ps.length → bindArgs fd ⟨us, []⟩ = pure (ps.zip us)) : zgm K fd ps [] := fun s us _ hl => by
  rw [List.append_nil] at hl ⊢
  exact .of_eq (h us hl)
def zln (CX : CXT) (X : Cx) (E : XK) : Prop := ∀ (pins : List (Addr × Obj)) (σ : St) (H : Hp) (s : Shared) (e : Value) (s' : Shared), Inv X pins σ H s → CX X.stack H s E e s' → X.xe e s'
section
variable {X : Cx} {CX : CXT} {k : Nat} {f C : Addr} {fd : FuncData} {ps : List Str} {sp : Sp} {dvs : List V} {ds : List Value} {E : XK} {x m : Str} {p pos apos : Pos} {e o : Expr} {es : List Expr} {ta : TE} {t : TA}
theorem zmz {pins : List (Addr × Obj)} {σ : St} {H : Hp} {s : Shared} {Q : VK} {us : List Value} {vs : List V} (F : FnOk X.prog X.w X.K X.mg X.base CX k f fd ps sp) (hr : Room k X.A) (hb : zgm X.K fd ps ds) (hd : Vals dvs ds) (hx : zln CX X E)
    (I : Inv X pins σ H s) (r : Vals vs us) (h : sp (vs ++ dvs) H Q E) : wpAny (model X.prog X.w) X.A (call (.ref f) us) (EP X pins σ Q) X.xe s := by
  have r2 : Vals (vs ++ dvs) (us ++ ds) := r.append hd
  have hl : (us ++ ds).length = ps.length := by rw [← r2.length]; exact F.len _ _ _ _ h
  refine wpAny_call (codeAny_mono (F.run X.A X.stack s H ⟨us, []⟩ (us ++ ds) (vs ++ dvs) Q E hr I.env0 (hb s us I.kIn hl) r2 h) fun r s' hq => ?_)
  cases r with
  | error e => exact hx pins σ H s e s' I hq
  | ok fl =>
    cases fl with
    | ret u => exact I.after hq
    | next => exact False.elim hq
    | brk => exact False.elim hq
    | cont => exact False.elim hq
theorem zne (F : FnOk X.prog X.w X.K X.mg X.base CX k f fd ps sp) (hr : Room k X.A) (hg : Gl X x) (hm : X.mg x = some (.ref f)) (hk : PySem.W.keepIn X.K (.ref f) = true) (hb : zgm X.K fd ps ds) (hd : Vals dvs ds) (hx : zln CX X E)
    (ha : PA X (e :: es) t) (hdb : (x == ("__debug__" : Str)) = false := by decide) (he : starEach (e :: es) X.env = (false, eval e X.env) :: starEach es X.env := by rfl) (hpl : (backTo pos (starEach es X.env)).any (·.1) = false := by rfl) :
    PE X (.Call (.Name x p) (e :: es) [] pos) (zn3 sp dvs E t) := by
  intro pins s σ H Q I h
  refine wpAny_Call_Name_kw (zhs I hg hm ?_ hdb)
  refine PySem.W.callWith_K (h₀ := X.base) I.ok.mod.kin hk (thn (ha pos pins s σ H _ I h) fun us s1 ⟨vs, H1, I1, r, q⟩ => ⟨I1.kIn, ?_⟩) he hpl
  exact zmz F hr hb hd hx I1 r q
structure Mk (K : PySem.W.Frag) (C f : Addr) : Prop where
  makes : PySem.W.makesIn K C = true
  init : PySem.W.findIn K (.ref C) "__init__" = some (some (.ref f))
  fn : PySem.W.isFn K (.ref f) = true
  kp : PySem.W.keepIn K (.ref C) = true
end
def PK (X : Cx) (kws : List Keyword) (t : TA) : Prop :=
  ∀ (pos : Pos) (pins : List (Addr × Obj)) (s : Shared) (σ : St) (H : Hp) (Q : List V → Hp → Prop), Inv X pins σ H s → t σ H Q → wpAny (model X.prog X.w) X.A (evalAll ((backToKw pos (keywordEach kws X.env)).map (·.2))) (AP X pins σ Q) X.xe s
section
variable {X : Cx} {CX : CXT} {k : Nat} {f C : Addr} {fd : FuncData} {ps ks : List Str} {sp : Sp} {E : XK} {x m : Str} {p pos apos kpos : Pos} {e o : Expr} {es : List Expr} {kws : List Keyword} {te ta : TE} {t tk : TA} {nm : Option Str}
structure KBinds (K : PySem.W.Frag) (fd : FuncData) (ps ks : List Str) (g : List Value → List Value → List Value) (gV : List V → List V → List V) : Prop where
  to : ∀ (s : Shared) (us ws : List Value), K.In s.heap → (g us ws).length = ps.length → BindsTo s fd ⟨us, ks.zip ws⟩ (ps.zip (g us ws))
  rel : ∀ {vs : List V} {us : List Value} {zs : List V} {ws : List Value}, Vals vs us → Vals zs ws → Vals (gV vs zs) (g us ws)
def tCallK (sp : Sp) (gV : List V → List V → List V) (E : XK) (t tk : TA) : TE := fun σ H Q => t σ H fun vs H1 => tk σ H1 fun zs H2 => sp (gV vs zs) H2 Q E
variable {g : List Value → List Value → List Value} {gV : List V → List V → List V}
end
structure zar (N P : List Str) (sc : Scope) : Prop where
  kind : sc.kind = .function
  co : sc.isCoroutine = false
  gen : sc.isGenerator = false
  nd : N.Nodup
  pre : N.take P.length = P
  par : ∀ x ∈ P, sc.names.lookup x = some .local ∨ sc.names.lookup x = some .cell
  nofree : ∀ y ∈ sc.names, y.2 ≠ .free
theorem zgZ {kindOf : Str → Option NameKind} {x : Str} : ∀ {binds : List (Str × Value)} {m : Str → Option Value}, (∀ v, (x, v) ∉ binds) → bindL kindOf binds m x = m x
  | [], _, _ => rfl
  | (n, v) :: r, m, h => by
    unfold bindL
    rw [zgZ fun w hw => h w (List.mem_cons_of_mem _ hw)]
    split
    · have : x ≠ n := by rintro rfl; exact h v List.mem_cons_self
      simp [this]
    · rfl
theorem zg1 {kindOf : Str → Option NameKind} {x : Str} : ∀ {binds : List (Str × Value)} {m : Str → Option Value}, (∀ v, (x, v) ∉ binds) → bindC kindOf binds m x = m x
  | [], _, _ => rfl
  | (n, v) :: r, m, h => by
    unfold bindC
    rw [zg1 fun w hw => h w (List.mem_cons_of_mem _ hw)]
    split
    · rfl
    · have : x ≠ n := by rintro rfl; exact h v List.mem_cons_self
      simp [this]
theorem zg0 {kindOf : Str → Option NameKind} {x : Str} {v : Value} : ∀ {P : List Str} {vs : List Value} {i : Nat} {m : Str → Option Value}, P.Nodup → P[i]? = some x → vs[i]? = some v → kindOf x = some .local →
    bindL kindOf (P.zip vs) m x = some v
  | [], _, _, _, _, h, _, _ => by simp at h
  | _ :: _, [], _, _, _, _, h, _ => by simp at h
  | p :: P, w :: vs, 0, m, nd, h1, h2, hk => by
    simp at h1 h2; subst h1; subst h2
    show bindL kindOf ((p, w) :: P.zip vs) m p = _
    unfold bindL
    rw [zgZ fun v hv => (List.nodup_cons.mp nd).1 (List.of_mem_zip hv).1, if_pos hk]
    simp
  | p :: P, w :: vs, i + 1, m, nd, h1, h2, hk => by
    show bindL kindOf ((p, w) :: P.zip vs) m x = _
    unfold bindL
    exact zg0 (i := i) (List.nodup_cons.mp nd).2 (by simpa using h1) (by simpa using h2) hk
theorem zg2 {kindOf : Str → Option NameKind} {x : Str} {v : Value} : ∀ {P : List Str} {vs : List Value} {i : Nat} {m : Str → Option Value}, P.Nodup → P[i]? = some x → vs[i]? = some v → kindOf x ≠ some .local →
    bindC kindOf (P.zip vs) m x = some v
  | [], _, _, _, _, h, _, _ => by simp at h
  | _ :: _, [], _, _, _, _, h, _ => by simp at h
  | p :: P, w :: vs, 0, m, nd, h1, h2, hk => by
    simp at h1 h2; subst h1; subst h2
    show bindC kindOf ((p, w) :: P.zip vs) m p = _
    unfold bindC
    rw [zg1 fun v hv => (List.nodup_cons.mp nd).1 (List.of_mem_zip hv).1, if_neg hk]
    simp
  | p :: P, w :: vs, i + 1, m, nd, h1, h2, hk => by
    show bindC kindOf ((p, w) :: P.zip vs) m x = _
    unfold bindC
    exact zg2 (i := i) (List.nodup_cons.mp nd).2 (by simpa using h1) (by simpa using h2) hk
def zcC (N : List Str) (vs : List V) : St := vs.map some ++ List.replicate (N.length - vs.length) none
def cxOf (CX : CXT) (P : Program) (w : World) (K : PySem.W.Frag) (mg : Str → Option Value) (base : Heap) (N : List Str) (qual : Str) (scope : Scope) (f : Addr) (cd : Value) (A : Around) (outer : List Env) (s : Shared) (H : Hp) (E : XK) : Cx where
  prog := P
  w := w
  K := K
  mg := mg
  base := base
  A := A.deeper (envOfC qual scope s.heap.objs.size f cd)
  N := N
  s₀ := s
  H₀ := H
  env := envOfC qual scope s.heap.objs.size f cd
  outer := outer
  stack := envOfC qual scope s.heap.objs.size f cd :: outer
  ex := []
  calm := true
  fn := fun _ => true
  pn := []
  xe := fun e s' => wpAny (model P w) (A.deeper (envOfC qual scope s.heap.objs.size f cd)) (leaving (envOfC qual scope s.heap.objs.size f cd) e) (fun _ s'' => CX outer H s E e s'') (fun e' s'' => CX outer H s E e' s'') s'
theorem ziH {sc : Scope} {n : Nat} {x : Str} (h : sc.names.lookup x = some .cell) : ∃ c, (cellsFrom n sc.names []).lookup x = some c := by
  have q := PySem.W.cellsFrom_some sc.names n [] (.inl h)
  exact Option.isSome_iff_exists.mp q
theorem zkH {CX : CXT} {P : Program} {w : World} {K : PySem.W.Frag} {mg : Str → Option Value} {base : Heap} {N ps : List Str} {qual : Str} {scope : Scope} {f : Addr} {cd : Value} {A : Around} {outer : List Env} {s s1 : Shared} {H : Hp} {E : XK} {us : List Value} {vs : List V}
    (S : zar N ps scope) (hd : A.handled = none) (e0 : Env0 P w K mg base A outer s H) (hl : vs.length = ps.length) (r : Vals vs us)
    (x : InCallC s s.heap.objs.size (bindL (envOfC qual scope s.heap.objs.size f cd).kindOf (ps.zip us) fun _ => none) (cellsFrom (s.heap.objs.size + 1) scope.names []) (bindC (envOfC qual scope s.heap.objs.size f cd).kindOf (ps.zip us) fun _ => none) s1) :
    Inv (cxOf CX P w K mg base N qual scope f cd A outer s H E) [] (zcC N vs) H s1 := by
  have hpl : ps.length ≤ N.length := by have := congrArg List.length S.pre; rw [List.length_take] at this; omega
  obtain ⟨h1, tk, rfl, hk⟩ := x.done
  have noA : ∀ b : Addr, b ∉ (cxOf CX P w K mg base N qual scope f cd A outer s H E).ex := fun b z => absurd (show b ∈ ([] : List Addr) from z) (by simp)
  refine ⟨⟨e0.mod, S.kind, rfl, rfl, Nat.le_refl _, fun y z c h1 h2 => ?_, fun y hy => ?_, fun y c _ h => ?_, fun _ => hd, Around.frames_deeper e0.frames, .inr ⟨rfl, rfl⟩, fun b z => absurd z (noA b), e0.bs, e0.bsz, fun b _ _ => noA b, fun b z => absurd z (noA b), e0.funs, e0.frf⟩,
    rfl, e0.bare, Un.kept hk, ⟨_, x.toInCall.ns, fun i y v h1 h2 h3 => ?_⟩, fun y c h => ⟨_, x.cell y c h⟩, e0.hok.fresh (Nat.le_refl _), fun y c h => ?_, fun p hp => absurd (show p ∈ ([] : List (Addr × Obj)) from hp) (by simp), e0.hok.kept hk, ?_⟩
  · exact name_of_addr x.apart (PySem.mem_of_lookup h1) (PySem.mem_of_lookup h2)
  · have hy : scope.names.lookup y = some .cell ∨ scope.names.lookup y = some .free := hy
    rcases hy with hy | hy
    · exact ziH hy
    · exact absurd rfl (S.nofree _ (PySem.mem_of_lookup hy))
  · exact Nat.le_of_lt (x.above y c (PySem.mem_of_lookup h))
  · have hi : i < vs.length := by
      unfold zcC at h2
      by_cases hi : i < vs.length
      · exact hi
      · rw [List.getElem?_append_right (by simpa using hi)] at h2
        rw [List.getElem?_replicate] at h2
        split at h2 <;> cases h2
    have ha : vs[i]? = some v := by
      unfold zcC at h2
      rw [List.getElem?_append_left (by simpa using hi), List.getElem?_map] at h2
      cases e : vs[i]? with
      | none => rw [e] at h2; cases h2
      | some a => rw [e] at h2; cases h2; rfl
    obtain ⟨u, hu, rv⟩ := r.get ha
    have hp : ps[i]? = some y := by
      rw [← S.pre, List.getElem?_take_of_lt (by omega)]; exact h1
    have ndP : ps.Nodup := by rw [← S.pre]; exact S.nd.sublist (List.take_sublist _ _)
    refine ⟨u, rv, ?_⟩
    rcases S.par y (List.mem_of_getElem? hp) with k | k
    · exact .inl ⟨k, zg0 ndP hp hu k⟩
    · obtain ⟨c, e⟩ := ziH (n := s.heap.objs.size + 1) k
      refine .inr ⟨.inl k, c, e, ?_⟩
      have q := x.cell y c e
      rw [zg2 ndP hp hu (by show scope.names.lookup y ≠ _; rw [k]; decide)] at q
      exact q
  · exact e0.hok.fresh (Nat.le_of_lt (x.above y c (PySem.mem_of_lookup h)))
  · unfold zcC
    show _ = N.length
    rw [List.length_append, List.length_map, List.length_replicate]
    omega
theorem fn_of {CX : CXT} {P : Program} {w : World} {K : PySem.W.Frag} {mg : Str → Option Value} {base : Heap} {k : Nat} {f : Addr} {name qual : Str} {params : Arguments} {body : List Stmt} {scope : Scope} {dV kV doc pm cdv ct oc : Value} {an od : Option Addr}
    {osl : Array (Option Value)} {N ps : List Str} {sp : Sp} (lk : K.lookup f = some ⟨oc, od, .func (PySem.W.fnOf name qual params body scope dV kV doc pm an cdv ct), osl⟩) (hcd : PySem.W.codeIn K cdv qual = true) (S : zar N ps scope)
    (len : ∀ vs H Q E, sp vs H Q E → vs.length = ps.length)
    (hbody : ∀ (A : Around) (outer : List Env) (s : Shared) (H : Hp) (vs : List V) (Q : VK) (E : XK), Room k (A.deeper (envOfC qual scope s.heap.objs.size f cdv)) → sp vs H Q E →
      ∃ t, PSs (cxOf CX P w K mg base N qual scope f cdv A outer s H E) body t ∧ t { nx := fun _ H' => Q .non H', rt := Q } (zcC N vs) H) :
    FnOk P w K mg base CX (k + 1) f (PySem.W.fnOf name qual params body scope dV kV doc pm an cdv ct) ps sp := by
  refine ⟨len, fun A outer s H args us vs Q E hr e0 hb r hsp => ?_⟩
  have hl := len _ _ _ _ hsp
  have KX : K.In s.heap := e0.mod.kin.keeps fun b o e => (e0.bs b o e).1
  have lim : s.heap.NoLimit := e0.mod.nolimit.keeps fun b o e => (e0.bs b o e).1
  have hkind : ∀ y ∈ ps.zip us, scope.names.lookup y.1 = some .local ∨ (scope.names.lookup y.1 = some .cell ∧ ((cellsFrom (s.heap.objs.size + 1) scope.names []).lookup y.1).isSome = true) := fun ⟨n, v⟩ hy => by
    rcases S.par n (List.of_mem_zip hy).1 with q | q
    · exact .inl q
    · exact .inr ⟨q, PySem.W.cellsFrom_some _ _ _ (.inl q)⟩
  refine codeAny_call_function hr.depth (KX _ _ lk) rfl S.co S.gen rfl (PySem.W.codeRec_of KX hcd) (hb _ _ _ _ ?_)
  refine wpAny_newFunctionEnv_cells S.kind hkind fun env he s1 x => ?_
  subst he
  refine ⟨lim.keeps x.toInCall.keep, codeAny_func ?_⟩
  obtain ⟨t, ht, hq⟩ := hbody A outer s H vs Q E (hr.deeper _) hsp
  have I : Inv (cxOf CX P w K mg base N qual scope f cdv A outer s H E) [] (zcC N vs) H s1 := zkH S hr.hd e0 hl r x
  refine wpAny_mono (ht [] s1 (zcC N vs) H _ I hq) (fun fl s' hs => ?_) fun e s' hs => hs
  have fin : ∀ {σ' : St} {H' : Hp} {v : V} {u : Value}, Inv (cxOf CX P w K mg base N qual scope f cdv A outer s H E) [] σ' H' s' → RelV v u → Q v H' → CE outer P w H s Q u s' :=
    fun {σ' H' v u} J rv q => ⟨v, H', J.os, J.bare, J.base, J.hok, rv, q⟩
  cases fl with
  | ret u =>
    obtain ⟨v, σ', H', J, rv, q⟩ := hs
    exact fin J rv q
  | next =>
    obtain ⟨σ', H', J, q⟩ := hs
    exact fin (v := V.non) (u := Value.none) J rfl q
  | brk =>
    obtain ⟨_, _, _, q⟩ := hs
    exact False.elim q
  | cont =>
    obtain ⟨_, _, _, q⟩ := hs
    exact False.elim q
end L2
namespace L2
open PySem PySem.Spec PyProof.Rows
section
variable {X : Cx} {x : Str} {p pos : Pos} {e : Expr} {es : List Expr} {t : TA} {id T : String} {r : List V → Hp → VK → Prop}
def tCB (r : List V → Hp → VK → Prop) (t : TA) : TE := fun σ H Q => t σ H fun vs H1 => r vs H1 Q
theorem zaD (hc : zd6 X (.builtin id) r) (hg : Gl X x) (hm : X.mg x = none) (hv : bootBuiltins x = some (.builtin id)) (ha : PA X (e :: es) t) (hn : x ≠ "__name__" := by decide) (hdb : (x == ("__debug__" : Str)) = false := by decide)
    (he : starEach (e :: es) X.env = (false, eval e X.env) :: starEach es X.env := by rfl) (hpl : (backTo pos (starEach es X.env)).any (·.1) = false := by rfl) : PE X (.Call (.Name x p) (e :: es) [] pos) (tCB r t) := by
  intro pins s σ H Q I h
  refine wpAny_Call_Name_kw (zeV I hg hm hv ?_ hn hdb)
  exact PyProof.Rows.callWith_builtin1 (thn (ha pos pins s σ H _ I h) fun us s1 ⟨vs, H1, I1, r1, q1⟩ => hc pins s1 σ H1 vs us Q I1 r1 q1) he hpl
theorem zci (hc : zd6 X (.type T) r) (hg : Gl X x) (hm : X.mg x = none) (hv : bootBuiltins x = some (.type T)) (ha : PA X (e :: es) t) (hn : x ≠ "__name__" := by decide) (hdb : (x == ("__debug__" : Str)) = false := by decide)
    (he : starEach (e :: es) X.env = (false, eval e X.env) :: starEach es X.env := by rfl) (hpl : (backTo pos (starEach es X.env)).any (·.1) = false := by rfl) : PE X (.Call (.Name x p) (e :: es) [] pos) (tCB r t) := by
  intro pins s σ H Q I h
  refine wpAny_Call_Name_kw (zeV I hg hm hv ?_ hn hdb)
  exact PyProof.Rows.callWith_type1 (thn (ha pos pins s σ H _ I h) fun us s1 ⟨vs, H1, I1, r1, q1⟩ => hc pins s1 σ H1 vs us Q I1 r1 q1) he hpl
end
end L2
namespace HT
open PySem PyProof.Rows
def lexLt : List Int → List Int → Bool
  | [], [] => false
  | [], _ :: _ => true
  | _ :: _, [] => false
  | x :: xs, y :: ys => if x = y then lexLt xs ys else decide (x < y)
section
open PySem.SeqAt
open PySem.AutoSeq1 (wpAny_loadPart')
open PySem.MeetsSeq PySem.MeetsSeq2 PySem.MeetsSeq3
end
section
variable {prog : Program} {w : World} {A : Around} {E : Value → Shared → Prop} {s : Shared}
def sIx (n d : Nat) : Option Int → Nat
  | none => d
  | some v => if v < 0 then (v + (n : Int)).toNat else min v.toNat n
theorem zhe (n d k : Nat) : sIx n d (some (k : Int)) = min k n := by
  show (if (k : Int) < 0 then ((k : Int) + (n : Int)).toNat else min (k : Int).toNat n) = min k n
  rw [if_neg (by omega), Int.toNat_natCast]
end
end HT
namespace L2
open PySem PySem.Spec PyProof.Rows
abbrev TO := St → Hp → (Option Int → Hp → Prop) → Prop
def PO (X : Cx) (e : Option Expr) (t : TO) : Prop :=
  ∀ (pins : List (Addr × Obj)) (s : Shared) (σ : St) (H : Hp) (Q : Option Int → Hp → Prop), Inv X pins σ H s → t σ H Q →
    wpAny (model X.prog X.w) X.A (evalPart e X.env) (fun u s' => ∃ o H', Inv X pins σ H' s' ∧ IsPart u o ∧ Q o H') X.xe s
def tNoPart : TO := fun _ H Q => Q none H
def tPart (t : TE) : TO := fun σ H Q => t σ H fun x H1 => ∃ i, x = .int i ∧ Q (some i) H1
section
variable {X : Cx} {e : Expr} {te : TE} {lo hi : Option Expr} {tl th : TO} {pos p2 : Pos}
theorem zfY (h : PE X e te) : PO X (some e) (tPart te) := by
  intro pins s σ H Q I hw
  rw [evalPart_some]
  refine thn (h pins s σ H _ I hw) fun u s1 ⟨x, H1, I1, r1, q1⟩ => ?_
  obtain ⟨i, rfl, q⟩ := q1
  obtain ⟨t, rfl⟩ := r1
  exact ⟨some i, H1, I1, .int i t, q⟩
def SlR (X : Cx) (r : V → Option Int → Option Int → Hp → VK → Prop) : Prop :=
  ∀ (pins : List (Addr × Obj)) (s : Shared) (σ : St) (H : Hp) (x : V) (v vl vu : Value) (lo hi : Option Int) (sl : Addr) (Q : VK), Inv X pins σ H s → RelV x v → s.heap.IsSliceOf sl vl vu .none → IsPart vl lo → IsPart vu hi → r x lo hi H Q →
    ∃ T id, typeLookup (.type T) "__getitem__" = pure (some (.builtin id)) ∧ s.TypeIs v T ∧ wpAny (model X.prog X.w) X.A (getItem v (.ref sl)) (EP X pins σ Q) X.xe s
def tSl (r : V → Option Int → Option Int → Hp → VK → Prop) (te : TE) (tl th : TO) : TE := fun σ H Q => te σ H fun x H1 => tl σ H1 fun l H2 => th σ H2 fun u H3 => r x l u H3 Q
theorem zic {r : V → Option Int → Option Int → Hp → VK → Prop} (hr : SlR X r) (he : PE X e te) (hl : PO X lo tl) (hu : PO X hi th) : PE X (.Subscript e (.Slice lo hi none p2) pos) (tSl r te tl th) := by
  intro pins s σ H Q I h
  refine Subscript_ (thn (he pins s σ H _ I h) fun v s1 ⟨x, H1, I1, r1, q1⟩ => ?_)
  refine wpAny_Slice (thn (hl pins s1 σ H1 _ I1 q1) fun vl s2 ⟨l, H2, I2, pl, q2⟩ => thn (hu pins s2 σ H2 _ I2 q2) fun vu s3 ⟨u, H3, I3, pu, q3⟩ => ?_)
  rw [evalPart_none]
  refine wpAny_pure ?_
  have I4 : Inv X pins σ H3 { s3 with heap := s3.heap.push { cls := .type "slice", data := .fields #[vl, vu, .none] } } := I3.kept (t' := s3.toks) fun b ob q => Heap.get?_push_of_some _ q
  obtain ⟨T, id, hT, ht, hg⟩ := hr pins { s3 with heap := s3.heap.push { cls := .type "slice", data := .fields #[vl, vu, .none] } } σ H3 x v vl vu l u s3.heap.objs.size Q I4 r1 (Heap.IsSliceOf.new ..) pl pu q3
  show wpAny (model X.prog X.w) X.A (subscriptTail e (.Slice lo hi none p2) v (.ref s3.heap.objs.size)) (EP X pins σ Q) X.xe { s3 with heap := s3.heap.push { cls := .type "slice", data := .fields #[vl, vu, .none] } }
  exact tail_any (ops := [.ref s3.heap.objs.size, v]) ht hT hg (by with_unfolding_all rfl)
def cutV (xs : List V) (lo hi : Option Int) : List V := (xs.drop (HT.sIx xs.length 0 lo)).take (HT.sIx xs.length xs.length hi - HT.sIx xs.length 0 lo)
theorem zhK (xs : List V) (lo hi : Option Int) : (cutV xs lo hi).length ≤ xs.length := by
  unfold cutV
  rw [List.length_take, List.length_drop]
  omega
def rSlT (K : PySem.W.Frag) : V → Option Int → Option Int → Hp → VK → Prop := fun x lo hi H Q => ∃ a xs, x = .ref a ∧ SqT K H a xs ∧
  ¬ (HT.sIx xs.length 0 lo = 0 ∧ HT.sIx xs.length xs.length hi = xs.length) ∧ ∀ p, H p = none → Q (.ref p) (upd H p (.tup (cutV xs lo hi)))
def rLtT (K : PySem.W.Frag) : R2 := fun x y H Q => ∃ a b ns ms, x = .ref a ∧ y = .ref b ∧ SqT K H a (ns.map V.int) ∧ SqT K H b (ms.map V.int) ∧ Q (.bl (HT.lexLt ns ms)) H
def rCatT (K : PySem.W.Frag) : R2 := fun x y H Q => ∃ a b xs ys, x = .ref a ∧ y = .ref b ∧ SqT K H a xs ∧ SqT K H b ys ∧ xs ≠ [] ∧ xs.length + ys.length ≤ sizeLine ∧
  (ys = [] → Q (.ref a) H) ∧ (ys ≠ [] → ∀ p, H p = none → Q (.ref p) (upd H p (.tup (xs ++ ys))))
end
end L2
namespace L2
open PySem PySem.Spec PyProof.Rows
def ixN (n : Nat) (i : Int) : Option Nat := if 0 ≤ i then (if i < n then some i.toNat else none) else if -(n : Int) ≤ i then some (i + n).toNat else none
def atI {α : Type} (xs : List α) (i : Int) : Option α := (ixN xs.length i).bind fun j => xs[j]?
theorem zkF {n : Nat} {i : Int} {j : Nat} (h : ixN n i = some j) : seqIndex? i n = some j ∧ j < n ∧ -(n : Int) ≤ i ∧ i < n := by
  unfold ixN at h
  by_cases h0 : 0 ≤ i
  · rw [if_pos h0] at h
    by_cases h1 : i < n
    · rw [if_pos h1] at h
      have e : i.toNat = j := Option.some.inj h
      exact ⟨by rw [seqIndex_of h0 h1, e], by omega, by omega, h1⟩
    · rw [if_neg h1] at h; cases h
  · rw [if_neg h0] at h
    by_cases h1 : -(n : Int) ≤ i
    · rw [if_pos h1] at h
      have e : (i + n).toNat = j := Option.some.inj h
      exact ⟨by rw [seqIndex_neg (by omega) h1, e], by omega, h1, by omega⟩
    · rw [if_neg h1] at h; cases h
theorem zlk {α : Type} {xs : List α} {i : Int} {v : α} (h : atI xs i = some v) : ∃ j, seqIndex? i xs.length = some j ∧ xs[j]? = some v ∧ j < xs.length ∧ -(xs.length : Int) ≤ i ∧ i < xs.length := by
  unfold atI at h
  cases e : ixN xs.length i with
  | none => rw [e] at h; cases h
  | some j =>
    rw [e] at h
    obtain ⟨h1, h2, h3, h4⟩ := zkF e
    exact ⟨j, h1, h, h2, h3, h4⟩
theorem zbk {α : Type} {xs : List α} {j : Nat} {v : α} (h : xs[j]? = some v) : atI xs (j : Int) = some v := by
  have hj : j < xs.length := (List.getElem?_eq_some_iff.mp h).1
  have e : ixN xs.length (j : Int) = some j := by
    unfold ixN
    rw [if_pos (by omega), if_pos (by omega)]; simp
  unfold atI; rw [e]; exact h
def znP (b : Expr) : Prop := ∀ o i, subscripted b false o i = operate [o, i] (getItem o i)
def IxR (X : Cx) (r : R2) : Prop :=
  ∀ (value slice : Expr) (pins : List (Addr × Obj)) (s : Shared) (σ : St) (H : Hp) (x y : V) (v u : Value) (Q : VK), Inv X pins σ H s → RelV x v → RelV y u → r x y H Q →
    subscripted slice false v u = operate [v, u] (getItem v u) → wpAny (model X.prog X.w) X.A (subscriptTail value slice v u) (EP X pins σ Q) X.xe s
def MtR (X : Cx) (id : String) (r : V → List V → Hp → VK → Prop) : Prop :=
  ∀ (pins : List (Addr × Obj)) (s : Shared) (σ : St) (H : Hp) (x : V) (xs : List V) (v : Value) (us : List Value) (Q : VK), Inv X pins σ H s → RelV x v → Vals xs us → r x xs H Q →
    wpAny (model X.prog X.w) X.A (call (.builtin id) (v :: us)) (EP X pins σ Q) X.xe s
section
variable {X : Cx} {a b : Expr} {ta tb : TE} {pos : Pos}
theorem zaZ {r : R2} (hr : IxR X r) (ha : PE X a ta) (hb : PE X b tb) (hs : znP b) : PE X (.Subscript a b pos) (tOp r ta tb) := by
  intro pins s σ H Q I h
  exact Subscript_ (binT ha hb I h fun v u s2 x y H2 I2 rx ry q => hr a b pins s2 σ H2 x y v u Q I2 rx ry q (hs _ _))
def rIxL (K : PySem.W.Frag) : R2 := fun x y H Q => ∃ p xs i v, x = .ref p ∧ y = .int i ∧ SqL K H p xs ∧ atI xs i = some v ∧ Q v H
def rIxT (K : PySem.W.Frag) : R2 := fun x y H Q => ∃ p xs i v, x = .ref p ∧ y = .int i ∧ SqT K H p xs ∧ atI xs i = some v ∧ Q v H
def rIxS : R2 := fun x y H Q => ∃ z i c, x = .str z ∧ y = .int i ∧ z.length ≤ sizeLine ∧ atI z.cps.toList i = some c ∧ Q (.str ⟨#[c]⟩) H
theorem zaK : IxR X (rIxL X.K) := by
  intro value slice pins s σ H x y v u Q I rx ry h hs
  obtain ⟨p, xs, i, z, rfl, rfl, hq, he, q⟩ := h
  cases rx
  obtain ⟨t, rfl⟩ := ry
  obtain ⟨its, r, pl, hz⟩ := I.list hq
  obtain ⟨j, h1, h2, h3, h4, h5⟩ := zlk he
  obtain ⟨w, ew, rw'⟩ := r.get h2
  have hl := r.length
  have hn := zim
  have fin : EP X pins σ Q w s := ⟨z, H, I, rw', q⟩
  by_cases h0 : 0 ≤ i
  · have hj : i.toNat = j := by
      rw [seqIndex_of h0 h5] at h1
      exact Option.some.inj h1
    exact item_listR pl.isList h0 (by omega) (by rw [hj]; simpa using ew) fin hs
  · have hj : (i + (its.toArray.size : Int)).toNat = j := by
      rw [seqIndex_neg (by omega) h4] at h1
      rw [List.size_toArray, ← hl]
      exact Option.some.inj h1
    exact subscriptTail_builtinR (x := w) pl.isList.typeIs slot_list_getitem.lookup
      (wpAny_getItem_list_neg (Q := fun r s' => r = w ∧ EP X pins σ Q r s') pl.isList (by omega) (by rw [List.size_toArray] <;> omega) (by omega) (by rw [hj]; simpa using ew) ⟨rfl, fin⟩) hs
theorem zcm : IxR X (rIxT X.K) := by
  intro value slice pins s σ H x y v u Q I rx ry h hs
  obtain ⟨p, xs, i, z, rfl, rfl, hq, he, q⟩ := h
  cases rx
  obtain ⟨t, rfl⟩ := ry
  obtain ⟨its, r, pl, hz⟩ := I.tuple hq
  obtain ⟨j, h1, h2, h3, h4, h5⟩ := zlk he
  obtain ⟨w, ew, rw'⟩ := r.get h2
  have hl := r.length
  have hn := zim
  have fin : EP X pins σ Q w s := ⟨z, H, I, rw', q⟩
  exact subscriptTail_builtinR (x := w) pl.typeIs slot_tuple_getitem.lookup
    (getItem_tuple (j := j) (Q := fun r s' => r = w ∧ EP X pins σ Q r s') pl (by omega) (by omega) (by rw [List.size_toArray, ← hl]; exact h1) (by simpa using ew) ⟨rfl, fin⟩) hs
def rIx (K : PySem.W.Frag) : R2 := fun x y H Q => rIxL K x y H Q ∨ rIxT K x y H Q ∨ rIxS x y H Q
theorem zje (its : List Value) (n j : Nat) (u : Value) : Obj.mapSeq (·.setIfInBounds j u) { cls := .type "list", data := .seq its.toArray n } = { cls := .type "list", data := .seq (its.set j u).toArray n } := by
  simp [Obj.mapSeq]
theorem Inv.lst {pins : List (Addr × Obj)} {σ : St} {H : Hp} {s : Shared} {p : Addr} {xs : List V} (I : Inv X pins σ H s) (h : H p = some (.lst xs)) :
    ∃ (its : List Value) (n : Nat), Vals xs its ∧ s.heap.get? p = some { cls := .type "list", data := .seq its.toArray n } ∧ xs.length ≤ sizeLine := by
  obtain ⟨z, its, n, r, e⟩ := I.hok p _ h
  exact ⟨its, n, r, e, z⟩
theorem Inv.lstUpd {pins : List (Addr × Obj)} {σ : St} {H : Hp} {s : Shared} {p : Addr} {xs ys : List V} {its its' : List Value} {n n' : Nat} {f : Obj → Obj} (I : Inv X pins σ H s) (h : H p = some (.lst xs))
    (ho : s.heap.get? p = some { cls := .type "list", data := .seq its.toArray n }) (hf : f { cls := .type "list", data := .seq its.toArray n } = { cls := .type "list", data := .seq its'.toArray n' }) (r : Vals ys its') (hz : ys.length ≤ sizeLine) (t : Nat) :
    Inv X pins σ (upd H p (.lst ys)) { s with heap := s.heap.update p f, toks := t } := by
  have e : (s.heap.update p f).get? p = some { cls := .type "list", data := .seq its'.toArray n' } := by
    rw [Heap.get?_update_self f ho (by rw [hf] <;> rfl), hf]
  refine I.write (x := p) (e := p) (by rw [h]; trivial) (.inl rfl) (fun b u hb q => (Heap.get?_update_other _ _ (Ne.symm hb)).trans q) ⟨_, e⟩ ?_
  exact ⟨hz, its', n', r, e⟩
def rSetL : V → V → V → Hp → (Hp → Prop) → Prop := fun o i v H Q => ∃ p xs k j, o = .ref p ∧ i = .int k ∧ H p = some (.lst xs) ∧ ixN xs.length k = some j ∧ Q (upd H p (.lst (xs.set j v)))
theorem zh9 : PSet X rSetL := by
  intro pins s σ H o i v ov iv u Q I ro ri rv h
  obtain ⟨p, xs, k, j, rfl, rfl, hp, hj, q⟩ := h
  cases ro
  obtain ⟨t, rfl⟩ := ri
  obtain ⟨its, n, r, ho, hz⟩ := I.lst hp
  obtain ⟨h1, h2, h3, h4⟩ := zkF hj
  have hl := r.length
  have hn := zim
  have I' : Inv X pins σ (upd H p (.lst (xs.set j v))) { s with heap := s.heap.update p (Obj.mapSeq (·.setIfInBounds j u)) } :=
    I.lstUpd hp ho (zje its n j u) (r.set rv j) (by rw [List.length_set]; exact hz) s.toks
  by_cases h0 : 0 ≤ k
  · have hk : k.toNat = j := by
      rw [seqIndex_of h0 h4] at h1
      exact Option.some.inj h1
    exact PySem.W.ki_setAt ho h0 (by omega) (by rw [List.size_toArray, ← hl]; exact h4) (by rw [hk]; exact ⟨_, I', q⟩)
  · have hk : (k + (its.toArray.size : Int)).toNat = j := by
      rw [seqIndex_neg (by omega) h3] at h1
      rw [List.size_toArray, ← hl]
      exact Option.some.inj h1
    exact PySem.W.ki_setBack ho (by omega) (by rw [List.size_toArray, ← hl]; exact h3) (by omega) (by rw [hk]; exact ⟨_, I', q⟩)
theorem zgw (lo hi : Option Int) (n : Nat) : (sliceBounds lo hi none n).1 = ((HT.sIx n 0 lo : Nat) : Int) ∧ (sliceBounds lo hi none n).2.1 = ((HT.sIx n n hi : Nat) : Int) ∧ (sliceBounds lo hi none n).2.2 = 1 := by
  refine ⟨?_, ?_, rfl⟩
  · cases lo with
    | none => simp [sliceBounds, HT.sIx]
    | some i =>
      simp only [sliceBounds, HT.sIx, Option.getD_none, show (1 : Int) > 0 by decide, if_true]
      by_cases h : i < 0
      · simp only [h, if_true] <;> omega
      · simp only [h, if_false] <;> omega
  · cases hi with
    | none => simp [sliceBounds, HT.sIx]
    | some i =>
      simp only [sliceBounds, HT.sIx, Option.getD_none, show (1 : Int) > 0 by decide, if_true]
      by_cases h : i < 0
      · simp only [h, if_true] <;> omega
      · simp only [h, if_false] <;> omega
theorem zfQ (its : List Value) (lo hi : Option Int) : slicePick its.toArray lo hi none = ((its.drop (HT.sIx its.length 0 lo)).take (HT.sIx its.length its.length hi - HT.sIx its.length 0 lo)).toArray := by
  obtain ⟨h1, h2, h3⟩ := zgw lo hi its.toArray.size
  unfold slicePick
  rw [h1, h2, h3]
  simp only [sliceRange_one, pick_run, List.size_toArray] <;> rfl
def rSlL (K : PySem.W.Frag) : V → Option Int → Option Int → Hp → VK → Prop := fun x lo hi H Q => ∃ a xs, x = .ref a ∧ SqL K H a xs ∧ ∀ p, H p = none → Q (.ref p) (upd H p (.lst (cutV xs lo hi)))
theorem zjZ : SlR X (rSlL X.K) := by
  intro pins s σ H x v vl vu lo hi sl Q I rx hs pl pu h
  obtain ⟨a, xs, rfl, hx, q⟩ := h
  cases rx
  obtain ⟨its, r, ht, hz⟩ := I.list hx
  have hlen := r.length
  refine ⟨"list", _, slot_list_getitem.lookup, ht.isList.typeIs, ?_⟩
  refine wpAny_getItem_list_slice ht.isList hs pl pu .none (by simp) ?_ (by rw [List.size_toArray] <;> omega)
  rw [zfQ, ← hlen]
  refine ⟨.ref s.heap.objs.size, _, I.laid (t' := s.toks) (o := .lst (cutV xs lo hi)) (fun b ob q => Heap.get?_push_of_some _ q) (Nat.le_refl _) ?_, rfl, q _ (I.hok.fresh (Nat.le_refl _))⟩
  exact ⟨Nat.le_trans (zhK xs lo hi) hz, _, 0, (r.drop (HT.sIx xs.length 0 lo)).take (HT.sIx xs.length xs.length hi - HT.sIx xs.length 0 lo), Heap.get?_push_size _ rfl⟩
def zfg : V → Bool
  | .non => true
  | .bl _ => true
  | .int _ => true
  | .str _ => true
  | _ => false
def eqV : V → V → Bool
  | .non, .non => true
  | .bl a, .bl b => a == b
  | .bl a, .int b => (if a then 1 else 0) == b
  | .int a, .bl b => a == (if b then 1 else 0)
  | .int a, .int b => a == b
  | .str a, .str b => a == b
  | _, _ => false
theorem eqAt_V {A : Around} {s : Shared} {y x : V} {u v : Value} (ry : RelV y u) (rx : RelV x v) (fy : zfg y = true) (fx : zfg x = true) : SeqAt.EqAt A s u v (eqV y x) := by
  cases y with
  | non =>
    cases ry
    cases x with
    | non => cases rx; exact SeqAt.EqAt.same _
    | bl b => cases rx; exact SeqAt.EqAt.none_bool b
    | int b => obtain ⟨t, rfl⟩ := rx; exact SeqAt.EqAt.none_int b t
    | str b => obtain ⟨t, rfl⟩ := rx; exact SeqAt.EqAt.none_str b t
    | _ => exact absurd (show false = true from fx) Bool.false_ne_true
  | bl a =>
    cases ry
    cases x with
    | non => cases rx; exact SeqAt.EqAt.bool_none a
    | bl b => cases rx; exact SeqAt.EqAt.bool_bool a b
    | int b => obtain ⟨t, rfl⟩ := rx; exact SeqAt.EqAt.bool_int a b t
    | str b => obtain ⟨t, rfl⟩ := rx; exact SeqAt.EqAt.bool_str a b t
    | _ => exact absurd (show false = true from fx) Bool.false_ne_true
  | int a =>
    obtain ⟨t', rfl⟩ := ry
    cases x with
    | non => cases rx; exact SeqAt.EqAt.int_none a t'
    | bl b => cases rx; exact SeqAt.EqAt.int_bool a t' b
    | int b => obtain ⟨t, rfl⟩ := rx; exact SeqAt.EqAt.int_int a t' b t
    | str b => obtain ⟨t, rfl⟩ := rx; exact SeqAt.EqAt.int_str a t' b t
    | _ => exact absurd (show false = true from fx) Bool.false_ne_true
  | str a =>
    obtain ⟨t', rfl⟩ := ry
    cases x with
    | non => cases rx; exact SeqAt.EqAt.str_none a t'
    | bl b => cases rx; exact SeqAt.EqAt.str_bool a t' b
    | int b => obtain ⟨t, rfl⟩ := rx; exact SeqAt.EqAt.str_int a t' b t
    | str b => obtain ⟨t, rfl⟩ := rx; exact SeqAt.EqAt.str_str a t' b t
    | _ => exact absurd (show false = true from fx) Bool.false_ne_true
  | _ => exact absurd (show false = true from fy) Bool.false_ne_true
def eqU (x : V) (u : Value) : Bool := match u with
  | .none => eqV .non x
  | .bool b => eqV (.bl b) x
  | .int i _ => eqV (.int i) x
  | .str z _ => eqV (.str z) x
  | _ => false
theorem zmM {x y : V} {u : Value} (r : RelV y u) (f : zfg y = true) : eqU x u = eqV y x := by
  cases y with
  | non => cases r; rfl
  | bl b => cases r; rfl
  | int i => obtain ⟨t, rfl⟩ := r; rfl
  | str z => obtain ⟨t, rfl⟩ := r; rfl
  | _ => exact absurd (show false = true from f) Bool.false_ne_true
theorem zfb {x : V} : ∀ {xs : List V} {us : List Value}, Vals xs us → xs.all zfg = true → us.any (eqU x) = xs.any fun y => eqV y x
  | _, _, .nil, _ => rfl
  | y :: xs, u :: us, .cons r t, f => by
    rw [List.all_cons, Bool.and_eq_true] at f
    rw [List.any_cons, List.any_cons, zmM r f.1, zfb t f.2]
theorem zdV {A : Around} {s : Shared} {x : V} {v : Value} (rx : RelV x v) (fx : zfg x = true) : ∀ {xs : List V} {us : List Value}, Vals xs us → xs.all zfg = true → ∀ u ∈ us, SeqAt.EqAt A s u v (eqU x u)
  | _, _, .nil, _ => fun u hu => by cases hu
  | y :: xs, u :: us, .cons r t, f => fun u' hu => by
    rw [List.all_cons, Bool.and_eq_true] at f
    rcases List.mem_cons.mp hu with rfl | hu
    · rw [zmM r f.1]; exact eqAt_V r rx f.1 fx
    · exact zdV rx fx t f.2 u' hu
def inV (x : V) (xs : List V) : Bool := xs.any fun y => eqV y x
def rIn (K : PySem.W.Frag) (neg : Bool) : R2 := fun x y H Q => ∃ p xs, y = .ref p ∧ (SqL K H p xs ∨ SqT K H p xs) ∧ zfg x = true ∧ xs.all zfg = true ∧ Q (.bl (if neg then !inV x xs else inV x xs)) H
theorem zkd : OpR X (compareOp .In) (rIn X.K false) := by
  intro pins s σ H x y v u Q I rx ry h
  obtain ⟨p, xs, rfl, hq, fx, fs, q⟩ := h
  cases ry
  rcases hq with hq | hq
  · obtain ⟨its, r, pl, hz⟩ := I.list hq
    refine SeqAt.in_listAt (eqU x) pl.isList (fun w hw => zdV rx fx r fs w (by simpa using hw)) ⟨.bl _, H, I, rfl, ?_⟩
    rw [show its.toArray.any (eqU x) = its.any (eqU x) by simp, zfb r fs]
    exact q
  · obtain ⟨its, r, pl, hz⟩ := I.tuple hq
    refine SeqAt.in_tupleAt (eqU x) pl (fun w hw => zdV rx fx r fs w (by simpa using hw)) ⟨.bl _, H, I, rfl, ?_⟩
    rw [show its.toArray.any (eqU x) = its.any (eqU x) by simp, zfb r fs]
    exact q
theorem zep : OpR X (compareOp .NotIn) (rIn X.K true) := by
  intro pins s σ H x y v u Q I rx ry h
  obtain ⟨p, xs, rfl, hq, fx, fs, q⟩ := h
  cases ry
  rcases hq with hq | hq
  · obtain ⟨its, r, pl, hz⟩ := I.list hq
    refine SeqAt.notIn_listAt (eqU x) pl.isList (fun w hw => zdV rx fx r fs w (by simpa using hw)) ⟨.bl _, H, I, rfl, ?_⟩
    rw [show its.toArray.any (eqU x) = its.any (eqU x) by simp, zfb r fs]
    exact q
  · obtain ⟨its, r, pl, hz⟩ := I.tuple hq
    refine SeqAt.notIn_tupleAt (eqU x) pl (fun w hw => zdV rx fx r fs w (by simpa using hw)) ⟨.bl _, H, I, rfl, ?_⟩
    rw [show its.toArray.any (eqU x) = its.any (eqU x) by simp, zfb r fs]
    exact q
theorem zaz : zd6 X (.builtin "len") (fun xs H Q => ∃ p ys, xs = [.ref p] ∧ (SqL X.K H p ys ∨ SqT X.K H p ys) ∧ Q (.int ys.length) H) := by
  intro pins s σ H xs us Q I r h
  obtain ⟨p, ys, rfl, hq, q⟩ := h
  obtain ⟨u, rfl, rx⟩ := zfd r
  cases rx
  have hn := zim
  rcases hq with hq | hq
  · obtain ⟨its, r', pl, hz⟩ := I.list hq
    have hlen := r'.length
    exact Calls.call_len_list pl.isList (by simp only [List.size_toArray] <;> omega) ⟨.int ys.length, H, I.tok _, ⟨s.toks + 1, by rw [List.size_toArray, hlen]⟩, q⟩
  · obtain ⟨its, r', pl, hz⟩ := I.tuple hq
    have hlen := r'.length
    exact len_tuple pl (by simp only [List.size_toArray] <;> omega) ⟨.int ys.length, H, I.tok _, ⟨s.toks + 1, by rw [List.size_toArray, hlen]⟩, q⟩
theorem zgY : zd6 X (.type "list") (fun xs H Q => ∃ p ys, xs = [.ref p] ∧ (SqL X.K H p ys ∨ SqT X.K H p ys) ∧ ∀ l, H l = none → Q (.ref l) (upd H l (.lst ys))) := by
  intro pins s σ H xs us Q I r h
  obtain ⟨p, ys, rfl, hq, q⟩ := h
  obtain ⟨u, rfl, rx⟩ := zfd r
  cases rx
  have fin : ∀ (its : List Value), Vals ys its → ys.length ≤ sizeLine → ∀ (h' : Heap) (c' : Nat), (∀ b o', s.heap.get? b = some o' → h'.get? b = some o') →
      h'.get? s.heap.objs.size = some { cls := .type "list", dict := none, data := .seq its.toArray c', slots := #[] } → EP X pins σ Q (.ref s.heap.objs.size) { s with heap := h' } := fun its r' hz h' c' kp e =>
    ⟨.ref s.heap.objs.size, _, I.laid (t' := s.toks) kp (Nat.le_refl _) (show zbT X.prog X.w _ h' _ (.lst ys) from ⟨hz, its, c', r', e⟩), rfl, q _ (I.hok.fresh (Nat.le_refl _))⟩
  rcases hq with hq | hq
  · obtain ⟨its, r', pl, hz⟩ := I.list hq
    have hlen := r'.length
    obtain ⟨o, ho, hc, n, hd⟩ := pl.isList
    exact call_list_seq p (.inl rfl) ho hc hd (fun h' c' kp e => fin its r' hz h' c' kp e) (by simp only [List.size_toArray] <;> omega)
  · obtain ⟨its, r', pl, hz⟩ := I.tuple hq
    have hlen := r'.length
    obtain ⟨o, ho, hc, n, hd⟩ := pl
    exact call_list_seq p (.inr rfl) ho hc hd (fun h' c' kp e => fin its r' hz h' c' kp e) (by simp only [List.size_toArray] <;> omega)
theorem zc2 : zd6 X (.type "tuple") (fun xs H Q => ∃ p ys, xs = [.ref p] ∧ ((SqL X.K H p ys ∧ ∀ l, H l = none → Q (.ref l) (upd H l (.tup ys))) ∨ (SqT X.K H p ys ∧ Q (.ref p) H))) := by
  intro pins s σ H xs us Q I r h
  obtain ⟨p, ys, rfl, h⟩ := h
  obtain ⟨u, rfl, rx⟩ := zfd r
  cases rx
  rcases h with ⟨hq, q⟩ | ⟨hq, q⟩
  · obtain ⟨its, r', pl, hz⟩ := I.list hq
    have hlen := r'.length
    refine call_tuple_list pl.isList (fun h' kp => ?_) (by simp only [List.size_toArray] <;> omega)
    have I1 : Inv X pins σ H { s with heap := h' } := I.kept (t' := s.toks) kp
    have I2 : Inv X pins σ (upd H h'.objs.size (.tup ys)) { s with heap := h'.push { cls := .type "tuple", data := .seq its.toArray } } :=
      I1.laid (t' := s.toks) (fun b o e => Heap.get?_push_of_some _ e) (Nat.le_refl _) (show zbT X.prog X.w _ _ _ (.tup ys) from ⟨hz, its, r', IsTup.new _ _⟩)
    exact ⟨.ref h'.objs.size, _, I2, rfl, q _ (I1.hok.fresh (Nat.le_refl _))⟩
  · obtain ⟨its, r', pl, hz⟩ := I.tuple hq
    exact call_tuple_same pl ⟨.ref p, H, I, rfl, q⟩
def tyV (K : PySem.W.Frag) (T : String) (x : V) (H : Hp) : Prop := match x with
  | .str _ => T = "str"
  | .int _ => T = "int"
  | .ref p => (T = "list" ∧ ∃ xs, SqL K H p xs) ∨ (T = "tuple" ∧ ∃ o, K.lookup p = some o ∧ o.cls = .type "tuple" ∧ o.dict = none) ∨
      (T = "dict" ∧ ((∃ kvs, H p = some (.dK kvs)) ∨ ∃ kvs, H p = some (.dT kvs))) ∨ (T = "set" ∧ ∃ S n, H p = some (.set S n))
  | _ => False
theorem zmn {pins : List (Addr × Obj)} {σ : St} {H : Hp} {s : Shared} {T : String} {x : V} {v : Value} (I : Inv X pins σ H s) (r : RelV x v) (ty : tyV X.K T x H) :
    s.TypeIs v T ∧ ∀ a, v = .ref a → ∃ ob, s.heap.get? a = some ob ∧ ob.dict = none := by
  cases x with
  | str z =>
    obtain ⟨t, rfl⟩ := r
    cases (show T = "str" from ty)
    exact ⟨typeIs_str s z t, fun _ e => nomatch e⟩
  | int i =>
    obtain ⟨t, rfl⟩ := r
    cases (show T = "int" from ty)
    exact ⟨typeIs_int s i t, fun _ e => nomatch e⟩
  | ref p =>
    cases r
    rcases ty with ⟨rfl, xs, hq⟩ | ⟨rfl, o, hk, hc, hd⟩ | ⟨rfl, hk⟩ | ⟨rfl, S, n, hk⟩
    · obtain ⟨its, _, pl, _⟩ := I.list hq
      refine ⟨pl.isList.typeIs, fun a e => ?_⟩
      cases e
      obtain ⟨o, n, e, c, hd, _⟩ := pl
      exact ⟨o, e, hd⟩
    · refine ⟨⟨o, I.kIn p o hk, hc⟩, fun a e => ?_⟩
      cases e
      exact ⟨o, I.kIn _ o hk, hd⟩
    · have z : ∃ o, s.heap.get? p = some o ∧ o.ExactDict := by
        rcases hk with ⟨kvs, hk⟩ | ⟨kvs, hk⟩
        · obtain ⟨_, _, _, _, o, _, _, e, ex, _⟩ := I.hok p _ hk
          exact ⟨o, e, ex⟩
        · obtain ⟨_, _, _, _, o, _, _, e, ex, _⟩ := I.hok p _ hk
          exact ⟨o, e, ex⟩
      obtain ⟨o, e, ex⟩ := z
      refine ⟨⟨o, e, ex.1⟩, fun a e2 => ?_⟩
      cases e2
      exact ⟨o, e, ex.2.1⟩
    · obtain ⟨o, _, _, _, e, ex, _⟩ := I.hok p _ hk
      refine ⟨⟨o, e, ex.1⟩, fun a e2 => ?_⟩
      cases e2
      exact ⟨o, e, ex.2.1⟩
  | _ => exact False.elim ty
def tBM0 (K : PySem.W.Frag) (T : String) (r : V → List V → Hp → VK → Prop) (to : TE) : TE := fun σ H Q => to σ H fun x H1 => tyV K T x H1 ∧ r x [] H1 Q
def tBM (K : PySem.W.Frag) (T : String) (r : V → List V → Hp → VK → Prop) (to : TE) (t : TA) : TE := fun σ H Q => to σ H fun x H1 => tyV K T x H1 ∧ t σ H1 fun xs H2 => r x xs H2 Q
variable {o e : Expr} {es : List Expr} {to : TE} {t : TA} {name : Str} {apos cpos : Pos} {T id : String} {r : V → List V → Hp → VK → Prop}
theorem zom (pa : PlainAttrs T) (slot : Slot T name id) (hty : typeOf (.builtin id) = pure (.type "method_descriptor")) (hm : MtR X id r) (ho : PE X o to)
    (hbase : attributeBase o name X.env (eval o X.env) = eval o X.env := by rfl) (hline : (apos.endLine == cpos.line) = true := by rfl) : PE X (.Call (.Attribute o name apos) [] [] cpos) (tBM0 X.K T r to) := by
  intro pins s σ H Q I h
  refine wpAny_Call_method0_late hbase hline (thn (ho pins s σ H _ I h) fun v s1 ⟨x, H1, I1, r1, ty, q1⟩ => ?_)
  obtain ⟨h1, h2⟩ := zmn I1 r1 ty
  exact ⟨T, id, pa, slot, hty, h1, h2, Calls.callWith_builtin rfl (PySem.evalArgs_none (hm pins s1 σ H1 x [] v [] Q I1 r1 .nil q1))⟩
theorem zfe (pa : PlainAttrs T) (slot : Slot T name id) (hty : typeOf (.builtin id) = pure (.type "method_descriptor")) (hm : MtR X id r) (ho : PE X o to) (ha : PA X (e :: es) t)
    (hbase : attributeBase o name X.env (eval o X.env) = eval o X.env := by rfl)
    (hfew : ((backTo cpos (starEach (e :: es) X.env)).all (fun x => !x.1) && (backToKw cpos (keywordEach [] X.env)).all (fun x => x.1.isSome)
      && decide ((e :: es).length + ([] : List Keyword).length + (if ([] : List Keyword).isEmpty then 0 else 1) < 30)) = true := by rfl)
    (hline : (apos.endLine == cpos.line) = true := by rfl) (hs : starEach (e :: es) X.env = (false, eval e X.env) :: starEach es X.env := by rfl) (hplain : (backTo cpos (starEach es X.env)).any (·.1) = false := by rfl) :
    PE X (.Call (.Attribute o name apos) (e :: es) [] cpos) (tBM X.K T r to t) := by
  intro pins s σ H Q I h
  refine wpAny_Call_method_late hbase hfew hline rfl (thn (ho pins s σ H _ I h) fun v s1 ⟨x, H1, I1, r1, ty, q1⟩ => ?_)
  obtain ⟨h1, h2⟩ := zmn I1 r1 ty
  refine ⟨T, id, pa, slot, hty, h1, h2, ?_⟩
  have hA := ha cpos pins s1 σ H1 _ I1 q1
  rw [hs] at hA ⊢
  refine Calls.callWith_builtin (by show (false || (backTo cpos (starEach es X.env)).any (·.1)) = false; rw [hplain] <;> rfl) (Calls.evalArgs_plain ?_)
  exact thn hA fun us s2 ⟨vs, H2, I2, r2, q2⟩ => hm pins s2 σ H2 x vs v us Q I2 r1 r2 q2
end
end L2
namespace L2
open PySem PySem.Spec PyProof.Rows
def MtM (X : Cx) (id : String) (r : V → List V → Hp → VK → Prop) : Prop :=
  ∀ (pins : List (Addr × Obj)) (s : Shared) (σ : St) (H : Hp) (x : V) (xs : List V) (v : Value) (us : List Value) (Q : VK), Inv X pins σ H s → RelV x v → Vals xs us → r x xs H Q →
    wpAny (model X.prog X.w) X.A (call (.builtin id) (v :: us)) (EP X pins σ Q) X.xe s
theorem Vals.one : ∀ {x : V} {us : List Value}, Vals [x] us → ∃ u, us = [u] ∧ RelV x u
  | _, _, .cons r .nil => ⟨_, rfl, r⟩
theorem Vals.zero : ∀ {us : List Value}, Vals [] us → us = []
  | _, .nil => rfl
theorem Vals.dropLast {xs : List V} {us : List Value} (h : Vals xs us) : Vals xs.dropLast us.dropLast := by
  induction h with
  | nil => exact .nil
  | cons r t ih =>
    cases t with
    | nil => exact .nil
    | cons q t' => exact .cons r ih
theorem Vals.eraseIdx : ∀ {xs : List V} {us : List Value} (i : Nat), Vals xs us → Vals (xs.eraseIdx i) (us.eraseIdx i)
  | _, _, _, .nil => .nil
  | _, _, 0, .cons _ t => t
  | _, _, i + 1, .cons r t => .cons r (Vals.eraseIdx i t)
theorem Vals.reverse {xs : List V} {us : List Value} (h : Vals xs us) : Vals xs.reverse us.reverse := by
  induction h with
  | nil => exact .nil
  | cons r t ih => rw [List.reverse_cons, List.reverse_cons]; exact Vals.append ih (.cons r .nil)
section
variable {X : Cx} {pins : List (Addr × Obj)} {σ : St} {H : Hp} {s : Shared} {l b : Addr} {xs ys zs : List V}
theorem Inv.lset {its its' : List Value} {n : Nat} {f : Array Value → Array Value} {t' : Nat} (I : Inv X pins σ H s) (hH : H l = some (.lst xs))
    (e : s.heap.get? l = some { cls := .type "list", data := .seq its.toArray n }) (hf : f its.toArray = its'.toArray) (hv : Vals ys its') (hz : ys.length ≤ sizeLine) :
    Inv X pins σ (upd H l (.lst ys)) { s with heap := s.heap.update l (Obj.mapSeq f), toks := t' } := by
  have q := PySem.IsL.update e f
  rw [hf] at q
  refine I.write (x := l) (e := l) (by rw [hH]; exact trivial) (.inl rfl) (fun b' u hb hu => (Heap.get?_update_other s.heap (Obj.mapSeq f) (Ne.symm hb)).trans hu) ⟨_, q⟩ ?_
  exact ⟨hz, its', _, hv, q⟩
theorem Inv.lnew {its : List Value} {t' : Nat} (I : Inv X pins σ H s) (hv : Vals ys its) (hz : ys.length ≤ sizeLine) :
    Inv X pins σ (upd H s.heap.objs.size (.lst ys)) { s with heap := s.heap.push { cls := .type "list", data := .seq its.toArray }, toks := t' } :=
  I.laid (fun _ _ q => Heap.get?_push_of_some _ q) (Nat.le_refl _) ⟨hz, its, 0, hv, Heap.get?_push_size _ rfl⟩
theorem Inv.fresh (I : Inv X pins σ H s) : H s.heap.objs.size = none := I.hok.fresh (Nat.le_refl _)
theorem Inv.lstM (I : Inv X pins σ H s) (hH : H l = some (.lst xs)) : xs.length ≤ sizeLine ∧ ∃ (its : List Value) (n : Nat), Vals xs its ∧ xs.length = its.length ∧ s.heap.get? l = some { cls := .type "list", data := .seq its.toArray n } := by
  obtain ⟨z, its, n, r, e⟩ := I.hok l _ hH
  exact ⟨z, its, n, r, r.length, e⟩
theorem zlP {n : Nat} (h : n ≤ sizeLine) : Builtin.List.listTooLong n = false := by
  unfold Builtin.List.listTooLong
  exact decide_eq_false (by omega)
end
section
variable {X : Cx}
def zm8 : V → List V → Hp → VK → Prop := fun x vs H Q => ∃ l xs y, x = .ref l ∧ vs = [y] ∧ H l = some (.lst xs) ∧ xs.length < sizeLine ∧ Q .non (upd H l (.lst (xs ++ [y])))
theorem zbl : MtM X "list.append" zm8 := by
  intro pins s σ H x vs v us Q I rx rv h
  obtain ⟨l, xs, y, rfl, rfl, hH, hz, q⟩ := h
  cases rx
  obtain ⟨u, rfl, ru⟩ := rv.one
  obtain ⟨z, its, n, r, hl, e⟩ := I.lstM hH
  refine call_meets F.slot_list_append ⟨_, e, rfl⟩ F.entry_list_append (F.args_list_append_2 _ _) (PySem.list_append l its.toArray n u (by rw [List.size_toArray]; omega)) ⟨e, ?_⟩
  refine ⟨.non, _, I.lset (its' := its ++ [u]) hH e (by simp) (r.append (.cons ru .nil)) ?_, rfl, q⟩
  rw [List.length_append, List.length_singleton]
  omega
def zm6 : V → List V → Hp → VK → Prop := fun x vs H Q => ∃ l b xs zs, x = .ref l ∧ vs = [.ref b] ∧ H l = some (.lst xs) ∧ H b = some (.lst zs) ∧ xs.length + zs.length ≤ sizeLine ∧ Q .non (upd H l (.lst (xs ++ zs)))
theorem zkm : MtM X "list.extend" zm6 := by
  intro pins s σ H x vs v us Q I rx rv h
  obtain ⟨l, b, xs, zs, rfl, rfl, hH, hB, hz, q⟩ := h
  cases rx
  obtain ⟨u, rfl, ru⟩ := rv.one
  cases ru
  obtain ⟨z, its, n, r, hl, e⟩ := I.lstM hH
  obtain ⟨z2, its2, n2, r2, hl2, e2⟩ := I.lstM hB
  have hsz : its.toArray.size + its2.toArray.size ≤ sizeLine := by rw [List.size_toArray, List.size_toArray]; omega
  have hlong : ¬ (!its.toArray.isEmpty && Builtin.List.listTooLong (its.toArray.size + its2.toArray.size)) = true := by
    rw [zlP hsz, Bool.and_false]
    exact Bool.false_ne_true
  refine call_meets F.slot_list_extend ⟨_, e, rfl⟩ F.entry_list_extend (F.args_list_extend_2 _ _)
    (AutoSeq1.list_extend_list_list_0 l its.toArray n b its2.toArray n2 hlong (by rw [List.size_toArray]; omega) (by omega)) ⟨e, e2, ?_⟩
  refine ⟨.non, _, I.lset (its' := its ++ its2) hH e (by simp) (r.append r2) ?_, rfl, q⟩
  rw [List.length_append]
  omega
def rPop : V → List V → Hp → VK → Prop := fun x vs H Q => ∃ l xs y, x = .ref l ∧ vs = [] ∧ H l = some (.lst xs) ∧ xs[xs.length - 1]? = some y ∧ Q y (upd H l (.lst xs.dropLast))
def rPopAt : V → List V → Hp → VK → Prop := fun x vs H Q => ∃ l xs i k y, x = .ref l ∧ vs = [.int i] ∧ H l = some (.lst xs) ∧ -(2 ^ 63) ≤ i ∧ i < 2 ^ 63 ∧ seqIndex? i xs.length = some k ∧ xs[k]? = some y ∧ Q y (upd H l (.lst (xs.eraseIdx k)))
def rReverse : V → List V → Hp → VK → Prop := fun x vs H Q => ∃ l xs, x = .ref l ∧ vs = [] ∧ H l = some (.lst xs) ∧ Q .non (upd H l (.lst xs.reverse))
def rClear : V → List V → Hp → VK → Prop := fun x vs H Q => ∃ l xs, x = .ref l ∧ vs = [] ∧ H l = some (.lst xs) ∧ Q .non (upd H l (.lst []))
def rCat : R2 := fun x y H Q => ∃ l b xs zs, x = .ref l ∧ y = .ref b ∧ H l = some (.lst xs) ∧ H b = some (.lst zs) ∧ xs.length + zs.length ≤ sizeLine ∧ ∀ p, H p = none → Q (.ref p) (upd H p (.lst (xs ++ zs)))
theorem zmH : OpR X (binaryOp .Add) rCat := by
  intro pins s σ H x y v u Q I rx ry h
  obtain ⟨l, b, xs, zs, rfl, rfl, hH, hB, hz, q⟩ := h
  cases rx
  cases ry
  obtain ⟨z, its, n, r, hl, e⟩ := I.lstM hH
  obtain ⟨z2, its2, n2, r2, hl2, e2⟩ := I.lstM hB
  refine PySem.P.add_list e e2 ?_ (by rw [List.size_toArray, List.size_toArray]; omega)
  have ea : its.toArray ++ its2.toArray = (its ++ its2).toArray := by simp
  rw [ea]
  exact ⟨.ref _, _, I.lnew (t' := s.toks) (r.append r2) (by rw [List.length_append]; omega), rfl, q _ I.fresh⟩
def rRep : R2 := fun x y H Q => ∃ l k xs, x = .ref l ∧ y = .int k ∧ H l = some (.lst xs) ∧ -(2 ^ 63) ≤ k ∧ k < 2 ^ 63 ∧ xs.length * k.toNat ≤ sizeLine ∧
  ∀ p, H p = none → Q (.ref p) (upd H p (.lst (List.replicate k.toNat xs).flatten))
end
section
variable {prog : Program} {w : World} {A : Around} {E : Value → Shared → Prop} {s : Shared}
end
section
variable {X : Cx}
end
end L2
namespace L2
open PySem PySem.Spec PyProof.Rows
section
variable {κ : Type} [DecidableEq κ]
def valV (kvs : List (κ × V)) (k : κ) : Option V := (kvs.find? fun kv => decide (kv.1 = k)).map (·.2)
def putK (kvs : List (κ × V)) (k : κ) (v : V) : List (κ × V) :=
  if (kvs.any fun kv => decide (kv.1 = k)) = true then kvs.map (fun kv => if kv.1 = k then (kv.1, v) else kv) else kvs ++ [(k, v)]
def zkU (kvs : List (κ × V)) (k : κ) : List (κ × V) := kvs.filter fun kv => decide (kv.1 ≠ k)
theorem zcs {p : κ × V} {r : List (κ × V)} {k : κ} (e : p.1 = k) : valV (p :: r) k = some p.2 := by simp [valV, List.find?_cons, e]
theorem zbq {p : κ × V} {r : List (κ × V)} {k : κ} (e : ¬ p.1 = k) : valV (p :: r) k = valV r k := by simp [valV, List.find?_cons, e]
theorem zfN (k : κ) : ∀ kvs : List (κ × V), (kvs.any fun kv => decide (kv.1 = k)) = (valV kvs k).isSome
  | [] => rfl
  | p :: r => by
    rw [List.any_cons]
    by_cases e : p.1 = k
    · simp only [zcs e, decide_eq_true e, Bool.true_or, Option.isSome_some]
    · rw [zbq e, decide_eq_false e, Bool.false_or]; exact zfN k r
theorem zcZ (kvs : List (κ × V)) (k : κ) (v : V) : (putK kvs k v).length ≤ kvs.length + 1 := by
  unfold putK
  split
  · rw [List.length_map]; omega
  · rw [List.length_append, List.length_cons, List.length_nil]; omega
theorem zdR {kvs : List (κ × V)} {k : κ} (v : V) (h : valV kvs k = none) : putK kvs k v = kvs ++ [(k, v)] := by
  unfold putK
  rw [zfN, h]
  exact if_neg (by decide)
theorem RelO.isSome_eq {o : Option V} {u : Option Value} (r : RelO o u) : o.isSome = u.isSome := by
  cases o with
  | none => cases u with
    | none => rfl
    | some _ => exact (show False from r).elim
  | some _ => cases u with
    | none => exact (show False from r).elim
    | some _ => rfl
theorem RelO.getD {o : Option V} {u : Option Value} {d : V} {d' : Value} (r : RelO o u) (rd : RelV d d') : RelV (o.getD d) (u.getD d') := by
  cases o with
  | none => cases u with
    | none => exact rd
    | some _ => exact (show False from r).elim
  | some _ => cases u with
    | none => exact (show False from r).elim
    | some _ => exact r
theorem KV.val {kvs : List (κ × V)} {vs : List (κ × Value)} (r : KV kvs vs) (k : κ) : RelO (valV kvs k) (valueAt vs k) := by
  unfold KV at r
  induction r with
  | nil => exact True.intro
  | @cons p q ps qs h t ih =>
    obtain ⟨h1, h2⟩ := h
    by_cases e : p.1 = k
    · have e' : q.1 = k := h1.symm.trans e
      have b : valueAt (q :: qs) k = some q.2 := by simp [valueAt, List.find?_cons, e']
      rw [zcs e, b]; exact h2
    · have e' : ¬ q.1 = k := fun z => e (h1.trans z)
      have b : valueAt (q :: qs) k = valueAt qs k := by simp [valueAt, List.find?_cons, e']
      rw [zbq e, b]; exact ih
theorem KV.any {kvs : List (κ × V)} {vs : List (κ × Value)} (r : KV kvs vs) (k : κ) : (kvs.any fun kv => decide (kv.1 = k)) = vs.any fun kv => decide (kv.1 = k) := by
  unfold KV at r
  induction r with
  | nil => rfl
  | cons h t ih => rw [List.any_cons, List.any_cons, ih, h.1]
theorem KV.repl {kvs : List (κ × V)} {vs : List (κ × Value)} (r : KV kvs vs) (k : κ) {y : V} {u : Value} (ry : RelV y u) :
    KV (kvs.map fun kv => if kv.1 = k then (kv.1, y) else kv) (vs.map fun kv => if kv.1 = k then (kv.1, u) else kv) := by
  unfold KV at r ⊢
  induction r with
  | nil => exact .nil
  | @cons p q ps qs h t ih =>
    rw [List.map_cons, List.map_cons]
    refine .cons ?_ ih
    obtain ⟨h1, h2⟩ := h
    by_cases e : p.1 = k
    · rw [if_pos e, if_pos (h1.symm.trans e)]; exact ⟨h1, ry⟩
    · rw [if_neg e, if_neg (fun z => e (h1.trans z))]; exact ⟨h1, h2⟩
theorem KV.put {kvs : List (κ × V)} {vs : List (κ × Value)} (r : KV kvs vs) (k : κ) {y : V} {u : Value} (ry : RelV y u) : KV (putK kvs k y) (stored vs k u) := by
  unfold putK stored
  rw [r.any k]
  by_cases e : (vs.any fun kv => decide (kv.1 = k)) = true
  · rw [if_pos e, if_pos e]; exact r.repl k ry
  · rw [if_neg e, if_neg e]; exact Paired.snoc r ⟨rfl, ry⟩
theorem KV.drop {kvs : List (κ × V)} {vs : List (κ × Value)} (r : KV kvs vs) (k : κ) : KV (zkU kvs k) (without vs k) := by
  unfold KV at r ⊢
  unfold zkU without
  induction r with
  | nil => exact .nil
  | @cons p q ps qs h t ih =>
    obtain ⟨h1, h2⟩ := h
    rw [List.filter_cons, List.filter_cons]
    by_cases e : p.1 = k
    · have a : ¬ decide (p.1 ≠ k) = true := by simp [e]
      have b : ¬ decide (q.1 ≠ k) = true := by simp [h1.symm.trans e]
      rw [if_neg a, if_neg b]; exact ih
    · have e' : ¬ q.1 = k := fun z => e (h1.trans z)
      have a : decide (p.1 ≠ k) = true := by simp [e]
      have b : decide (q.1 ≠ k) = true := by simp [e']
      rw [if_pos a, if_pos b]; exact .cons ⟨h1, h2⟩ ih
theorem KV.keys {kvs : List (κ × V)} {vs : List (κ × Value)} (r : KV kvs vs) : kvs.map (·.1) = vs.map (·.1) := by
  unfold KV at r
  induction r with
  | nil => rfl
  | cons h t ih => rw [List.map_cons, List.map_cons, ih, h.1]
theorem KV.length {kvs : List (κ × V)} {vs : List (κ × Value)} (r : KV kvs vs) : kvs.length = vs.length := Paired.length r
end
theorem zji {P : Program} {w : World} {k : Key} {u : Value} (r : RelV (kV k) u) : (zaA P w).is k u = true := by
  cases k with
  | inl i => obtain ⟨t, e⟩ := (show ∃ t, u = Value.int i t from r); subst e; exact zhp P w i t
  | inr x => obtain ⟨t, e⟩ := (show ∃ t, u = Value.str x t from r); subst e; exact zho P w x t
theorem zgO {P : Program} {w : World} : ∀ {ks : List Key} {us : List Value}, Vals (ks.map kV) us → ItemsAre (zaA P w) ks us
  | [], _, r => by rw [List.map_nil] at r; cases r; exact .nil
  | k :: ks, _, r => by
    rw [List.map_cons] at r
    cases r with
    | cons h t => exact .cons (zji h) (zgO t)
abbrev KT (H : Hp) : List (List Key × V) → List (List Key × Addr × Value) → Prop := Paired fun p q => p.1 = q.1 ∧ H q.2.1 = some (.tup (p.1.map kV)) ∧ RelV p.2 q.2.2
theorem KT.val {H : Hp} {kvs : List (List Key × V)} {xs : List (List Key × Addr × Value)} (r : KT H kvs xs) (k : List Key) : RelO (valV kvs k) ((atKey xs k).map (·.2)) := by
  induction r with
  | nil => exact True.intro
  | @cons p q ps qs h t ih =>
    obtain ⟨h1, _, h2⟩ := h
    by_cases e : p.1 = k
    · have e' : q.1 = k := h1.symm.trans e
      have b : atKey (q :: qs) k = some q.2 := by simp [atKey, List.find?_cons, e']
      rw [zcs e, b]; exact h2
    · have e' : ¬ q.1 = k := fun z => e (h1.trans z)
      have b : atKey (q :: qs) k = atKey qs k := by simp [atKey, List.find?_cons, e']
      rw [zbq e, b]; exact ih
theorem KT.repl {H : Hp} {kvs : List (List Key × V)} {xs : List (List Key × Addr × Value)} (r : KT H kvs xs) (k : List Key) {y : V} {u : Value} (ry : RelV y u) :
    KT H (kvs.map fun kv => if kv.1 = k then (kv.1, y) else kv) (xs.map (putAt k u)) := by
  induction r with
  | nil => exact .nil
  | @cons p q ps qs h t ih =>
    rw [List.map_cons, List.map_cons]
    refine .cons ?_ ih
    obtain ⟨h1, h2, h3⟩ := h
    unfold putAt
    by_cases e : p.1 = k
    · rw [if_pos e, if_pos (h1.symm.trans e)]; exact ⟨h1, h2, ry⟩
    · rw [if_neg e, if_neg (fun z => e (h1.trans z))]; exact ⟨h1, h2, h3⟩
theorem KT.put {H : Hp} {kvs : List (List Key × V)} {xs : List (List Key × Addr × Value)} (r : KT H kvs xs) (k : List Key) {b : Addr} {y : V} {u : Value} (hb : H b = some (.tup (k.map kV))) (ry : RelV y u) :
    KT H (putK kvs k y) (storedH xs k b u) := by
  have e : (kvs.any fun kv => decide (kv.1 = k)) = (atKey xs k).isSome := by
    rw [zfN, (r.val k).isSome_eq, Option.isSome_map]
  unfold putK storedH
  rw [e]
  by_cases q : (atKey xs k).isSome = true
  · rw [if_pos q, if_pos q]; exact r.repl k ry
  · rw [if_neg q, if_neg q]; exact Paired.snoc r ⟨rfl, hb, ry⟩
theorem KT.keeps {H H' : Hp} {kvs : List (List Key × V)} {xs : List (List Key × Addr × Value)} (r : KT H kvs xs) (ht : ∀ b ys, H b = some (.tup ys) → H' b = some (.tup ys)) : KT H' kvs xs :=
  Paired.mapP r fun _ _ z => ⟨z.1, ht _ _ z.2.1, z.2.2⟩
section
variable {P : Program} {w : World} {H : Hp} {h : Heap} {a : Addr}
theorem zoc {u : HO} (ok : HOk P w H h) (e : Rd H a u) : zbT P w H h a u := e.ok ok
theorem zkX {kvs : List (Key × V)} (ok : HOk P w H h) (e : Rd H a (.dK kvs)) : kvs.length ≤ sizeLine ∧ (a == sysModules) = false ∧ ∃ vs, KV kvs vs ∧ h.DictOf (zaA P w) a vs :=
  show zbT P w H h a (.dK kvs) from zoc ok e
theorem znG {kvs : List (Key × V)} (ok : HOk P w H h) (e : H a = some (.dK kvs)) : kvs.length ≤ sizeLine ∧ (a == sysModules) = false ∧ ∃ vs, KV kvs vs ∧ h.DictOf (zaA P w) a vs := zkX ok (.inl e)
theorem zis {ks : List Key} (ok : HOk P w H h) (e : H a = some (.tup (ks.map kV))) : (tupleKind (zaA P w)).is h ks a := by
  obtain ⟨_, its, r, o, h1, h2, n, h3⟩ := (show zbT P w H h a (.tup (ks.map kV)) from ok a _ e)
  exact ⟨o, its.toArray, n, h1, h2, h3, by simpa using zgO r⟩
theorem zkT {kvs : List (List Key × V)} (ok : HOk P w H h) (e : Rd H a (.dT kvs)) : kvs.length ≤ sizeLine ∧ (a == sysModules) = false ∧
    ∃ xs, KT H kvs xs ∧ h.DictOfH (tupleKind (zaA P w)) a xs := by
  obtain ⟨z, y, xs, r, o, es, ep, h1, h2, h3, h4, h5⟩ := (show zbT P w H h a (.dT kvs) from zoc ok e)
  refine ⟨z, y, xs, r, o, es, ep, h1, h2, h3, h4, fun x hx => ?_, h5⟩
  have all : ∀ {l : List (List Key × V)} {m : List (List Key × Addr × Value)}, KT H l m → ∀ x ∈ m, (tupleKind (zaA P w)).is h x.1 x.2.1 := by
    intro l m q
    induction q with
    | nil => intro x hx; exact nomatch hx
    | @cons p q ps qs hq t ih =>
      intro x hx
      rcases List.mem_cons.mp hx with e | hx
      · subst e
        exact zis ok (by rw [← hq.1]; exact hq.2.1)
      · exact ih x hx
  exact all r x hx
theorem dt_of {kvs : List (List Key × V)} (ok : HOk P w H h) (e : H a = some (.dT kvs)) : kvs.length ≤ sizeLine ∧ (a == sysModules) = false ∧
    ∃ xs, KT H kvs xs ∧ h.DictOfH (tupleKind (zaA P w)) a xs := zkT ok (.inl e)
end
def DGet (H : Hp) (a : Addr) (y : V) (r : Option V) : Prop :=
  (∃ kvs k, Rd H a (.dK kvs) ∧ y = kV k ∧ r = valV kvs k) ∨ ∃ kvs k b, Rd H a (.dT kvs) ∧ y = .ref b ∧ H b = some (.tup (k.map kV)) ∧ r = valV kvs k
def DPut (H : Hp) (a : Addr) (y v : V) (H' : Hp) : Prop :=
  (∃ kvs k, H a = some (.dK kvs) ∧ y = kV k ∧ kvs.length < sizeLine ∧ H' = upd H a (.dK (putK kvs k v))) ∨
  ∃ kvs k b, H a = some (.dT kvs) ∧ y = .ref b ∧ H b = some (.tup (k.map kV)) ∧ kvs.length < sizeLine ∧ H' = upd H a (.dT (putK kvs k v))
theorem DGet.k {H : Hp} {a : Addr} {kvs : List (Key × V)} {k : Key} (e : H a = some (.dK kvs)) : DGet H a (kV k) (valV kvs k) := .inl ⟨kvs, k, .inl e, rfl, rfl⟩
theorem DGet.t {H : Hp} {a b : Addr} {kvs : List (List Key × V)} {k : List Key} (e : H a = some (.dT kvs)) (eb : H b = some (.tup (k.map kV))) : DGet H a (.ref b) (valV kvs k) := .inr ⟨kvs, k, b, .inl e, rfl, eb, rfl⟩
theorem DPut.k {H : Hp} {a : Addr} {kvs : List (Key × V)} {k : Key} {v : V} (e : H a = some (.dK kvs)) (hl : kvs.length < sizeLine) : DPut H a (kV k) v (upd H a (.dK (putK kvs k v))) := .inl ⟨kvs, k, e, rfl, hl, rfl⟩
theorem DPut.t {H : Hp} {a b : Addr} {kvs : List (List Key × V)} {k : List Key} {v : V} (e : H a = some (.dT kvs)) (eb : H b = some (.tup (k.map kV))) (hl : kvs.length < sizeLine) :
    DPut H a (.ref b) v (upd H a (.dT (putK kvs k v))) := .inr ⟨kvs, k, b, e, rfl, eb, hl, rfl⟩
section
variable {X : Cx} {pins : List (Addr × Obj)} {σ : St} {H : Hp} {s : Shared} {a : Addr} {y v : V} {u r : Value} {o : Option V} {A : Around} {E : Value → Shared → Prop}
theorem Inv.big (I : Inv X pins σ H s) : sysModules < s.heap.objs.size := by
  have h : mainGlobals < s.heap.objs.size := (I.mod.glob.keeps I.bk).lt
  exact Nat.lt_trans (by decide) h
theorem zk3 {Q : Value → Shared → Prop} (hu : A.units + 1 < cLine) (I : Inv X pins σ H s) (g : DGet H a y (some v)) (ry : RelV y u) (h : ∀ w' s', Inv X pins σ H s' → RelV v w' → Q w' s') :
    wpAny (model X.prog X.w) A (getItem (.ref a) u) Q E s := by
  rcases g with ⟨kvs, k, e, ey, l⟩ | ⟨kvs, k, b, e, ey, eb, l⟩
  · subst ey
    obtain ⟨z, hd, vs, rel, dd⟩ := zkX I.hok e
    obtain ⟨w', hw, rw'⟩ := RelO.some_of (v := v) (o := valueAt vs k) (by rw [l]; exact rel.val k)
    exact wpAny_getItem_of (zji ry) dd.mapOf hw (h w' _ (I.tok _) rw')
  · subst ey
    cases (show u = Value.ref b from ry)
    obtain ⟨z, hd, xs, rel, dd⟩ := zkT I.hok e
    obtain ⟨w', hw, rw'⟩ := RelO.some_of (v := v) (o := (atKey xs k).map (·.2)) (by rw [l]; exact rel.val k)
    obtain ⟨p, hp, hp2⟩ := Option.map_eq_some_iff.mp hw
    refine wpAny_getItem_heap (tupleKind_room_in1 hu) (zis I.hok eb) dd hp ?_
    rw [hp2]
    exact h w' _ (I.tok _) rw'
theorem zhJ {h' : Heap} {t' : Nat} {ob : HO} (I : Inv X pins σ H s) (mu : Mut (H a)) (hs : Heap.SameBut a s.heap h') (he : ∃ q, h'.get? a = some q) (new : zbT X.prog X.w (upd H a ob) h' a ob) :
    Inv X pins σ (upd H a ob) { s with heap := h', toks := t' } :=
  I.write (x := a) (e := a) mu (.inl rfl) (fun b q hb z => (hs.2 b hb).trans z) he new
theorem zmN {P : Program} {w : World} {H' : Hp} {h' : Heap} {kvs : List (Key × V)} {vs : List (Key × Value)} (z : kvs.length ≤ sizeLine) (hd : (a == sysModules) = false) (rel : KV kvs vs) (dd : h'.DictOf (zaA P w) a vs) :
    zbT P w H' h' a (.dK kvs) := ⟨z, hd, vs, rel, dd⟩
theorem zk2 {H' : Hp} {Q : Unit → Shared → Prop} (hu : A.units + 1 < cLine) (I : Inv X pins σ H s) (g : DPut H a y v H') (ry : RelV y u) (rv : RelV v r) (h : ∀ s', Inv X pins σ H' s' → Q () s') :
    wpAny (model X.prog X.w) A (setItem (.ref a) u r) Q E s := by
  rcases g with ⟨kvs, k, e, ey, l, eH⟩ | ⟨kvs, k, b, e, ey, eb, l, eH⟩
  · subst ey eH
    obtain ⟨z, hd, vs, rel, dd⟩ := znG I.hok e
    have hz : vs.length ≤ sizeLine := by rw [← rel.length]; exact z
    have hl : (putK kvs k v).length ≤ sizeLine := by have := zcZ kvs k v; omega
    refine wpAny_setItem_pairs (hsz := hz) (zji ry) dd fun h' dd' hs => h _ ?_
    have he : ∃ q, h'.get? a = some q := let ⟨q, _, _, hq, _⟩ := dd'; ⟨q, hq⟩
    exact zhJ I (by rw [e]; exact True.intro) hs he (zmN hl hd (rel.put k rv) dd')
  · subst ey eH
    cases (show u = Value.ref b from ry)
    obtain ⟨z, hd, xs, rel, dd⟩ := dt_of I.hok e
    have hz : xs.length ≤ sizeLine := by rw [← Paired.length rel]; exact z
    have hl : (putK kvs k v).length ≤ sizeLine := by have := zcZ kvs k v; omega
    refine wpAny_setItem_heap (hsz := hz) (tupleKind_room_in1 hu) (zis I.hok eb) dd fun h' dd' hs => h _ ?_
    obtain ⟨q, es, ep, hq, h2, h3, h4, _, h5⟩ := dd'
    refine zhJ I (by rw [e]; exact True.intro) hs ⟨q, hq⟩ ⟨hl, hd, _, (rel.put k eb rv).keeps fun c ys ec => ?_, q, es, ep, hq, h2, h3, h4, h5⟩
    rw [zah (zoD ec e (fun z => nomatch z))]
    exact ec
end
section
variable {X : Cx} {pins : List (Addr × Obj)} {σ : St} {H : Hp} {s : Shared} {a : Addr} {kvs : List (Key × V)} {k : Key} {u : Value} {A : Around} {E : Value → Shared → Prop}
end
def NoSl (i : Expr) : Prop := ∀ ov iv, subscripted i false ov iv = operate [ov, iv] (getItem ov iv)
theorem zm0 {prog : Program} {w : World} {A : Around} {E : Value → Shared → Prop} {s : Shared} {env : Env} {value slice : Expr} {pos : Pos} {T id : String} {Q : Value → Shared → Prop}
    (hl : typeLookup (.type T) "__getitem__" = pure (some (.builtin id))) (hs : NoSl slice)
    (h : wpAny (model prog w) A (eval value env) (fun o s₁ => wpAny (model prog w) A (eval slice env) (fun i s₂ => s₂.TypeIs o T ∧ wpAny (model prog w) A (getItem o i) Q E s₂) E s₁) E s) :
    wpAny (model prog w) A (eval (.Subscript value slice pos) env) Q E s := by
  refine Subscript_ (wpAny_mono h (fun o s₁ h₁ => wpAny_mono h₁ (fun i s₂ h₂ => ?_) fun _ _ x => x) fun _ _ x => x)
  obtain ⟨hT, h₂⟩ := h₂
  unfold subscriptTail
  refine wpAny_bind ?_
  rw [getitemInPython_of_ne hT.not_modules]
  refine wpAny_bind (wpAny_specialOf hT hl ?_)
  have fin : wpAny (model prog w) A (subscripted slice false o i) (fun r s₃ => wpAny (model prog w) A (letTemporaryGo value o r >>= fun _ => pure r) Q E s₃) E s₂ := by
    rw [hs o i]
    exact wpAny_operating (wpAny_mono h₂ (fun r s₃ h₃ => wpAny_bind (wpAny_letTemporaryGo (wpAny_pure h₃))) fun _ _ x => x)
  first
    | exact wpAny_pure (wpAny_bind fin)
    | exact wpAny_bind (wpAny_pure (wpAny_bind fin))
    | exact wpAny_bind fin
theorem zhI {X : Cx} {pins : List (Addr × Obj)} {σ : St} {H : Hp} {s : Shared} {a : Addr} {y : V} {o : Option V} (I : Inv X pins σ H s) (g : DGet H a y o) : s.TypeIs (.ref a) "dict" := by
  rcases g with ⟨kvs, k, e, _, _⟩ | ⟨kvs, k, b, e, _, _, _⟩
  · obtain ⟨_, _, vs, _, dd⟩ := zkX I.hok e
    exact dd.typeIs
  · obtain ⟨_, _, xs, _, dd⟩ := zkT I.hok e
    exact dd.typeIs
def tDGet (td ty : TE) : TE := fun σ H Q => td σ H fun x H1 => ty σ H1 fun y H2 => ∃ a v, x = .ref a ∧ DGet H2 a y (some v) ∧ Q v H2
def tDIn (ty td : TE) : TE := fun σ H Q => ty σ H fun y H1 => td σ H1 fun x H2 => ∃ a o, x = .ref a ∧ DGet H2 a y o ∧ Q (.bl o.isSome) H2
def tDNotIn (ty td : TE) : TE := fun σ H Q => ty σ H fun y H1 => td σ H1 fun x H2 => ∃ a o, x = .ref a ∧ DGet H2 a y o ∧ Q (.bl (!o.isSome)) H2
def sDPut (td ty tv : TE) : TS := fun D σ H => tv σ H fun v H1 => td σ H1 fun x H2 => ty σ H2 fun y H3 => ∃ a H4, x = .ref a ∧ DPut H3 a y v H4 ∧ D.nx σ H4
def sDAug (td ty tv : TE) (rd : V → V → Hp → VK → Prop) : TS := fun D σ H => td σ H fun x H1 => ty σ H1 fun y H2 => ∃ a v, x = .ref a ∧ DGet H2 a y (some v) ∧
  tv σ H2 fun y2 H3 => rd v y2 H3 fun z H4 => ∃ H5, DPut H4 a y z H5 ∧ D.nx σ H5
def sDDel (td ty : TE) : TS := fun D σ H => td σ H fun x H1 => ty σ H1 fun y H2 => ∃ a kvs k, x = .ref a ∧ H2 a = some (.dK kvs) ∧ y = kV k ∧ (valV kvs k).isSome = true ∧ D.nx σ (upd H2 a (.dK (zkU kvs k)))
section
variable {X : Cx} {o i e value : Expr} {pos pos' tpos : Pos} {td ty tv : TE}
theorem zdc (hu : X.A.units + 1 < cLine) (ho : PE X o td) (hi : PE X i ty) (hs : NoSl i) : PE X (.Subscript o i pos) (tDGet td ty) := by
  intro pins s σ H Q I h
  refine zm0 PySem.F.slot_dict_getitem.lookup hs (thn (ho pins s σ H _ I h) fun u s1 ⟨x, H1, I1, rx, q1⟩ => thn (hi pins s1 σ H1 _ I1 q1) fun iv s2 ⟨y, H2, I2, ry, a, v, ex, g, q2⟩ => ?_)
  subst ex
  obtain rfl : u = Value.ref a := rx
  exact ⟨zhI I2 g, zk3 hu I2 g ry fun w' s3 I3 rw' => ⟨v, H2, I3, rw', q2⟩⟩
theorem zeb (hu : X.A.units + 1 < cLine) (ho : PE X o td) (hi : PE X i ty) (hv : PE X value tv) (hs : swapsWith value (some (.Subscript o i pos')) pos.line X.env = pure false) :
    PS X (.Assign [.Subscript o i pos'] value pos) (sDPut td ty tv) := by
  intro pins s σ H D I h
  refine wpAny_Assign_Subscript (thn (hv pins s σ H _ I h) fun r s1 ⟨v, H1, I1, rv, q1⟩ => thn (ho pins s1 σ H1 _ I1 q1) fun u s2 ⟨x, H2, I2, rx, q2⟩ => thn (hi pins s2 σ H2 _ I2 q2) fun iv s3 ⟨y, H3, I3, ry, a, H4, ex, g, q3⟩ => ?_) hs
  subst ex
  obtain rfl : u = Value.ref a := rx
  exact zk2 hu I3 g ry rv fun s4 I4 => ⟨σ, H4, I4, q3⟩
end
theorem ziE {P : Program} {w : World} {H : Hp} (h : Heap) (hb : sysModules < h.objs.size) : zbT P w H (h.push { cls := .type "dict", data := .dict #[] }) h.objs.size (.dK []) :=
  ⟨Nat.zero_le _, beq_eq_false_iff_ne.mpr (Ne.symm (Nat.ne_of_lt hb)), [], .nil, Heap.DictOf.new h⟩
theorem zl9 {P : Program} {w : World} {H : Hp} (h : Heap) (hb : sysModules < h.objs.size) : zbT P w H (h.push { cls := .type "dict", data := .dict #[] }) h.objs.size (.dT []) :=
  ⟨Nat.zero_le _, beq_eq_false_iff_ne.mpr (Ne.symm (Nat.ne_of_lt hb)), [], .nil, _, #[], 0, Heap.get?_push_size _ rfl, ⟨rfl, rfl, rfl⟩, rfl, rfl, List.nodup_nil⟩
def znY : TE := fun _ H Q => ∀ p, H p = none → Q (.ref p) (upd H p (.dK []))
def znX : TE := fun _ H Q => ∀ p, H p = none → Q (.ref p) (upd H p (.dT []))
section
variable {X : Cx} {pos : Pos}
theorem zif : PE X (.Dict [] [] pos) znY := fun pins s σ H Q I h =>
  wpAny_Dict_empty ⟨.ref s.heap.objs.size, _, I.laid (a := s.heap.objs.size) (o := .dK []) (t' := s.toks) (fun _ _ q => Heap.get?_push_of_some _ q) (Nat.le_refl _) (ziE s.heap I.big), rfl, h _ (I.hok.fresh (Nat.le_refl _))⟩
theorem zlE : PE X (.Dict [] [] pos) znX := fun pins s σ H Q I h =>
  wpAny_Dict_empty ⟨.ref s.heap.objs.size, _, I.laid (a := s.heap.objs.size) (o := .dT []) (t' := s.toks) (fun _ _ q => Heap.get?_push_of_some _ q) (Nat.le_refl _) (zl9 s.heap I.big), rfl, h _ (I.hok.fresh (Nat.le_refl _))⟩
end
def zjQ : List (TE × TE) → St → Hp → (List (V × V) → Hp → Prop) → Prop
  | [], _, H, Q => Q [] H
  | (tk, tv) :: r, σ, H, Q => tk σ H fun x H1 => tv σ H1 fun y H2 => zjQ r σ H2 fun ps H3 => Q ((x, y) :: ps) H3
abbrev VV : List (V × V) → List (Value × Value) → Prop := Paired fun p q => RelV p.1 q.1 ∧ RelV p.2 q.2
def PPs (X : Cx) (pos : Pos) (keys : List (Option Expr)) (values : List Expr) (trs : List (TE × TE)) : Prop :=
  ∀ (pins : List (Addr × Obj)) (s : Shared) (σ : St) (H : Hp) (Q : List (V × V) → Hp → Prop), Inv X pins σ H s → zjQ trs σ H Q →
    wpAny (model X.prog X.w) X.A (evalPairs (pairTrees keys values X.env pos)) (fun vs s' => ∃ ps H', Inv X pins σ H' s' ∧ VV ps vs ∧ Q ps H') X.xe s
theorem zna {X : Cx} {pos : Pos} : PPs X pos [] [] [] := fun pins s σ H Q I h => pairTrees_nil_walk ⟨[], H, I, .nil, h⟩
theorem zfX {X : Cx} {pos : Pos} {k v : Expr} {ks : List (Option Expr)} {vs : List Expr} {tk tv : TE} {trs : List (TE × TE)} (hk : PE X k tk) (hv : PE X v tv) (hr : PPs X pos ks vs trs) :
    PPs X pos (some k :: ks) (v :: vs) ((tk, tv) :: trs) := fun pins s σ H Q I h =>
  pairTrees_cons_walk (thn (hk pins s σ H _ I h) fun u s1 ⟨x, H1, I1, rx, q1⟩ => thn (hv pins s1 σ H1 _ I1 q1) fun w2 s2 ⟨y, H2, I2, ry, q2⟩ =>
    thn (hr pins s2 σ H2 _ I2 q2) fun ws s3 ⟨ps, H3, I3, rel, q3⟩ => ⟨(x, y) :: ps, H3, I3, .cons ⟨rx, ry⟩ rel, q3⟩)
def zes (kvs more : List (Key × V)) : List (Key × V) := more.foldl (fun acc kv => putK acc kv.1 kv.2) kvs
theorem KV.merge : ∀ {more : List (Key × V)} {rs : List (Key × Value)} {kvs : List (Key × V)} {vs : List (Key × Value)}, KV more rs → KV kvs vs → KV (zes kvs more) (merged vs rs) := by
  intro more rs kvs vs r
  unfold KV at r
  induction r generalizing kvs vs with
  | nil => intro q; exact q
  | @cons p q ps qs h t ih =>
    intro r0
    have e : KV (putK kvs p.1 p.2) (stored vs q.1 q.2) := by
      have := r0.put p.1 h.2
      rw [← h.1]; exact this
    exact ih e
theorem zdX : ∀ (more kvs : List (Key × V)), (zes kvs more).length ≤ kvs.length + more.length
  | [], kvs => by show kvs.length ≤ kvs.length + 0; omega
  | p :: r, kvs => by
    have h1 := zdX r (putK kvs p.1 p.2)
    have h2 := zcZ kvs p.1 p.2
    show (zes (putK kvs p.1 p.2) r).length ≤ _
    rw [List.length_cons]; omega
theorem zfF {P : Program} {w : World} : ∀ {kvs : List (Key × V)} {ws : List (Value × Value)}, VV (kvs.map fun kv => (kV kv.1, kv.2)) ws → ∃ rs, Carries (zaA P w) ws rs ∧ KV kvs rs
  | [], _, r => by rw [List.map_nil] at r; cases r; exact ⟨[], True.intro, .nil⟩
  | p :: kvs, _, r => by
    rw [List.map_cons] at r
    cases r with
    | @cons a b as bs h t =>
      obtain ⟨rs, c, q⟩ := zfF (P := P) (w := w) t
      obtain ⟨b1, b2⟩ := b
      exact ⟨(p.1, b2) :: rs, ⟨zji h.1, rfl, c⟩, .cons ⟨rfl, h.2⟩ q⟩
def tDisp (trs : List (TE × TE)) : TE := fun σ H Q => ∀ p, H p = none → zjQ trs σ (upd H p (.dK [])) fun ps H2 => H2 p = some (.dK []) ∧ ∃ kvs : List (Key × V), ps = kvs.map (fun kv => (kV kv.1, kv.2)) ∧ kvs.length ≤ 15 ∧ Q (.ref p) (upd H2 p (.dK (zes [] kvs)))
theorem znd {X : Cx} {pos : Pos} {keys : List (Option Expr)} {values : List Expr} {trs : List (TE × TE)} (h : PPs X pos keys values trs) (hall : keys.all (·.isSome) = true) (hl : keys.length = values.length) (h0 : keys ≠ [])
    (h15 : keys.length ≤ 15) : PE X (.Dict keys values pos) (tDisp trs) := by
  intro pins s σ H Q I q
  have hn := I.hok.fresh (Nat.le_refl s.heap.objs.size)
  have I1 := I.laid (a := s.heap.objs.size) (o := .dK []) (h' := s.heap.push { cls := .type "dict", data := .dict #[] }) (t' := s.toks) (fun _ _ q => Heap.get?_push_of_some _ q) (Nat.le_refl _) (ziE s.heap I.big)
  refine wpAny_Dict_walk (knd := zaA X.prog X.w) hall hl h0 h15 (thn (h pins _ σ _ _ I1 (q _ hn)) fun ws s2 ⟨ps, H2, I2, rel, e, kvs, ep, lk, q2⟩ => ?_)
  subst ep
  obtain ⟨rs, c, rk⟩ := zfF (P := X.prog) (w := X.w) rel
  obtain ⟨z, hd, vs0, r0, dd⟩ := znG I2.hok e
  cases r0
  refine ⟨rs, c, dd, fun h' dd' hs => ⟨.ref s.heap.objs.size, _, ?_, rfl, q2⟩⟩
  have hz : (zes [] kvs).length ≤ sizeLine := by
    have h1 := zdX kvs []
    rw [List.length_nil] at h1
    rw [sizeLine_eq]; omega
  have he : ∃ q, h'.get? s.heap.objs.size = some q := let ⟨q, _, _, hq, _⟩ := dd'; ⟨q, hq⟩
  exact zhJ I2 (by rw [e]; exact True.intro) hs he (zmN hz hd (rk.merge .nil) dd')
structure M1 (X : Cx) (o : Expr) (m : Str) (apos : Pos) (e : Expr) (cpos : Pos) : Prop where
  base : attributeBase o m X.env (eval o X.env) = eval o X.env
  few : ((backTo cpos (starEach [e] X.env)).all (fun x => !x.1) && (backToKw cpos (keywordEach [] X.env)).all (fun x => x.1.isSome)
    && decide (([e] : List Expr).length + ([] : List Keyword).length + (if ([] : List Keyword).isEmpty then 0 else 1) < 30)) = true
  line : (apos.endLine == cpos.line) = true
  trees : backTo cpos (starEach [e] X.env) = [(false, eval e X.env)]
structure M2 (X : Cx) (o : Expr) (m : Str) (apos : Pos) (e f : Expr) (cpos : Pos) : Prop where
  base : attributeBase o m X.env (eval o X.env) = eval o X.env
  few : ((backTo cpos (starEach [e, f] X.env)).all (fun x => !x.1) && (backToKw cpos (keywordEach [] X.env)).all (fun x => x.1.isSome)
    && decide (([e, f] : List Expr).length + ([] : List Keyword).length + (if ([] : List Keyword).isEmpty then 0 else 1) < 30)) = true
  line : (apos.endLine == cpos.line) = true
  trees : backTo cpos (starEach [e, f] X.env) = [(false, eval e X.env), (false, eval f X.env)]
def IsD (H : Hp) (a : Addr) : Prop := (∃ kvs, Rd H a (.dK kvs)) ∨ ∃ kvs, Rd H a (.dT kvs)
theorem isD_at {X : Cx} {pins : List (Addr × Obj)} {σ : St} {H : Hp} {s : Shared} {a : Addr} (I : Inv X pins σ H s) (d : IsD H a) :
    s.TypeIs (.ref a) "dict" ∧ (∀ b, Value.ref a = .ref b → ∃ ob, s.heap.get? b = some ob ∧ ob.dict = none) ∧ (a == sysModules) = false := by
  rcases d with ⟨kvs, e⟩ | ⟨kvs, e⟩
  · obtain ⟨_, hd, vs, _, dd⟩ := zkX I.hok e
    refine ⟨dd.typeIs, fun b q => ?_, hd⟩
    cases q
    obtain ⟨ob, _, _, h1, h2, _⟩ := dd
    exact ⟨ob, h1, h2.2.1⟩
  · obtain ⟨_, hd, xs, _, dd⟩ := zkT I.hok e
    refine ⟨dd.typeIs, fun b q => ?_, hd⟩
    cases q
    obtain ⟨ob, _, _, h1, h2, _⟩ := dd
    exact ⟨ob, h1, h2.2.1⟩
section
variable {X : Cx} {pins : List (Addr × Obj)} {σ : St} {H : Hp} {s : Shared} {a : Addr} {y d : V} {u r : Value} {o : Option V} {A : Around} {E : Value → Shared → Prop}
theorem d_get2 {Q : Value → Shared → Prop} (hu : A.units + 1 < cLine) (I : Inv X pins σ H s) (g : DGet H a y o) (ry : RelV y u) (rd : RelV d r) (h : ∀ w' s', Inv X pins σ H s' → RelV (o.getD d) w' → Q w' s') :
    wpAny (model X.prog X.w) A (call (.builtin "dict.get") [.ref a, u, r]) Q E s := by
  rcases g with ⟨kvs, k, e, ey, l⟩ | ⟨kvs, k, b, e, ey, eb, l⟩
  · subst ey
    obtain ⟨z, hd, vs, rel, dd⟩ := zkX I.hok e
    refine call_meetsIn PySem.F.slot_dict_get dd.typeIs PySem.F.entry_dict_get (PySem.F.args_dict_get_3 _ _ _) (meets_dict_get_default (zaA X.prog X.w) a (zji ry) hd r) ⟨_, dd.mapOf, h _ _ (I.tok _) ?_⟩
    rw [l]
    exact (rel.val k).getD rd
  · subst ey
    cases (show u = Value.ref b from ry)
    obtain ⟨z, hd, xs, rel, dd⟩ := zkT I.hok e
    refine call_meetsIn PySem.F.slot_dict_get dd.typeIs PySem.F.entry_dict_get (PySem.F.args_dict_get_3 _ _ _) (meetsH_dict_get_default (tupleKind (zaA X.prog X.w)) a b hd r) ⟨tupleKind_room_in1 hu, k, xs, zis I.hok eb, dd, h _ _ (I.tok _) ?_⟩
    rw [l]
    exact (rel.val k).getD rd
end
def tDGet1 (td ty : TE) : TE := fun σ H Q => td σ H fun x H1 => ∃ a, x = .ref a ∧ IsD H1 a ∧ ty σ H1 fun y H2 => ∃ o, DGet H2 a y o ∧ Q (o.getD .non) H2
def znZ (td ty tx : TE) : TE := fun σ H Q => td σ H fun x H1 => ∃ a, x = .ref a ∧ IsD H1 a ∧ ty σ H1 fun y H2 => tx σ H2 fun z H3 => ∃ o, DGet H3 a y o ∧ Q (o.getD z) H3
def tDPop1 (td ty : TE) : TE := fun σ H Q => td σ H fun x H1 => ∃ a, x = .ref a ∧ IsD H1 a ∧ ty σ H1 fun y H2 => ∃ kvs k v, H2 a = some (.dK kvs) ∧ y = kV k ∧ valV kvs k = some v ∧ Q v (upd H2 a (.dK (zkU kvs k)))
def tDPop2 (td ty tx : TE) : TE := fun σ H Q => td σ H fun x H1 => ∃ a, x = .ref a ∧ IsD H1 a ∧ ty σ H1 fun y H2 => tx σ H2 fun z H3 => ∃ kvs k, H3 a = some (.dK kvs) ∧ y = kV k ∧
  (∀ v, valV kvs k = some v → Q v (upd H3 a (.dK (zkU kvs k)))) ∧ (valV kvs k = none → Q z H3)
section
variable {X : Cx} {o e f : Expr} {apos cpos : Pos} {td ty tx : TE}
theorem zlF (hu : X.A.units + 1 < cLine) (ho : PE X o td) (he : PE X e ty) (hf : PE X f tx) (m : M2 X o "get" apos e f cpos) : PE X (.Call (.Attribute o "get" apos) [e, f] [] cpos) (znZ td ty tx) := by
  intro pins s σ H Q I h
  refine wpAny_Call_method m.base m.few m.line PySem.F.plainAttrs_dict PySem.F.slot_dict_get PySem.F.type_dict_get (thn (ho pins s σ H _ I h) fun u s1 ⟨x, H1, I1, rx, a, ex, d, q1⟩ => ?_)
  subst ex
  obtain rfl : u = Value.ref a := rx
  obtain ⟨t1, t2, _⟩ := isD_at I1 d
  refine ⟨t1, t2, ?_⟩
  rw [m.trees]
  refine Calls.callWith_builtin rfl (Calls.evalArgs_plain (Calls.spliced_cons (thn (he pins s1 σ H1 _ I1 q1) fun iv s2 ⟨y, H2, I2, ry, q2⟩ =>
    Calls.spliced_cons (thn (hf pins s2 σ H2 _ I2 q2) fun fv s3 ⟨z, H3, I3, rz, ov, g, q3⟩ => Calls.spliced_nil ?_))))
  exact d_get2 hu I3 g ry rz fun w' s4 I4 rw' => ⟨_, H3, I4, rw', q3⟩
end
section
variable {X : Cx} {pins : List (Addr × Obj)} {σ : St} {H : Hp} {s : Shared} {a : Addr} {kvs : List (Key × V)} {A : Around} {E : Value → Shared → Prop}
end
section
variable {X : Cx} {pins : List (Addr × Obj)} {σ : St} {H : Hp} {s : Shared} {a : Addr} {y : V} {u : Value} {A : Around} {E : Value → Shared → Prop}
end
end L2
namespace Att
open PySem PySem.W PySem.Calls PyProof.Rows
theorem zeZ {P : Params} {h : Heap} : ∀ (ns : List Int) (vs : List Value), WellAll P h vs (ns.map WData.int) → IntsAre vs ns := by
  intro ns
  induction ns with
  | nil =>
    intro vs w
    rw [List.map_nil] at w
    cases w
    exact .nil
  | cons n ns ih =>
    intro vs w
    rw [List.map_cons] at w
    cases w with
    | cons a b =>
      cases a
      exact .cons _ _ (ih _ b)
theorem zj1 {l : OpenLaw} {n : Nat} (hn : l.most = some n) {P : Params} {h : Heap} {args : List WData} {vals : List Value}
    (hpre : l.row.toRowW.claim.pre args = true) (hwl : WellAll P h vals args) :
    ∃ a vs ns, vals = [Value.ref a] ∧ args = [WData.list (ns.map WData.int)] ∧ h.get? a = some { cls := .type "list", data := .seq vs.toArray } ∧ IntsAre vs ns ∧ ns.length ≤ n := by
  have hsh : WShape.hasAll [] args [.list .int] = true := (pre_splitW hpre).1
  have hc : l.pre.holds [] { args := args } = true := (pre_splitW hpre).2
  obtain ⟨d, r, rfl, h1, h2⟩ := hasAllW_cons hsh
  obtain rfl := hasAllW_nil h2
  obtain ⟨xs, rfl, h3⟩ := hasW_list h1
  obtain ⟨ns, rfl⟩ := items_int h3
  have hlen : ns.length ≤ n := by
    unfold OpenLaw.pre at hc
    have h4 : (WTm.not (.lt (.lit (.int (n : Int))) (.len (.arg 0)))).holds [] { args := [.list (ns.map .int)] } = true := by
      have h4 := (holds_andW hc).1
      rw [hn] at h4
      exact h4
    have h5 := condW_of h4 (w_not (w_lt w_lit (w_len_list (w_arg rfl))))
    rw [List.length_map] at h5
    refine Nat.le_of_not_lt fun q => ?_
    have q' : (n : Int) < ((ns.length : Nat) : Int) := by omega
    first
      | (rw [decide_eq_true q'] at h5; exact absurd h5 (by decide))
      | (simp at h5; omega)
  cases hwl with
  | cons w1 w2 =>
    cases w2
    cases w1 with
    | list ho hall => exact ⟨_, _, ns, rfl, rfl, ho, zeZ ns _ hall, hlen⟩
theorem zj8 (l : OpenLaw) (args : List WData) : l.row.toRowW.claim.post args (.bool true) args = true :=
  postW_of (r := l.row.toRowW) (X := (true == true))
    (show WShape.has [] (.bool true) .bool = true by first | rfl | decide | simp [WShape.has, WShape.arms, WShape.armsAll])
    (show (WTm.eq .res (.lit (.bool true))).value [] { args := args, res := some (.bool true), after := args } = some (.bool (true == true)) from w_eq_bool (w_res rfl) w_lit) rfl
theorem attach_call {l : OpenLaw} {n : Nat} {q : Program} {loose : List Str} {XP : (Str → Option Value) → Heap → Prop} {YP : World → Heap → Prop} {d : DefRec}
    (hn : l.most = some n) (hdf : d.params.defaults = [])
    (call : ∀ (w : World) (s₀ s₁ : Shared) (mg mb : Str → Option Value) (fa : Addr) (o : Obj) (pm cd doc : Value) (a : Addr) (vs : List Value) (ns : List Int),
      Ground q loose [] XP w s₀ mg mb s₁.heap → YP w s₁.heap →
      s₁.heap.get? fa = some o → o.data = .func (docDef d.name d.params d.body d.scope pm cd doc) → s₁.heap.CodeRec cd d.name → mg d.name = some (.ref fa) →
      s₁.heap.get? a = some { cls := .type "list", data := .seq vs.toArray } → IntsAre vs ns → ns.length ≤ n → s₁.gens = #[] →
      codeAny (model l.prog w) callerA (.call (.ref fa) ⟨[.ref a], []⟩) (fun r s' => r = .ok (.ret (.bool true)) ∧ OldK s₁.heap s'.heap ∧ s'.os = s₁.os ∧ AllBare s'.gens) s₁) :
    WalkO q loose XP YP l.row.toRowW d [] (fun f vs => PySem.call f vs) := by
  intro w s₀ s₁ mg mb G Y fa o pm cd doc dV kV ho hd hcd hD hmg hg args vals as hpre hlay hrd hwl hlo
  obtain rfl : dV = .none := Dflts.none hD hdf
  obtain rfl : kV = .none := Dflts.noKw hD
  obtain ⟨a, vs, ns, rfl, rfl, hobj, hints, hlen⟩ := zj1 hn hpre hwl
  refine enter_call (codeAny_mono (call w s₀ s₁ mg mb fa o pm cd doc a vs ns G Y ho (fd_plain hd) hcd hmg hobj hints hlen hg) fun r s' hq => ?_)
  obtain ⟨rfl, h2, h3, h4⟩ := hq
  exact ⟨.inl ⟨.bool true, .bool true, [], rfl, fun _ => rfl, .bool true, zj8 l _, fun _ => ⟨List.Pairwise.nil, fun _ hm => (nomatch hm)⟩⟩, h2, h3, h4⟩
section
variable {prog : Program} {w : World} {A : Around} {E : Value → Shared → Prop} {s : Shared} {K : Frag}
def noObjs (h : Heap) : Heap := { h with objs := #[] }
def ledger (h : Heap) (L d : Addr) : List (Addr × Obj) := (List.range h.objs.size).filterMap fun a => if a = L ∨ a = d then none else (h.get? a).map fun o => (a, o)
end
end Att
namespace L2
open PySem PySem.Spec PyProof.Rows
theorem zgo : ∀ {vs : List Value} {ns : List Int}, IntsAre vs ns → Vals (ns.map V.int) vs
  | _, _, .nil => .nil
  | _, _, .cons n t h => .cons ⟨t, rfl⟩ (zgo h)
def Only (H : Hp) : Prop := ∀ b, H b = none ∨ ∃ o xs, H b = some (.frz o (.lst xs))
end L2
namespace L2
open PySem PySem.Spec PyProof.Rows
abbrev KOf {K : PySem.W.Frag} {h : Heap} (_ : K.In h) : PySem.W.Frag := K
end L2
namespace L2
open PySem PySem.Spec PyProof.Rows
def inClass (s : Stmt) (j : Nat) : Stmt := match s with
  | .ClassDef _ _ _ body _ _ _ _ _ _ _ => body.getD j (.Pass ⟨0, 0, 0, 0⟩)
  | _ => .Pass ⟨0, 0, 0, 0⟩
def zap (s : Stmt) : Arguments := match s with
  | .FunctionDef _ a _ _ _ _ _ _ _ _ => a
  | _ => { posonlyargs := [], args := [], vararg := none, kwonlyargs := [], kw_defaults := [], kwarg := none, defaults := [] }
def zan (s : Stmt) : List Stmt := match s with
  | .FunctionDef _ _ b _ _ _ _ _ _ _ => b
  | _ => []
def zad (s : Stmt) : Scope := match s with
  | .FunctionDef _ _ _ _ _ _ sc _ _ _ => sc
  | _ => { kind := .function, names := [], isGenerator := false, isCoroutine := false }
abbrev CX0 : CXT := fun _ _ _ _ _ _ => False
abbrev E0 : XK := fun _ _ _ => False
theorem zon {X : Cx} : zln CX0 X E0 := fun _ _ _ _ _ _ _ h => h.elim
structure Fun (K : PySem.W.Frag) (x qual : Str) (st : Stmt) (f : Addr) (fd : FuncData) : Prop where
  ex : ∃ (oc : Value) (od : Option Addr) (kV doc pm : Value) (an : Option Addr) (cdv ct : Value) (osl : Array (Option Value)),
    fd = PySem.W.fnOf x qual (zap st) (zan st) (zad st) .none kV doc pm an cdv ct ∧ K.lookup f = some ⟨oc, od, .func fd, osl⟩ ∧ PySem.W.codeIn K cdv qual = true
  kp : PySem.W.keepIn K (.ref f) = true
section
variable {P : Program} {w : World} {K : PySem.W.Frag} {mg : Str → Option Value} {base : Heap}
theorem Fun.ok {x qual : Str} {st : Stmt} {f : Addr} {fd : FuncData} {N ps : List Str} {k : Nat} {sp : Sp} (F : Fun K x qual st f fd) (S : zar N ps (zad st)) (len : ∀ vs H Q E, sp vs H Q E → vs.length = ps.length)
    (hbody : ∀ (cdv : Value) (A : Around) (outer : List Env) (s : Shared) (H : Hp) (vs : List V) (Q : VK) (E : XK), Room k (A.deeper (envOfC qual (zad st) s.heap.objs.size f cdv)) → sp vs H Q E →
      ∃ t, PSs (cxOf CX0 P w K mg base N qual (zad st) f cdv A outer s H E).nox (zan st) t ∧ t { nx := fun _ H' => Q .non H', rt := Q } (zcC N vs) H) : FnOk P w K mg base CX0 (k + 1) f fd ps sp := by
  obtain ⟨oc, od, kV, doc, pm, an, cdv, ct, osl, rfl, lk, hcd⟩ := F.ex
  refine fn_of lk hcd S len fun A outer s H vs Q E hr hsp => ?_
  obtain ⟨t, h, q⟩ := hbody cdv A outer s H vs Q E hr hsp
  exact ⟨t, h.nox, q⟩
theorem Fun.binds {x qual : Str} {st : Stmt} {f : Addr} {fd : FuncData} {ps : List Str} (F : Fun K x qual st f fd)
    (h : ∀ (kV doc pm : Value) (an : Option Addr) (cdv ct : Value) (us : List Value), us.length = ps.length → bindArgs (PySem.W.fnOf x qual (zap st) (zan st) (zad st) .none kV doc pm an cdv ct) ⟨us, []⟩ = pure (ps.zip us)) : zgm K fd ps [] := by
  obtain ⟨oc, od, kV, doc, pm, an, cdv, ct, osl, rfl, lk, hcd⟩ := F.ex
  exact .all (h kV doc pm an cdv ct)
theorem zam {x qual : Str} {st : Stmt} {f : Addr} {oc : Value} {od an : Option Addr} {osl : Array (Option Value)} {kV doc pm cdv ct : Value} (l : K.lookup f = some ⟨oc, od, .func (PySem.W.fnOf x qual (zap st) (zan st) (zad st) .none kV doc pm an cdv ct), osl⟩)
    (c : PySem.W.codeIn K cdv qual = true) (k : PySem.W.keepIn K (.ref f) = true) : Fun K x qual st f (PySem.W.fnOf x qual (zap st) (zan st) (zad st) .none kV doc pm an cdv ct) := ⟨⟨oc, od, kV, doc, pm, an, cdv, ct, osl, rfl, l, c⟩, k⟩
end
theorem zdK {A : Around} {k : Nat} (hr : Room k A) : A.units + 1 < cLine := Nat.lt_of_le_of_lt (Nat.add_le_add_left (by decide : 1 ≤ 64) _) hr.units
theorem zau {n : Nat} (h : n ≤ 1000) : n < sizeLine := Nat.lt_of_le_of_lt h (by decide)
section
variable {X : Cx}
theorem pv (i : Nat) {x : Str} {pos : Pos} (hN : X.N[i]? = some x := by rfl) (hv : Vis X.env.scope x := by first | exact Or.inl rfl | exact Or.inr (Or.inl rfl) | exact Or.inr (Or.inr rfl)) (hd : (x == ("__debug__" : Str)) = false := by decide)
    (hcd : (x == ("__classdict__" : Str)) = false := by decide) : PE X (.Name x pos) (tVar i) := zoj hN hv hd hcd
end
theorem iteF {A B : Prop} (h : B) : if false = true then A else B := by
  rw [if_neg Bool.false_ne_true]
  exact h
theorem iteT {A B : Prop} (h : A) : if true = true then A else B := by
  rw [if_pos rfl]
  exact h
theorem ite2 {c A B : Prop} [Decidable c] (h1 : c → A) (h2 : ¬ c → B) : if c then A else B := by
  by_cases h : c
  · rw [if_pos h]
    exact h1 h
  · rw [if_neg h]
    exact h2 h
theorem iteNS {c A B : Prop} [Decidable c] (hc : c) (h : B) : if (!decide c) = true then A else B := by
  rw [decide_eq_true hc]
  exact iteF h
def Same (H H' : Hp) : Prop := ∀ b o, H b = some o → H' b = some o
theorem Same.refl (H : Hp) : Same H H := fun _ _ h => h
theorem Same.trans {H H1 H2 : Hp} (a : Same H H1) (b : Same H1 H2) : Same H H2 := fun c o h => b c o (a c o h)
theorem Same.free {H H' : Hp} (e : Same H H') {l : Addr} (h : H' l = Option.none) : H l = Option.none := by
  cases q : H l with
  | none => rfl
  | some o =>
    rw [e l o q] at h
    cases h
theorem Same.seq {K : PySem.W.Frag} {H H' : Hp} {a : Addr} {xs : List V} (e : Same H H') (h : SqL K H a xs) : SqL K H' a xs := by
  rcases h with (h | ⟨o, h⟩) | h
  · exact .inl (.inl (e _ _ h))
  · exact .inl (.inr ⟨o, e _ _ h⟩)
  · exact .inr h
end L2
namespace L2
open PySem PySem.Spec PyProof.Rows
section
variable {X : Cx}
end
end L2
namespace L2
open PySem PySem.Spec PyProof.Rows
section
variable {κ : Type} [DecidableEq κ]
end
end L2
namespace Tim
open PySem PyProof.Rows
set_option autoImplicit false
section
variable {prog : Program} {w : World} {A : Around} {E : Value → Shared → Prop} {s : Shared} {κ : KeyKind} {kd : SortKind} {a₀ : Array Keyed}
def LtG (prog : Program) (w : World) (A : Around) (s : Shared) (κ : KeyKind) (kd : SortKind) : Prop :=
 ∀ (E : Value → Shared → Prop) (x y : Value) (a b : κ.α) (Q : Bool → Shared → Prop), κ.keyOf x = some a → κ.keyOf y = some b → Q (κ.blt a b) s → wpAny (model prog w) A (keyLt' kd x y) Q E s
def ky (κ : KeyKind) (p : Keyed) : κ.α := (κ.keyOf p.1).getD κ.dflt
def Keyd (κ : KeyKind) (p : Keyed) : Prop := ∃ a, κ.keyOf p.1 = some a
theorem Keyd.eq {p : Keyed} (h : Keyd κ p) : κ.keyOf p.1 = some (ky κ p) := by
 obtain ⟨a, e⟩ := h
 unfold ky
 rw [e]
 rfl
theorem lt_G {x y : Keyed} {st : SortSt} {Q : Option Bool → SortSt → Prop} (hO : LtG prog w A s κ kd) (hk : kindOf st = kd) (hx : Keyd κ x) (hy : Keyd κ y) (h : Q (some (κ.blt (ky κ x) (ky κ y))) st) : wpS (model prog w) A E s (lt' x y) Q st := by
 rw [lt'_eq]
 refine wpS_bind (wpS_get ?_)
 rw [hk]
 refine wpS_bind (wpS_lift (wpAny_attempt (hO _ x.1 y.1 _ _ _ hx.eq hy.eq ⟨rfl, ?_⟩)))
 exact wpS_pure h
theorem zaH {xs : Array Keyed} {i : Nat} {st : SortSt} {Q : Keyed → SortSt → Prop} (hi : i < xs.size) (h : Q xs[i] st) : wpS (model prog w) A E s (elem' xs i) Q st := by
 rw [elem'_eq, Array.getElem?_eq_getElem hi]
 exact wpS_pure h
structure TB (κ : KeyKind) (kd : SortKind) (n : Nat) (st : SortSt) : Prop where
 kind : kindOf st = kd
 keys : ∀ p ∈ (arrOf st).toList, Keyd κ p
 failed : failedOf st = none
 size : (arrOf st).size = n
def kAt (κ : KeyKind) (xs : Array Keyed) (i : Nat) : κ.α := match xs[i]? with
 | some p => ky κ p
 | none => κ.dflt
theorem za1 {xs : Array Keyed} {i : Nat} (h : i < xs.size) : kAt κ xs i = ky κ xs[i] := by
 unfold kAt
 rw [Array.getElem?_eq_getElem h]
theorem zbm {xs ys : Array Keyed} {i j : Nat} (h : xs[i]? = ys[j]?) : kAt κ xs i = kAt κ ys j := by
 unfold kAt
 rw [h]
theorem zgL {i j n : Nat} {st : SortSt} {Q : Option Bool → SortSt → Prop} (hO : LtG prog w A s κ kd) (hB : TB κ kd n st) (hi : i < n) (hj : j < n) (h : Q (some (κ.blt (kAt κ (arrOf st) i) (kAt κ (arrOf st) j))) st) : wpS (model prog w) A E s (ltAt' i j) Q st := by
 have hi' : i < (arrOf st).size := by rw [hB.size]; exact hi
 have hj' : j < (arrOf st).size := by rw [hB.size]; exact hj
 rw [ltAt'_eq]
 refine wpS_bind (wpS_get ?_)
 refine wpS_bind (zaH hi' (wpS_bind (zaH hj' ?_)))
 refine lt_G hO hB.kind (hB.keys _ (by simp)) (hB.keys _ (by simp)) ?_
 rw [za1 hi', za1 hj'] at h
 exact h
def Up (κ : KeyKind) (xs : Array Keyed) (lo hi : Nat) : Prop := ∀ i j, lo ≤ i → i ≤ j → j < hi → κ.kle (kAt κ xs i) (kAt κ xs j)
def Dn (κ : KeyKind) (xs : Array Keyed) (lo hi : Nat) : Prop := ∀ i j, lo ≤ i → i ≤ j → j < hi → κ.kle (kAt κ xs j) (kAt κ xs i)
structure Off (xs ys : Array Keyed) (lo hi : Nat) : Prop where
 perm : ys.Perm xs
 out : ∀ k, k < lo ∨ hi ≤ k → ys[k]? = xs[k]?
theorem Off.refl (xs : Array Keyed) (lo hi : Nat) : Off xs xs lo hi := ⟨Array.Perm.refl _, fun _ _ => rfl⟩
theorem Off.trans {xs ys zs : Array Keyed} {lo hi : Nat} (a : Off xs ys lo hi) (b : Off ys zs lo hi) : Off xs zs lo hi := ⟨b.perm.trans a.perm, fun k h => (b.out k h).trans (a.out k h)⟩
theorem Off.wide {xs ys : Array Keyed} {lo hi lo' hi' : Nat} (a : Off xs ys lo hi) (h1 : lo' ≤ lo) (h2 : hi ≤ hi') : Off xs ys lo' hi' := ⟨a.perm, fun k h => a.out k (by omega)⟩
theorem Off.size {xs ys : Array Keyed} {lo hi : Nat} (a : Off xs ys lo hi) : ys.size = xs.size := a.perm.size_eq
theorem TB.off {n lo hi : Nat} {st : SortSt} {ys : Array Keyed} (hB : TB κ kd n st) (h : Off (arrOf st) ys lo hi) : TB κ kd n (setArr st ys) :=
 ⟨hB.kind, fun p hp => hB.keys p ((Array.perm_iff_toList_perm.mp h.perm).mem_iff.mp hp), hB.failed, h.size.trans hB.size⟩
theorem zcL {xs : Array Keyed} {i j : Nat} (hj : j ≤ xs.size) : Off xs (mirror xs i j ((j - i) / 2)) i j := ⟨mirror_perm _ _ _ _, fun k hk => by rw [getElem?_mirror_all hj, if_neg (by omega)]⟩
theorem zeg {xs : Array Keyed} {i j k : Nat} (hj : j ≤ xs.size) (hk : i ≤ k ∧ k < j) : kAt κ (mirror xs i j ((j - i) / 2)) k = kAt κ xs (i + j - 1 - k) := by
 apply zbm
 rw [getElem?_mirror_all hj, if_pos hk]
theorem zhz {xs ys : Array Keyed} {lo hi k : Nat} (h : Off xs ys lo hi) (hk : k < lo ∨ hi ≤ k) : kAt κ ys k = kAt κ xs k := zbm (h.out k hk)
theorem zga {xs : Array Keyed} {i j : Nat} (hj : j ≤ xs.size) (he : ∀ k, i ≤ k → k < j → kAt κ xs k = kAt κ xs (j - 1)) (k : Nat) : kAt κ (mirror xs i j ((j - i) / 2)) k = kAt κ xs k := by
 by_cases hk : i ≤ k ∧ k < j
 ·rw [zeg hj hk, he _ (by omega) (by omega), he k hk.1 hk.2]
 ·exact zhz (zcL hj) (by omega)
theorem zfM {i j : Nat} {st : SortSt} {Q : Unit → SortSt → Prop} (h : Q () (setArr st (mirror (arrOf st) i j ((j - i) / 2)))) : wpS (model prog w) A E s (reverseSlice' i j) Q st := by
 rw [reverseSlice'_eq]
 exact wpS_modify h
theorem zcQ {σ : Type} {n : String} {Q : Unit → σ → Prop} {st : σ} (h : Q () st) : wpS (model prog w) A E s (liftM (rule n) : StateT σ Sem Unit) Q st := wpS_lift (wpAny_rule ⟨rfl, h⟩)
end
end Tim
namespace Tim
open PySem PyProof.Rows
set_option autoImplicit false
section
variable {prog : Program} {w : World} {A : Around} {E : Value → Shared → Prop} {s : Shared} {κ : KeyKind} {kd : SortKind}
def zhV (κ : KeyKind) (st : SortSt) (lo least nrem : Nat) (r : Option Nat) (st' : SortSt) : Prop :=
 ∃ n ys, r = some n ∧ least ≤ n ∧ n ≤ nrem ∧ st' = setArr st ys ∧ Off (arrOf st) ys lo (lo + n) ∧ Up κ ys lo (lo + n)
theorem znU {xs : Array Keyed} {lo : Nat} : Up κ xs lo (lo + 1) := fun i j h1 h2 h3 => by
 have : i = j := by omega
 subst this
 exact KeyOrd.kle_refl _
theorem Up.more {xs : Array Keyed} {lo hi : Nat} (h : Up κ xs lo hi) (hlo : lo < hi) (hn : κ.kle (kAt κ xs (hi - 1)) (kAt κ xs hi)) : Up κ xs lo (hi + 1) := fun i j h1 h2 h3 => by
 by_cases hj : j < hi
 ·exact h i j h1 h2 hj
 ·have e : j = hi := by omega
  subst e
  by_cases hi' : i = j
  ·subst hi'; exact KeyOrd.kle_refl _
  ·exact KeyOrd.kle_trans (h i (j - 1) h1 (by omega) (by omega)) hn
theorem Dn.more {xs : Array Keyed} {lo hi : Nat} (h : Dn κ xs lo hi) (hlo : lo < hi) (hn : κ.kle (kAt κ xs hi) (kAt κ xs (hi - 1))) : Dn κ xs lo (hi + 1) := fun i j h1 h2 h3 => by
 by_cases hj : j < hi
 ·exact h i j h1 h2 hj
 ·have e : j = hi := by omega
  subst e
  by_cases hi' : i = j
  ·subst hi'; exact KeyOrd.kle_refl _
  ·exact KeyOrd.kle_trans hn (h i (j - 1) h1 (by omega) (by omega))
theorem zml {st : SortSt} {N lo n nrem : Nat} {Q : Option (Option Nat) × Nat → SortSt → Prop} (hO : LtG prog w A s κ kd) (hB : TB κ kd N st) (hlo : lo + nrem ≤ N) (h1 : 1 ≤ n) (hn : n ≤ nrem) (hU : Up κ (arrOf st) lo (lo + n))
  (h : ∀ m, n ≤ m → m ≤ nrem → Up κ (arrOf st) lo (lo + m) → (m < nrem → κ.klt (kAt κ (arrOf st) (lo + m)) (kAt κ (arrOf st) (lo + m - 1))) → Q (none, m) st) :
  wpS (model prog w) A E s (forIn [n:nrem] ((none, n) : Option (Option Nat) × Nat) fun _ __s => do
   let __x ← ltAt' (lo + __s.snd) (lo + __s.snd - 1)
   match __x with
   | some smaller => if smaller = true then pure (ForInStep.done (none, __s.snd)) else pure (ForInStep.yield (none, __s.snd + 1))
   | _ => pure (ForInStep.done (some none, __s.snd))) Q st := by
 refine wpS_forRange (I := fun i c st' => st' = st ∧ c = (none, i) ∧ n ≤ i ∧ i ≤ nrem ∧ Up κ (arrOf st) lo (lo + i)) ?_ ?_ ⟨rfl, rfl, Nat.le_refl _, hn, hU⟩
 ·rintro i c st' hi1 hi2 ⟨rfl, rfl, h3, h4, hU'⟩
  refine wpS_bind (zgL hO hB (by omega) (by omega) ?_)
  dsimp only
  cases e : κ.blt (kAt κ (arrOf st') (lo + i)) (kAt κ (arrOf st') (lo + i - 1)) with
  | true => exact wpS_pure (h i h3 h4 hU' fun _ => e)
  | false => exact wpS_pure ⟨rfl, rfl, by omega, by omega, hU'.more (by omega) e⟩
 ·rintro c st' ⟨rfl, rfl, h3, h4, hU'⟩
  exact h _ h3 h4 hU' fun z => absurd z (by omega)
theorem zjA {st : SortSt} {N lo n nrem : Nat} {Q : Option Nat → SortSt → Prop} {k : Option (Option Nat) × Nat → StateT SortSt Sem (Option Nat)} (hk : ∀ m, k (none, m) = pure (some m)) (hO : LtG prog w A s κ kd) (hB : TB κ kd N st) (hlo : lo + nrem ≤ N) (h1 : 1 ≤ n) (hn : n ≤ nrem) (hD : Dn κ (arrOf st) lo (lo + n))
  (h : ∀ r st', zhV κ st lo n nrem r st' → Q r st') :
  wpS (model prog w) A E s (do
   reverseSlice' lo (lo + n)
   let c ← forIn [n:nrem] ((none, n) : Option (Option Nat) × Nat) fun _ __s => do
    let __x ← ltAt' (lo + __s.snd) (lo + __s.snd - 1)
    match __x with
    | some smaller => if smaller = true then pure (ForInStep.done (none, __s.snd)) else pure (ForInStep.yield (none, __s.snd + 1))
    | _ => pure (ForInStep.done (some none, __s.snd))
   k c) Q st := by
 have hz : lo + n ≤ (arrOf st).size := by rw [hB.size]; omega
 have hoff := zcL (xs := arrOf st) (i := lo) (j := lo + n) hz
 refine wpS_bind (zfM ?_)
 refine wpS_bind (zml hO (hB.off hoff) hlo h1 hn (fun i j q1 q2 q3 => ?_) fun m m1 m2 hU _ => ?_)
 ·rw [zeg hz (by omega), zeg hz (by omega)]
  exact hD _ _ (by omega) (by omega) (by omega)
 ·rw [hk]
  exact wpS_pure (h _ _ ⟨m, _, rfl, m1, m2, rfl, hoff.wide (Nat.le_refl _) (by omega), hU⟩)
theorem zjB {st : SortSt} {N lo n nrem : Nat} {Q : Option (Option Nat) × Nat × Nat → SortSt → Prop} (hO : LtG prog w A s κ kd) (hB : TB κ kd N st) (hlo : lo + nrem ≤ N) (h1 : 1 ≤ n) (hn : n ≤ nrem) (hD : Dn κ (arrOf st) lo (lo + n))
  (h : ∀ m neq ys, n ≤ m → m ≤ nrem → neq < m → Off (arrOf st) ys lo (lo + m) → Dn κ ys lo (lo + m) → (∀ k, lo + m - (neq + 1) ≤ k → k < lo + m → kAt κ ys k = kAt κ ys (lo + m - 1)) → Q (none, m, neq) (setArr st ys)) :
  wpS (model prog w) A E s (forIn [n:nrem] ((none, n, 0) : Option (Option Nat) × Nat × Nat) fun _ __s => do
   let __x ← ltAt' (lo + __s.snd.fst) (lo + __s.snd.fst - 1)
   match __x with
   | some smaller =>
    if smaller = true then
     if __s.snd.snd > 0 then do
      let _ ← reverseSlice' (lo + __s.snd.fst - (__s.snd.snd + 1)) (lo + __s.snd.fst)
      pure (ForInStep.yield (none, __s.snd.fst + 1, 0))
     else pure (ForInStep.yield (none, __s.snd.fst + 1, 0))
    else do
     let __x ← ltAt' (lo + __s.snd.fst - 1) (lo + __s.snd.fst)
     match __x with
     | some larger =>
      if larger = true then pure (ForInStep.done (none, __s.snd.fst, __s.snd.snd))
      else pure (ForInStep.yield (none, __s.snd.fst + 1, __s.snd.snd + 1))
     | _ => pure (ForInStep.done (some none, __s.snd.fst, __s.snd.snd))
   | _ => pure (ForInStep.done (some none, __s.snd.fst, __s.snd.snd))) Q st := by
 refine wpS_forRange (I := fun i c st' => ∃ neq ys, st' = setArr st ys ∧ c = (none, i, neq) ∧ n ≤ i ∧ i ≤ nrem ∧ neq < i ∧ Off (arrOf st) ys lo (lo + i) ∧ Dn κ ys lo (lo + i) ∧ ∀ k, lo + i - (neq + 1) ≤ k → k < lo + i → kAt κ ys k = kAt κ ys (lo + i - 1)) ?_ ?_ ⟨0, arrOf st, rfl, rfl, Nat.le_refl _, hn, h1, Off.refl _ _ _, hD, fun k q1 q2 => by rw [show k = lo + n - 1 by omega]⟩
 ·rintro i c st' hi1 hi2 ⟨neq, ys, rfl, rfl, h3, h4, h5, ho, hD', he⟩
  have hB' : TB κ kd N (setArr st ys) := hB.off ho
  have hz : lo + i ≤ ys.size := by rw [ho.size, hB.size]; omega
  dsimp only
  refine wpS_bind (zgL hO hB' (by omega) (by omega) ?_)
  dsimp only
  cases e : κ.blt (kAt κ ys (lo + i)) (kAt κ ys (lo + i - 1)) with
  | true =>
   simp only [if_true]
   by_cases hq : neq > 0
   ·rw [if_pos hq]
    have hoff := zcL (xs := ys) (i := lo + i - (neq + 1)) (j := lo + i) hz
    have hk := zga (κ := κ) hz he
    refine wpS_bind (zfM (wpS_pure ⟨0, _, rfl, rfl, by omega, by omega, by omega, ho.wide (Nat.le_refl _) (by omega) |>.trans (hoff.wide (by omega) (by omega)), ?_, fun k q1 q2 => by rw [show k = lo + (i + 1) - 1 by omega]⟩))
    have : Dn κ (mirror ys (lo + i - (neq + 1)) (lo + i) ((lo + i - (lo + i - (neq + 1))) / 2)) lo (lo + i) := fun a b q1 q2 q3 => by rw [hk, hk]; exact hD' a b q1 q2 q3
    exact this.more (by omega) (by rw [hk, hk]; exact KeyOrd.kle_of_klt e)
   ·rw [if_neg hq]
    exact wpS_pure ⟨0, ys, rfl, rfl, by omega, by omega, by omega, ho.wide (Nat.le_refl _) (by omega), hD'.more (by omega) (KeyOrd.kle_of_klt e), fun k q1 q2 => by rw [show k = lo + (i + 1) - 1 by omega]⟩
  | false =>
   simp only [Bool.false_eq_true, if_false]
   refine wpS_bind (zgL hO hB' (by omega) (by omega) ?_)
   dsimp only
   cases e2 : κ.blt (kAt κ ys (lo + i - 1)) (kAt κ ys (lo + i)) with
   | true => exact wpS_pure (h i neq ys h3 h4 h5 ho hD' he)
   | false =>
    have eq : kAt κ ys (lo + i) = kAt κ ys (lo + i - 1) := κ.total _ _ e e2
    refine wpS_pure ⟨neq + 1, ys, rfl, rfl, by omega, by omega, by omega, ho.wide (Nat.le_refl _) (by omega), hD'.more (by omega) (by rw [eq]; exact KeyOrd.kle_refl _), fun k q1 q2 => ?_⟩
    rw [show lo + (i + 1) - 1 = lo + i by omega, eq]
    by_cases hk : k = lo + i
    ·rw [hk]; exact eq
    ·exact he k (by omega) (by omega)
 ·rintro c st' ⟨neq, ys, rfl, rfl, h3, h4, h5, ho, hD', he⟩
  exact h _ neq ys h3 h4 h5 ho hD' he
theorem zhY {st : SortSt} {N lo n nrem m neq : Nat} {ys : Array Keyed} {Q : Option Nat → SortSt → Prop} {t : StateT SortSt Sem (Option Nat)} (hB : TB κ kd N st) (hlo : lo + nrem ≤ N) (m1 : n + 1 ≤ m) (m2 : m ≤ nrem) (m3 : neq < m)
  (ho : Off (arrOf st) ys lo (lo + m)) (hD : Dn κ ys lo (lo + m)) (he : ∀ k, lo + m - (neq + 1) ≤ k → k < lo + m → kAt κ ys k = kAt κ ys (lo + m - 1)) (h : ∀ r st', zhV κ st lo (n + 1) nrem r st' → Q r st')
  (ht : ∀ st', TB κ kd N st' → Dn κ (arrOf st') lo (lo + m) → (∀ r st'', zhV κ st' lo m nrem r st'' → Q r st'') → wpS (model prog w) A E s t Q st') :
  wpS (model prog w) A E s (if neq > 0 then do
   let _ ← reverseSlice' (lo + m - (neq + 1)) (lo + m)
   t else t) Q (setArr st ys) := by
 have hz : lo + m ≤ ys.size := by rw [ho.size, hB.size]; omega
 have back : ∀ zs, Off (arrOf st) zs lo (lo + m) → ∀ r st', zhV κ (setArr st zs) lo m nrem r st' → Q r st' := fun zs hz r st' hr => by
  obtain ⟨q, vs, e1, e2, e3, e4, e5, e6⟩ := hr
  exact h r st' ⟨q, vs, e1, by omega, e3, e4, (hz.wide (Nat.le_refl _) (by omega)).trans e5, e6⟩
 by_cases hq : neq > 0
 ·rw [if_pos hq]
  have hoff := zcL (xs := ys) (i := lo + m - (neq + 1)) (j := lo + m) hz
  have hk := zga (κ := κ) hz he
  have ho2 := ho.trans (hoff.wide (by omega) (Nat.le_refl _))
  refine wpS_bind (zfM ?_)
  refine ht _ (hB.off ho2) (fun a b q1 q2 q3 => ?_) (back _ ho2)
  show κ.kle (kAt κ (mirror ys (lo + m - (neq + 1)) (lo + m) ((lo + m - (lo + m - (neq + 1))) / 2)) b) (kAt κ (mirror ys (lo + m - (neq + 1)) (lo + m) ((lo + m - (lo + m - (neq + 1))) / 2)) a)
  rw [hk, hk]
  exact hD a b q1 q2 q3
 ·rw [if_neg hq]
  exact ht _ (hB.off ho) hD (back _ ho)
theorem zha {st : SortSt} {N lo nrem : Nat} {Q : Option Nat → SortSt → Prop} (hO : LtG prog w A s κ kd) (hB : TB κ kd N st) (hlo : lo + nrem ≤ N) (h1 : 1 ≤ nrem) (h : ∀ r st', zhV κ st lo 1 nrem r st' → Q r st') :
  wpS (model prog w) A E s (countRun' lo nrem) Q st := by
 rw [countRun'_eq]
 refine wpS_bind (zml hO hB hlo (Nat.le_refl 1) h1 znU fun m m1 m2 hU hnext => ?_)
 dsimp only
 by_cases hm : m = nrem
 ·rw [if_pos (by simpa using hm)]
  exact wpS_pure (h _ _ ⟨m, arrOf st, rfl, m1, m2, rfl, Off.refl _ _ _, hU⟩)
 ·rw [if_neg (by simpa using hm)]
  have hnx := hnext (by omega)
  by_cases hm1 : m > 1
  ·rw [if_pos hm1]
   refine wpS_bind (zgL hO hB (by omega) (by omega) ?_)
   cases e : κ.blt (kAt κ (arrOf st) lo) (kAt κ (arrOf st) (lo + m - 1)) with
   | true =>
    simp only [if_true]
    exact wpS_pure (h _ _ ⟨m, arrOf st, rfl, m1, m2, rfl, Off.refl _ _ _, hU⟩)
   | false =>
    simp only [Bool.false_eq_true, if_false]
    have hz : lo + m ≤ (arrOf st).size := by rw [hB.size]; omega
    have hoff := zcL (xs := arrOf st) (i := lo) (j := lo + m) hz
    have all : ∀ k, lo ≤ k → k < lo + m → kAt κ (arrOf st) k = kAt κ (arrOf st) (lo + m - 1) := fun k q1 q2 =>
     KeyOrd.kle_antisymm (hU k (lo + m - 1) q1 (by omega) (by omega)) (KeyOrd.kle_trans (show κ.kle (kAt κ (arrOf st) (lo + m - 1)) (kAt κ (arrOf st) lo) from e) (hU lo k (Nat.le_refl _) q1 q2))
    have hk := zga (κ := κ) hz all
    refine wpS_bind (zfM ?_)
    have fin : ∀ r st', zhV κ (setArr st (mirror (arrOf st) lo (lo + m) ((lo + m - lo) / 2))) lo (m + 1) nrem r st' → Q r st' := fun r st' hr => by
     obtain ⟨q, vs, e1, e2, e3, e4, e5, e6⟩ := hr
     exact h r st' ⟨q, vs, e1, by omega, e3, e4, (hoff.wide (Nat.le_refl _) (by omega)).trans e5, e6⟩
    refine wpS_bind (zcQ (wpS_bind (zjB hO (hB.off hoff) hlo (by omega) (by omega) ?_ fun m' neq ys p1 p2 p3 ho hD' he => ?_)))
    rotate_left
    ·dsimp only
     exact zhY (n := m) (hB.off hoff) hlo p1 p2 p3 ho hD' he fin fun st' hB' hDD hh => zjA (fun _ => rfl) hO hB' hlo (by omega) p2 hDD hh
    ·have d0 : Dn κ (arrOf st) lo (lo + m) := fun a b q1 q2 q3 => by rw [all a q1 (by omega), all b (by omega) q3]; exact KeyOrd.kle_refl _
     have d1 := d0.more (by omega) (KeyOrd.kle_of_klt hnx)
     intro a b q1 q2 q3
     show κ.kle (kAt κ (mirror (arrOf st) lo (lo + m) ((lo + m - lo) / 2)) b) (kAt κ (mirror (arrOf st) lo (lo + m) ((lo + m - lo) / 2)) a)
     rw [hk, hk]
     exact d1 a b q1 q2 (by omega)
  ·rw [if_neg hm1]
   have e1 : m = 1 := by omega
   subst e1
   have fin : ∀ r st', zhV κ st lo (1 + 1) nrem r st' → Q r st' := fun r st' hr => by
    obtain ⟨q, vs, e1, e2, e3, e4, e5, e6⟩ := hr
    exact h r st' ⟨q, vs, e1, by omega, e3, e4, e5, e6⟩
   refine wpS_bind (zcQ (wpS_bind (zjB hO hB hlo (by omega) (by omega) ?_ fun m' neq ys p1 p2 p3 ho hD' he => ?_)))
   rotate_left
   ·dsimp only
    exact zhY (n := 1) hB hlo p1 p2 p3 ho hD' he fin fun st' hB' hDD hh => zjA (fun _ => rfl) hO hB' hlo (by omega) p2 hDD hh
   ·intro a b q1 q2 q3
    by_cases hab : a = b
    ·subst hab; exact KeyOrd.kle_refl _
    ·have ea : a = lo + 1 - 1 := by omega
     have eb : b = lo + 1 := by omega
     rw [ea, eb]
     exact KeyOrd.kle_of_klt hnx
end
end Tim
namespace Tim
open PySem PyProof.Rows
set_option autoImplicit false
section
variable {prog : Program} {w : World} {A : Around} {E : Value → Shared → Prop} {s : Shared} {κ : KeyKind} {kd : SortKind}
theorem zi8 {xs : Array Keyed} {src dst hi : Nat} (hs : src < xs.size) (hd : dst ≤ src) (hh : src < hi) : Off xs (bubble xs src (src - dst)) dst hi :=
 ⟨bubble_perm _ _ _, fun k hk => by
  rw [getElem?_bubble hs _ (by omega)]
  rw [if_neg (by omega), if_neg (by omega)]⟩
theorem zfx {xs : Array Keyed} {src dst : Nat} (hs : src < xs.size) (hd : dst ≤ src) (k : Nat) : kAt κ (bubble xs src (src - dst)) k = if k = dst then kAt κ xs src else if dst < k ∧ k ≤ src then kAt κ xs (k - 1) else kAt κ xs k := by
 have e := getElem?_bubble hs (src - dst) (by omega) k
 rw [show src - (src - dst) = dst by omega] at e
 by_cases h1 : k = dst
 ·rw [if_pos h1] at e ⊢; exact zbm e
 ·rw [if_neg h1] at e ⊢
  by_cases h2 : dst < k ∧ k ≤ src
  ·rw [if_pos h2] at e ⊢; exact zbm e
  ·rw [if_neg h2] at e ⊢; exact zbm e
theorem zfL {st : SortSt} {N lo n ok : Nat} {Q : Bool → SortSt → Prop} (hO : LtG prog w A s κ kd) (hB : TB κ kd N st) (hlo : lo + n ≤ N) (hok : ok ≤ n) (hU : Up κ (arrOf st) lo (lo + ok))
  (h : ∀ ys, Off (arrOf st) ys lo (lo + n) → Up κ ys lo (lo + n) → Q true (setArr st ys)) : wpS (model prog w) A E s (binarySort' lo n ok) Q st := by
 rw [binarySort'_eq]
 refine wpS_bind (wpS_mono (wpS_forRange (I := fun k c st' => c = (none, ()) ∧ ∃ ys, st' = setArr st ys ∧ Off (arrOf st) ys lo (lo + n) ∧ Up κ ys lo (lo + min k n))
  (Q := fun c st' => c = (none, ()) ∧ ∃ ys, st' = setArr st ys ∧ Off (arrOf st) ys lo (lo + n) ∧ Up κ ys lo (lo + n)) ?step ?fin ?init) ?post)
 case post =>
  rintro c st' ⟨rfl, ys, rfl, ho, hu⟩
  exact wpS_pure (h ys ho hu)
 case init =>
  refine ⟨rfl, arrOf st, rfl, Off.refl _ _ _, fun i j h1 h2 h3 => ?_⟩
  by_cases hz : j < lo + ok
  ·exact hU i j h1 h2 hz
  ·have : i = j := by omega
   subst this
   exact KeyOrd.kle_refl _
 case fin =>
  rintro c st' ⟨rfl, ys, rfl, ho, hu⟩
  refine ⟨rfl, ys, rfl, ho, ?_⟩
  rwa [show min (max (max ok 1) n) n = n by omega] at hu
 case step =>
  rintro k c st' hk1 hk2 ⟨rfl, ys, rfl, ho, hu⟩
  rw [show min k n = k by omega] at hu
  have hB' : TB κ kd N (setArr st ys) := hB.off ho
  have hz : ys.size = N := by rw [ho.size, hB.size]
  refine wpS_bind (wpS_mono (wpS_forRange (I := fun x c st'' => st'' = setArr st ys ∧ ∃ l r, c = (none, l, r) ∧ l ≤ r ∧ r ≤ k ∧ r - l ≤ k - x ∧
    (∀ i, i < l → κ.kle (kAt κ ys (lo + i)) (kAt κ ys (lo + k))) ∧ (∀ i, r ≤ i → i < k → κ.klt (kAt κ ys (lo + k)) (kAt κ ys (lo + i))))
   (Q := fun c st'' => st'' = setArr st ys ∧ ∃ l r, c = (none, l, r) ∧ l ≤ k ∧
    (∀ i, i < l → κ.kle (kAt κ ys (lo + i)) (kAt κ ys (lo + k))) ∧ (∀ i, l ≤ i → i < k → κ.klt (kAt κ ys (lo + k)) (kAt κ ys (lo + i)))) ?istep ?ifin ?iinit) ?ipost)
  case iinit => exact ⟨rfl, 0, k, rfl, by omega, by omega, by omega, fun i hi => by omega, fun i h1 h2 => by omega⟩
  case ifin =>
   rintro c st'' ⟨rfl, l, r, rfl, hlr, hrk, hm, a1, a2⟩
   have : l = r := by omega
   subst this
   exact ⟨rfl, l, l, rfl, hrk, a1, a2⟩
  case istep =>
   rintro x c st'' _ hxk ⟨rfl, l, r, rfl, hlr, hrk, hm, a1, a2⟩
   dsimp only
   by_cases hge : l ≥ r
   ·rw [if_pos hge]
    have : l = r := by omega
    subst this
    exact wpS_pure ⟨rfl, l, l, rfl, hrk, a1, a2⟩
   ·rw [if_neg hge]
    refine wpS_bind (zgL hO hB' (by omega) (by omega) ?_)
    dsimp only
    cases e : κ.blt (kAt κ ys (lo + k)) (kAt κ ys (lo + (l + r) / 2)) with
    | true =>
     refine wpS_pure ⟨rfl, l, (l + r) / 2, rfl, by omega, by omega, by omega, a1, fun i h1 h2 => ?_⟩
     exact KeyOrd.klt_of_klt_of_kle e (hu _ _ (by omega) (by omega) (by omega))
    | false =>
     refine wpS_pure ⟨rfl, (l + r) / 2 + 1, r, rfl, by omega, by omega, by omega, fun i h1 => ?_, a2⟩
     exact KeyOrd.kle_trans (hu (lo + i) (lo + (l + r) / 2) (by omega) (by omega) (by omega)) (show κ.kle (kAt κ ys (lo + (l + r) / 2)) (kAt κ ys (lo + k)) from e)
  case ipost =>
   rintro c st'' ⟨rfl, l, r, rfl, hlk, a1, a2⟩
   dsimp only
   rw [moveDown'_eq]
   refine wpS_bind (wpS_modify (wpS_pure ⟨rfl, _, rfl, ho.trans ((zi8 (hi := lo + n) (by rw [hz]; omega) (by omega) (by omega)).wide (by omega) (Nat.le_refl _)), ?_⟩))
   rw [show min (k + 1) n = k + 1 by omega]
   intro i j h1 h2 h3
   show κ.kle (kAt κ (bubble ys (lo + k) (lo + k - (lo + l))) i) (kAt κ (bubble ys (lo + k) (lo + k - (lo + l))) j)
   rw [zfx (by rw [hz]; omega) (by omega), zfx (by rw [hz]; omega) (by omega)]
   have lowS : ∀ i, lo ≤ i → i < lo + l → κ.kle (kAt κ ys i) (kAt κ ys (lo + k)) := fun i q1 q2 => by
    have := a1 (i - lo) (by omega)
    rw [show lo + (i - lo) = i by omega] at this
    exact this
   have highS : ∀ i, lo + l ≤ i → i < lo + k → κ.kle (kAt κ ys (lo + k)) (kAt κ ys i) := fun i q1 q2 => by
    have := a2 (i - lo) (by omega) (by omega)
    rw [show lo + (i - lo) = i by omega] at this
    exact KeyOrd.kle_of_klt this
   by_cases i1 : i = lo + l
   ·rw [if_pos i1]
    by_cases j1 : j = lo + l
    ·rw [if_pos j1]; exact KeyOrd.kle_refl _
    ·rw [if_neg j1, if_pos (by omega)]
     exact highS _ (by omega) (by omega)
   ·rw [if_neg i1]
    by_cases i2 : lo + l < i ∧ i ≤ lo + k
    ·rw [if_pos i2, if_neg (by omega), if_pos (by omega)]
     exact hu _ _ (by omega) (by omega) (by omega)
    ·rw [if_neg i2]
     by_cases j1 : j = lo + l
     ·rw [if_pos j1]
      exact lowS i h1 (by omega)
     ·rw [if_neg j1]
      by_cases j2 : lo + l < j ∧ j ≤ lo + k
      ·rw [if_pos j2]
       exact hu _ _ h1 (by omega) (by omega)
      ·rw [if_neg j2]
       exact hu _ _ h1 h2 (by omega)
end
end Tim
namespace Tim
open PySem PyProof.Rows
set_option autoImplicit false
section
variable {M : Model} {A : Around} {E : Value → Shared → Prop} {s : Shared} {st : SortSt} {n hint : Nat} {p : Nat → Bool}
abbrev C2 := Option (Option Nat) × Nat × Nat
theorem zlp {Q : C2 → SortSt → Prop} {f : Nat → C2 → StateT SortSt Sem (ForInStep C2)} (hn : hint < n) (hp : p hint = true)
  (f1 : ∀ x l o, o ≥ n - hint → f x (none, l, o) = pure (.done (none, l, o)))
  (f2 : ∀ x l o (R : ForInStep C2 → SortSt → Prop), o < n - hint → (p (hint + o) = true → R (.yield (none, o, 2 * o + 1)) st) → (p (hint + o) = false → R (.done (none, l, o)) st) → wpS M A E s (f x (none, l, o)) R st)
  (h : ∀ l o, l < o → hint + l < n → p (hint + l) = true → (o < n - hint → p (hint + o) = false) → Q (none, l, o) st) : wpS M A E s (forIn [:n] ((none, 0, 1) : C2) f) Q st := by
 refine wpS_forRange (I := fun i c st' => st' = st ∧ ∃ l o, c = (none, l, o) ∧ l < o ∧ i + 1 ≤ o ∧ hint + l < n ∧ p (hint + l) = true) ?_ ?_ ⟨rfl, 0, 1, rfl, by omega, by omega, by omega, hp⟩
 ·rintro i c st' _ hi ⟨rfl, l, o, rfl, h1, h2, h3, h4⟩
  by_cases ho : o ≥ n - hint
  ·rw [f1 i l o ho]
   exact wpS_pure (h l o h1 h3 h4 fun z => absurd z (by omega))
  ·refine f2 i l o _ (by omega) (fun e => ?_) fun e => ?_
   ·exact ⟨rfl, o, 2 * o + 1, rfl, by omega, by omega, by omega, e⟩
   ·exact h l o h1 h3 h4 fun _ => e
 ·rintro c st' ⟨rfl, l, o, rfl, h1, h2, h3, h4⟩
  exact h l o h1 h3 h4 fun z => absurd z (by omega)
theorem zmS {Q : C2 → SortSt → Prop} {f : Nat → C2 → StateT SortSt Sem (ForInStep C2)} (hn : hint < n) (hp : p hint = false)
  (f1 : ∀ x l o, o ≥ hint + 1 → f x (none, l, o) = pure (.done (none, l, o)))
  (f2 : ∀ x l o (R : ForInStep C2 → SortSt → Prop), o < hint + 1 → (p (hint - o) = false → R (.yield (none, o, 2 * o + 1)) st) → (p (hint - o) = true → R (.done (none, l, o)) st) → wpS M A E s (f x (none, l, o)) R st)
  (h : ∀ l o, l < o → l ≤ hint → p (hint - l) = false → (o < hint + 1 → p (hint - o) = true) → Q (none, l, o) st) : wpS M A E s (forIn [:n] ((none, 0, 1) : C2) f) Q st := by
 refine wpS_forRange (I := fun i c st' => st' = st ∧ ∃ l o, c = (none, l, o) ∧ l < o ∧ i + 1 ≤ o ∧ l ≤ hint ∧ p (hint - l) = false) ?_ ?_ ⟨rfl, 0, 1, rfl, by omega, by omega, by omega, hp⟩
 ·rintro i c st' _ hi ⟨rfl, l, o, rfl, h1, h2, h3, h4⟩
  by_cases ho : o ≥ hint + 1
  ·rw [f1 i l o ho]
   exact wpS_pure (h l o h1 h3 h4 fun z => absurd z (by omega))
  ·refine f2 i l o _ (by omega) (fun e => ?_) fun e => ?_
   ·exact ⟨rfl, o, 2 * o + 1, rfl, by omega, by omega, by omega, e⟩
   ·exact h l o h1 h3 h4 fun _ => e
 ·rintro c st' ⟨rfl, l, o, rfl, h1, h2, h3, h4⟩
  exact h l o h1 h3 h4 fun z => absurd z (by omega)
theorem zhX {Q : Option Nat → SortSt → Prop} {lo hi : Nat} {f : Nat → C2 → StateT SortSt Sem (ForInStep C2)} {k : C2 → StateT SortSt Sem (Option Nat)}
  (anti : ∀ i j, i ≤ j → j < n → p j = true → p i = true) (h1 : lo ≤ hi) (h2 : hi ≤ n) (hl : ∀ i, i < lo → p i = true) (hh : ∀ i, hi ≤ i → i < n → p i = false)
  (f1 : ∀ x l r, l ≥ r → f x (none, l, r) = pure (.done (none, l, r)))
  (f2 : ∀ x l r (R : ForInStep C2 → SortSt → Prop), l < r → r ≤ n → (p (l + (r - l) / 2) = true → R (.yield (none, l + (r - l) / 2 + 1, r)) st) → (p (l + (r - l) / 2) = false → R (.yield (none, l, l + (r - l) / 2)) st) → wpS M A E s (f x (none, l, r)) R st)
  (hk : ∀ l r, k (none, l, r) = pure (some r))
  (h : ∀ m, m ≤ n → (∀ i, i < m → p i = true) → (∀ i, m ≤ i → i < n → p i = false) → Q (some m) st) : wpS M A E s (do let c ← forIn [:n] ((none, lo, hi) : C2) f; k c) Q st := by
 refine wpS_bind (wpS_mono (wpS_forRange (I := fun x c st' => st' = st ∧ ∃ l r, c = (none, l, r) ∧ l ≤ r ∧ r ≤ n ∧ r - l ≤ n - x ∧ (∀ i, i < l → p i = true) ∧ ∀ i, r ≤ i → i < n → p i = false)
  (Q := fun c st' => st' = st ∧ ∃ m, c = (none, m, m) ∧ m ≤ n ∧ (∀ i, i < m → p i = true) ∧ ∀ i, m ≤ i → i < n → p i = false) ?_ ?_ ⟨rfl, lo, hi, rfl, h1, h2, by omega, hl, hh⟩) ?_)
 ·rintro x c st' _ hx ⟨rfl, l, r, rfl, a1, a2, a3, a4, a5⟩
  by_cases hge : l ≥ r
  ·rw [f1 x l r hge]
   have : l = r := by omega
   subst this
   exact wpS_pure ⟨rfl, l, rfl, a2, a4, a5⟩
  ·refine f2 x l r _ (by omega) a2 (fun e => ?_) fun e => ?_
   ·exact ⟨rfl, _, r, rfl, by omega, a2, by omega, fun i hi => anti i _ (by omega) (by omega) e, a5⟩
   ·refine ⟨rfl, l, _, rfl, by omega, by omega, by omega, a4, fun i q1 q2 => ?_⟩
    cases z : p i with
    | false => rfl
    | true => rw [anti _ i q1 q2 z] at e; cases e
 ·rintro c st' ⟨rfl, l, r, rfl, a1, a2, a3, a4, a5⟩
  have : l = r := by omega
  subst this
  exact ⟨rfl, l, rfl, a2, a4, a5⟩
 ·rintro c st' ⟨rfl, m, rfl, a2, a4, a5⟩
  rw [hk]
  exact wpS_pure (h m a2 a4 a5)
end
def zhD : Bool → Keyed → Array Keyed → Nat → Nat → Nat → StateT SortSt Sem (Option Nat) := sortPriv% PySem.Builtin.gallop
section
variable {prog : Program} {w : World} {A : Around} {E : Value → Shared → Prop} {s : Shared} {κ : KeyKind} {kd : SortKind}
def bey (κ : KeyKind) (left : Bool) (key : Keyed) (arr : Array Keyed) (base i : Nat) : Bool := if left = true then κ.blt (kAt κ arr (base + i)) (ky κ key) else !κ.blt (ky κ key) (kAt κ arr (base + i))
theorem zbR {st : SortSt} {left : Bool} {key : Keyed} {arr : Array Keyed} {base n hint : Nat} {Q : Option Nat → SortSt → Prop} (hO : LtG prog w A s κ kd) (hkd : kindOf st = kd) (hkey : Keyd κ key) (hks : ∀ q ∈ arr.toList, Keyd κ q)
  (hz : base + n ≤ arr.size) (hn : hint < n) (hU : Up κ arr base (base + n))
  (h : ∀ m, m ≤ n → (∀ i, i < m → bey κ left key arr base i = true) → (∀ i, m ≤ i → i < n → bey κ left key arr base i = false) → Q (some m) st) : wpS (model prog w) A E s (zhD left key arr base n hint) Q st := by
 have anti : ∀ i j, i ≤ j → j < n → bey κ left key arr base j = true → bey κ left key arr base i = true := by
  intro i j hij hj
  have hle := hU (base + i) (base + j) (by omega) (by omega) (by omega)
  unfold bey
  cases left with
  | true =>
   simp only [if_true]
   intro e
   exact KeyOrd.klt_of_kle_of_klt hle e
  | false =>
   simp only [Bool.false_eq_true, if_false]
   intro e
   cases z : κ.blt (ky κ key) (kAt κ arr (base + i)) with
   | false => rfl
   | true =>
    have : κ.blt (ky κ key) (kAt κ arr (base + j)) = true := KeyOrd.klt_of_klt_of_kle z hle
    rw [this] at e
    cases e
 have hb : ∀ i (R : Option Bool → SortSt → Prop), i < n → R (some (bey κ left key arr base i)) st → wpS (model prog w) A E s (do
   let x ← elem' arr (base + i)
   if left = true then lt' x key else do
    let r ← lt' key x
    pure (Option.map (fun b => !b) r)) R st := fun i R hi hR => by
  have hi' : base + i < arr.size := by omega
  refine wpS_bind (zaH hi' ?_)
  have hkx : Keyd κ arr[base + i] := hks _ (by simp)
  unfold bey at hR
  rw [za1 hi'] at hR
  cases left with
  | true =>
   rw [if_pos rfl] at hR ⊢
   exact lt_G hO hkd hkx hkey hR
  | false =>
   rw [if_neg (by decide)] at hR ⊢
   exact wpS_bind (lt_G hO hkd hkey hkx (wpS_pure hR))
 refine wpS_bind (hb hint _ hn ?_)
 dsimp only
 generalize bey κ left key arr base = p at *
 cases e0 : p hint with
 | true =>
  simp only [if_true]
  refine wpS_bind (zlp (p := p) hn e0 (fun x l o ho => ?_) (fun x l o R ho r1 r2 => ?_) fun l o a1 a2 a3 a4 => ?_)
  ·dsimp only
   rw [if_pos ho]
  ·dsimp only
   rw [if_neg (by omega)]
   refine wpS_bind (hb (hint + o) _ (by omega) ?_)
   dsimp only
   cases e : p (hint + o) with
   | true => exact wpS_pure (r1 e)
   | false => exact wpS_pure (r2 e)
  ·dsimp only
   refine zhX (p := p) anti (by omega) (by omega) (fun i hi => anti i (hint + l) (by omega) a2 a3) (fun i q1 q2 => ?_) (fun x l r hge => ?_) (fun x l r R q1 q2 r1 r2 => ?_) (fun _ _ => rfl) h
   ·by_cases ho : o < n - hint
    ·cases z : p i with
     | false => rfl
     | true =>
      have := anti (hint + o) i (by omega) q2 z
      rw [a4 ho] at this
      cases this
    ·exact absurd q2 (by omega)
   ·dsimp only
    rw [if_pos hge]
   ·dsimp only
    rw [if_neg (by omega)]
    refine wpS_bind (hb _ _ (by omega) ?_)
    dsimp only
    cases e : p (l + (r - l) / 2) with
    | true => exact wpS_pure (r1 e)
    | false => exact wpS_pure (r2 e)
 | false =>
  simp only [Bool.false_eq_true, if_false]
  refine wpS_bind (zmS (p := p) hn e0 (fun x l o ho => ?_) (fun x l o R ho r1 r2 => ?_) fun l o a1 a2 a3 a4 => ?_)
  ·dsimp only
   rw [if_pos ho]
  ·dsimp only
   rw [if_neg (by omega)]
   refine wpS_bind (hb (hint - o) _ (by omega) ?_)
   dsimp only
   cases e : p (hint - o) with
   | true => exact wpS_pure (r2 e)
   | false => exact wpS_pure (r1 e)
  ·dsimp only
   refine zhX (p := p) anti (by omega) (by omega) (fun i hi => ?_) (fun i q1 q2 => ?_) (fun x l r hge => ?_) (fun x l r R q1 q2 r1 r2 => ?_) (fun _ _ => rfl) h
   ·by_cases ho : o < hint + 1
    ·exact anti i (hint - o) (by omega) (by omega) (a4 ho)
    ·exact absurd hi (by omega)
   ·cases z : p i with
    | false => rfl
    | true =>
     have := anti (hint - l) i (by omega) q2 z
     rw [a3] at this
     cases this
   ·dsimp only
    rw [if_pos hge]
   ·dsimp only
    rw [if_neg (by omega)]
    refine wpS_bind (hb _ _ (by omega) ?_)
    dsimp only
    cases e : p (l + (r - l) / 2) with
    | true => exact wpS_pure (r1 e)
    | false => exact wpS_pure (r2 e)
end
end Tim
namespace Tim
open PySem PyProof.Rows
set_option autoImplicit false
section
variable {κ : KeyKind}
def le (κ : KeyKind) (x y : Keyed) : Prop := κ.kle (ky κ x) (ky κ y)
theorem le_refl (x : Keyed) : le κ x x := KeyOrd.kle_refl _
theorem le_trans {x y z : Keyed} (h1 : le κ x y) (h2 : le κ y z) : le κ x z := KeyOrd.kle_trans h1 h2
abbrev SL (κ : KeyKind) (l : List Keyed) : Prop := l.Pairwise (le κ)
theorem SL.drop {l : List Keyed} (h : SL κ l) (n : Nat) : SL κ (l.drop n) := h.sublist (List.drop_sublist n l)
theorem SL.take {l : List Keyed} (h : SL κ l) (n : Nat) : SL κ (l.take n) := h.sublist (List.take_sublist n l)
theorem zd2 {xs : Array Keyed} {i : Nat} (h : i < xs.size) : xs.toList.drop i = xs[i] :: xs.toList.drop (i + 1) := by
 have h' : i < xs.toList.length := by simpa using h
 rw [List.drop_eq_getElem_cons h']
 simp
theorem zco {xs : Array Keyed} {i : Nat} (hs : SL κ xs.toList) (h : i < xs.size) : ∀ y ∈ xs.toList.drop i, le κ xs[i] y := by
 intro y hy
 have q := hs.drop i
 rw [zd2 h] at q hy
 rcases List.mem_cons.mp hy with rfl | hy
 ·exact le_refl _
 ·exact (List.pairwise_cons.mp q).1 y hy
theorem zcR {xs : Array Keyed} {i k : Nat} {x : Keyed} (h : x ∈ (xs.toList.drop i).take k) : ∃ j, j < k ∧ i + j < xs.size ∧ xs[i + j]? = some x := by
 obtain ⟨j, hj, e⟩ := List.mem_iff_getElem.mp h
 have hj' := hj
 rw [List.length_take, List.length_drop, Array.length_toList] at hj'
 refine ⟨j, by omega, by omega, ?_⟩
 rw [List.getElem_take, List.getElem_drop] at e
 rw [Array.getElem?_eq_getElem (by omega)]
 simpa using e
theorem zb4 {xs : Array Keyed} {i : Nat} {x : Keyed} (h : xs[i]? = some x) : kAt κ xs i = ky κ x := by
 unfold kAt
 rw [h]
theorem zd7 {xs : Array Keyed} (hs : SL κ xs.toList) (lo hi : Nat) (hh : hi ≤ xs.size) : Up κ xs lo hi := by
 intro i j h1 h2 h3
 have hj : j < xs.size := by omega
 have hi : i < xs.size := by omega
 rw [za1 hi, za1 hj]
 refine zco hs hi _ ?_
 rw [List.mem_iff_getElem]
 refine ⟨j - i, by rw [List.length_drop, Array.length_toList]; omega, ?_⟩
 rw [List.getElem_drop]
 simp [show i + (j - i) = j by omega]
theorem zns {xs : Array Keyed} (h : Up κ xs 0 xs.size) : SL κ xs.toList := by
 rw [SL, List.pairwise_iff_getElem]
 intro i j hi hj hij
 have hi' : i < xs.size := by simpa using hi
 have hj' : j < xs.size := by simpa using hj
 have := h i j (Nat.zero_le _) (by omega) hj'
 rw [za1 hi', za1 hj'] at this
 simpa [le] using this
structure MI (κ : KeyKind) (a b : Array Keyed) (out : Array Keyed) (ia ib : Nat) : Prop where
 perm : (out.toList ++ (a.toList.drop ia ++ b.toList.drop ib)).Perm (a.toList ++ b.toList)
 srt : SL κ out.toList
 low : ∀ x ∈ out.toList, ∀ y ∈ a.toList.drop ia ++ b.toList.drop ib, le κ x y
variable {a b out : Array Keyed} {ia ib : Nat}
theorem MI.goA {out' : Array Keyed} {k : Nat} (h : MI κ a b out ia ib) (sa : SL κ a.toList) (ho : out'.toList = out.toList ++ (a.toList.drop ia).take k) (hle : ∀ x ∈ (a.toList.drop ia).take k, ∀ y ∈ b.toList.drop ib, le κ x y) : MI κ a b out' (ia + k) ib := by
 have e : a.toList.drop ia = (a.toList.drop ia).take k ++ a.toList.drop (ia + k) := by
  rw [← List.drop_drop, List.take_append_drop]
 have s1 := sa.drop ia
 rw [e] at s1
 obtain ⟨p1, p2, p3⟩ := List.pairwise_append.mp s1
 refine ⟨?_, ?_, ?_⟩
 ·have q := h.perm
  rw [e] at q
  rw [ho]
  simpa [List.append_assoc] using q
 ·rw [ho]
  exact List.pairwise_append.mpr ⟨h.srt, p1, fun x hx y hy => h.low x hx y (List.mem_append_left _ (List.mem_of_mem_take hy))⟩
 ·intro x hx y hy
  rw [ho] at hx
  rcases List.mem_append.mp hx with hx | hx
  ·refine h.low x hx y ?_
   rcases List.mem_append.mp hy with hy | hy
   ·refine List.mem_append_left _ ?_
    rw [e]
    exact List.mem_append_right _ hy
   ·exact List.mem_append_right _ hy
  ·rcases List.mem_append.mp hy with hy | hy
   ·exact p3 x hx y hy
   ·exact hle x hx y hy
theorem MI.goB {out' : Array Keyed} {k : Nat} (h : MI κ a b out ia ib) (sb : SL κ b.toList) (ho : out'.toList = out.toList ++ (b.toList.drop ib).take k) (hle : ∀ x ∈ (b.toList.drop ib).take k, ∀ y ∈ a.toList.drop ia, le κ x y) : MI κ a b out' ia (ib + k) := by
 have e : b.toList.drop ib = (b.toList.drop ib).take k ++ b.toList.drop (ib + k) := by
  rw [← List.drop_drop, List.take_append_drop]
 have s1 := sb.drop ib
 rw [e] at s1
 obtain ⟨p1, p2, p3⟩ := List.pairwise_append.mp s1
 refine ⟨?_, ?_, ?_⟩
 ·have q := h.perm
  rw [e] at q
  rw [ho]
  refine List.Perm.trans ?_ q
  rw [List.append_assoc]
  refine List.Perm.append_left _ ?_
  rw [← List.append_assoc, ← List.append_assoc]
  exact List.Perm.append_right _ List.perm_append_comm
 ·rw [ho]
  exact List.pairwise_append.mpr ⟨h.srt, p1, fun x hx y hy => h.low x hx y (List.mem_append_right _ (List.mem_of_mem_take hy))⟩
 ·intro x hx y hy
  rw [ho] at hx
  rcases List.mem_append.mp hx with hx | hx
  ·refine h.low x hx y ?_
   rcases List.mem_append.mp hy with hy | hy
   ·exact List.mem_append_left _ hy
   ·refine List.mem_append_right _ ?_
    rw [e]
    exact List.mem_append_right _ hy
  ·rcases List.mem_append.mp hy with hy | hy
   ·exact hle x hx y hy
   ·exact p3 x hx y hy
theorem zdO {xs : Array Keyed} {i : Nat} (h : i < xs.size) : (xs.toList.drop i).take 1 = [xs[i]] := by
 rw [zd2 h]
 rfl
theorem MI.pa (h : MI κ a b out ia ib) (sa : SL κ a.toList) (hia : ia < a.size) (hle : ∀ y ∈ b.toList.drop ib, le κ a[ia] y) : MI κ a b (out.push a[ia]) (ia + 1) ib :=
 h.goA (k := 1) sa (by rw [zdO hia, Array.toList_push]) (by
  rw [zdO hia]
  intro x hx
  rw [List.mem_singleton.mp hx]
  exact hle)
theorem MI.pb (h : MI κ a b out ia ib) (sb : SL κ b.toList) (hib : ib < b.size) (hle : ∀ y ∈ a.toList.drop ia, le κ b[ib] y) : MI κ a b (out.push b[ib]) ia (ib + 1) :=
 h.goB (k := 1) sb (by rw [zdO hib, Array.toList_push]) (by
  rw [zdO hib]
  intro x hx
  rw [List.mem_singleton.mp hx]
  exact hle)
structure zbV (κ : KeyKind) (a b m : Array Keyed) : Prop where
 perm : m.toList.Perm (a.toList ++ b.toList)
 srt : SL κ m.toList
theorem zds {xs : Array Keyed} {i k : Nat} : (xs.extract i (i + k)).toList = (xs.toList.drop i).take k := by
 rw [Array.toList_extract, List.extract_eq_take_drop, Nat.add_sub_cancel_left]
theorem zei {xs : Array Keyed} {i : Nat} : (xs.extract i xs.size).toList = xs.toList.drop i := by
 rw [Array.toList_extract, List.extract_eq_take_drop]
 exact List.take_of_length_le (by rw [List.length_drop, Array.length_toList]; exact Nat.le_refl _)
theorem MI.done (h : MI κ a b out ia ib) (sa : SL κ a.toList) (hib : b.size ≤ ib) : zbV κ a b (out ++ a.extract ia a.size ++ b.extract ib b.size) := by
 have e : b.toList.drop ib = [] := List.drop_eq_nil_of_le (by rw [Array.length_toList]; exact hib)
 have e2 : (out ++ a.extract ia a.size ++ b.extract ib b.size).toList = out.toList ++ (a.toList.drop ia ++ b.toList.drop ib) := by
  rw [Array.toList_append, Array.toList_append, zei, zei, List.append_assoc]
 refine ⟨by rw [e2]; exact h.perm, ?_⟩
 rw [e2, e, List.append_nil]
 refine List.pairwise_append.mpr ⟨h.srt, sa.drop ia, fun x hx y hy => h.low x hx y (List.mem_append_left _ hy)⟩
theorem MI.doneA (h : MI κ a b out ia ib) (sb : SL κ b.toList) (hia : a.size ≤ ia) : zbV κ a b (out ++ a.extract ia a.size ++ b.extract ib b.size) := by
 have e : a.toList.drop ia = [] := List.drop_eq_nil_of_le (by rw [Array.length_toList]; exact hia)
 have e2 : (out ++ a.extract ia a.size ++ b.extract ib b.size).toList = out.toList ++ (a.toList.drop ia ++ b.toList.drop ib) := by
  rw [Array.toList_append, Array.toList_append, zei, zei, List.append_assoc]
 refine ⟨by rw [e2]; exact h.perm, ?_⟩
 rw [e2, e, List.nil_append]
 refine List.pairwise_append.mpr ⟨h.srt, sb.drop ib, fun x hx y hy => h.low x hx y (List.mem_append_right _ hy)⟩
theorem MI.last (h : MI κ a b out ia ib) (sa : SL κ a.toList) (sb : SL κ b.toList) (hl : ∀ y ∈ b.toList, ∀ x ∈ a.toList.drop ia, le κ y x) : zbV κ a b (out ++ b.extract ib b.size ++ a.extract ia a.size) := by
 have e2 : (out ++ b.extract ib b.size ++ a.extract ia a.size).toList = out.toList ++ (b.toList.drop ib ++ a.toList.drop ia) := by
  rw [Array.toList_append, Array.toList_append, zei, zei, List.append_assoc]
 refine ⟨?_, ?_⟩
 ·rw [e2]
  exact (List.Perm.append_left _ List.perm_append_comm).trans h.perm
 ·rw [e2]
  refine List.pairwise_append.mpr ⟨h.srt, List.pairwise_append.mpr ⟨sb.drop ib, sa.drop ia, fun x hx y hy => hl x (List.mem_of_mem_drop hx) y hy⟩, fun x hx y hy => h.low x hx y ?_⟩
  rcases List.mem_append.mp hy with q | q
  ·exact List.mem_append_right _ q
  ·exact List.mem_append_left _ q
end
end Tim
namespace Tim
open PySem PyProof.Rows
set_option autoImplicit false
def zik : Array Keyed → Array Keyed → StateT SortSt Sem (Array Keyed) := sortPriv% PySem.Builtin.mergeLo
def ziX : Nat → StateT SortSt Sem Unit := sortPriv% PySem.Builtin.setMinGallop
structure SG (st st' : SortSt) : Prop where
 kind : kindOf st' = kindOf st
 arr : arrOf st' = arrOf st
 pend : pendingOf st' = pendingOf st
 failed : failedOf st' = failedOf st
theorem SG.refl (st : SortSt) : SG st st := ⟨rfl, rfl, rfl, rfl⟩
theorem SG.trans {s1 s2 s3 : SortSt} (h : SG s1 s2) (g : SG s2 s3) : SG s1 s3 := ⟨g.kind.trans h.kind, g.arr.trans h.arr, g.pend.trans h.pend, g.failed.trans h.failed⟩
section
variable {prog : Program} {w : World} {A : Around} {E : Value → Shared → Prop} {s : Shared} {κ : KeyKind} {kd : SortKind}
theorem zcr {g : Nat} {st st0 : SortSt} {Q : Unit → SortSt → Prop} (hg : SG st0 st) (h : ∀ st', SG st0 st' → Q () st') : wpS (model prog w) A E s (ziX g) Q st := by
 refine wpS_modify (h _ (hg.trans ⟨rfl, rfl, rfl, rfl⟩))
set_option maxHeartbeats 4000000 in
theorem ziM {st : SortSt} {a b : Array Keyed} {Q : Array Keyed → SortSt → Prop} (hO : LtG prog w A s κ kd) (hkd : kindOf st = kd) (ka : ∀ q ∈ a.toList, Keyd κ q) (kb : ∀ q ∈ b.toList, Keyd κ q) (sa : SL κ a.toList) (sb : SL κ b.toList)
  (ha : 0 < a.size) (hb : 0 < b.size) (h0 : ∀ y ∈ a.toList, le κ b[0] y) (hl : ∀ y ∈ b.toList, ∀ i, i + 1 = a.size → ∀ x ∈ a.toList.drop i, le κ y x)
  (h : ∀ m st', zbV κ a b m → SG st st' → Q m st') : wpS (model prog w) A E s (zik a b) Q st := by
 have m0 : MI κ a b #[b[0]] 0 1 := by
  have z : MI κ a b #[] 0 0 := ⟨by simp, by simp, by simp⟩
  have := z.pb sb hb (by simpa using h0)
  simpa using this
 refine wpS_bind (zcQ ?_)
 dsimp only
 refine wpS_bind (zaH hb ?_)
 by_cases e1 : 1 = b.size
 ·rw [if_pos (by simpa using e1)]
  exact wpS_pure (h _ _ (m0.done sa (by omega)) (SG.refl st))
 rw [if_neg (by simpa using e1)]
 by_cases e2 : 0 + 1 = a.size
 ·rw [if_pos (by simpa using e2)]
  exact wpS_pure (h _ _ (m0.last sa sb (fun y hy x hx => hl y hy 0 e2 x hx)) (SG.refl st))
 rw [if_neg (by simpa using e2)]
 refine wpS_bind (wpS_get ?_)
 refine wpS_bind (wpS_mono (wpS_forRange (I := fun i c st' => SG st st' ∧ ∃ out ia ib g, c = (none, out, ia, ib, g) ∧ MI κ a b out ia ib ∧ ia + 1 < a.size ∧ ib < b.size ∧ i + 1 ≤ ia + ib)
  (Q := fun c st' => SG st st' ∧ ∃ m r, c = (some m, r) ∧ zbV κ a b m) ?step ?fin ⟨SG.refl st, _, 0, 1, _, rfl, m0, by omega, by omega, by omega⟩) ?post)
 case post =>
  rintro c st' ⟨g, m, r, rfl, hm⟩
  exact wpS_pure (h m st' hm g)
 case fin =>
  rintro c st' ⟨g, out, ia, ib, gg, rfl, hm, q1, q2, q3⟩
  exact absurd q3 (by omega)
 case step =>
  rintro i c st1 _ hi ⟨g1, out, ia, ib, gg, rfl, hm, q1, q2, q3⟩
  dsimp only
  refine wpS_bind (wpS_mono (wpS_forRange (I := fun x c st' => st' = st1 ∧ ∃ out' ia' ib' ca cb, c = (none, out', ia', ib', ca, cb) ∧ MI κ a b out' ia' ib' ∧ ia' + 1 < a.size ∧ ib' < b.size ∧ ia + ib + x ≤ ia' + ib')
   (Q := fun c st' => st' = st1 ∧ ((∃ m r, c = (some m, r) ∧ zbV κ a b m) ∨ ∃ out' ia' ib' ca cb, c = (none, out', ia', ib', ca, cb) ∧ MI κ a b out' ia' ib' ∧ ia' + 1 < a.size ∧ ib' < b.size ∧ ia + ib + 1 ≤ ia' + ib')) ?istep ?ifin ⟨rfl, out, ia, ib, 0, 0, rfl, hm, q1, q2, by omega⟩) ?ipost)
  case ifin =>
   rintro c st' ⟨rfl, out', ia', ib', ca, cb, rfl, hm', r1, r2, r3⟩
   exact ⟨rfl, .inr ⟨out', ia', ib', ca, cb, rfl, hm', r1, r2, by omega⟩⟩
  case istep =>
   rintro x c st' _ hx ⟨rfl, out', ia', ib', ca, cb, rfl, hm', r1, r2, r3⟩
   dsimp only
   refine wpS_bind (zaH r2 (wpS_bind (zaH (show ia' < a.size by omega) (wpS_bind (lt_G hO (by rw [g1.kind]; exact hkd) (kb _ (by simp)) (ka _ (by simp)) ?_)))))
   dsimp only
   cases e : κ.blt (ky κ b[ib']) (ky κ (a[ia']'(by omega))) with
   | true =>
    simp only [if_true]
    have hm2 := hm'.pb sb r2 (fun y hy => le_trans (show le κ b[ib'] (a[ia']'(by omega)) from KeyOrd.kle_of_klt e) (zco sa (by omega) y hy))
    refine wpS_bind (zaH r2 ?_)
    by_cases z : ib' + 1 = b.size
    ·rw [if_pos (by simpa using z)]
     exact wpS_pure ⟨rfl, .inl ⟨_, _, rfl, hm2.done sa (by omega)⟩⟩
    ·rw [if_neg (by simpa using z)]
     split
     ·exact wpS_pure ⟨rfl, .inr ⟨_, _, _, _, _, rfl, hm2, by omega, by omega, by omega⟩⟩
     ·exact wpS_pure ⟨rfl, _, _, _, _, _, rfl, hm2, by omega, by omega, by omega⟩
   | false =>
    simp only [Bool.false_eq_true, if_false]
    have hm2 := hm'.pa sa (show ia' < a.size by omega) (fun y hy => le_trans (show le κ (a[ia']'(by omega)) b[ib'] from e) (zco sb r2 y hy))
    refine wpS_bind (zaH (show ia' < a.size by omega) ?_)
    by_cases z : ia' + 1 + 1 = a.size
    ·rw [if_pos (by simpa using z)]
     exact wpS_pure ⟨rfl, .inl ⟨_, _, rfl, hm2.last sa sb (fun y hy x hx => hl y hy _ z x hx)⟩⟩
    ·rw [if_neg (by simpa using z)]
     split
     ·exact wpS_pure ⟨rfl, .inr ⟨_, _, _, _, _, rfl, hm2, by omega, by omega, by omega⟩⟩
     ·exact wpS_pure ⟨rfl, _, _, _, _, _, rfl, hm2, by omega, by omega, by omega⟩
  case ipost =>
   rintro c st' ⟨rfl, ⟨m, r, rfl, hmm⟩ | ⟨out, ia', ib', ca, cb, rfl, hm, q1, q2, q4⟩⟩
   ·exact wpS_pure ⟨g1, m, _, rfl, hmm⟩
   dsimp only
   refine wpS_bind (zcQ ?_)
   refine wpS_bind (wpS_mono (wpS_forRange (I := fun x c st'' => SG st st'' ∧ ∃ out1 ia1 ib1 gg ca cb, c = (none, out1, ia1, ib1, gg, ca, cb) ∧ MI κ a b out1 ia1 ib1 ∧ ia1 + 1 < a.size ∧ ib1 < b.size ∧ ia + ib + 1 ≤ ia1 + ib1)
    (Q := fun c st'' => SG st st'' ∧ ((∃ m r, c = (some m, r) ∧ zbV κ a b m) ∨ ∃ out1 ia1 ib1 gg ca cb, c = (none, out1, ia1, ib1, gg, ca, cb) ∧ MI κ a b out1 ia1 ib1 ∧ ia1 + 1 < a.size ∧ ib1 < b.size ∧ ia + ib + 1 ≤ ia1 + ib1)) ?jstep ?jfin ⟨g1, _, _, _, _, _, _, rfl, hm, q1, q2, q4⟩) ?jpost)
   case jfin =>
    rintro c st'' ⟨g2, out1, ia1, ib1, gg1, ca1, cb1, rfl, r⟩
    exact ⟨g2, .inr ⟨_, _, _, _, _, _, rfl, r⟩⟩
   case jpost =>
    rintro c st'' ⟨g2, ⟨m, r, rfl, hmm⟩ | ⟨out1, ia1, ib1, gg1, ca1, cb1, rfl, hm1, t1, t2, t3⟩⟩
    ·exact wpS_pure ⟨g2, m, _, rfl, hmm⟩
    ·dsimp only
     exact wpS_bind (zcr g2 fun st3 g3 => wpS_pure ⟨g3, _, _, _, _, rfl, hm1, t1, t2, by omega⟩)
   case jstep =>
    rintro x c st'' _ hx ⟨g2, out1, ia1, ib1, gg1, ca1, cb1, rfl, hm1, t1, t2, t3⟩
    dsimp only
    by_cases hg : gg1 > 1
    all_goals
     first | rw [if_pos hg] | rw [if_neg hg]
     refine wpS_bind (zcr g2 fun st3 g3 => ?_)
     refine wpS_bind (zaH t2 (wpS_bind (zbR hO (by rw [g3.kind]; exact hkd) (kb _ (by simp)) ka (by omega) (by omega) (zd7 sa _ _ (by omega)) fun k k1 k2 k3 => ?_)))
     dsimp only
     have hmk : MI κ a b (out1 ++ a.extract ia1 (ia1 + k)) (ia1 + k) ib1 := hm1.goA sa (by rw [Array.toList_append, zds]) fun x hx y hy => by
      obtain ⟨j, j1, j2, j3⟩ := zcR hx
      have q := k2 j j1
      unfold bey at q
      rw [if_neg (by decide), zb4 j3, Bool.not_eq_true'] at q
      exact le_trans (show le κ x b[ib1] from q) (zco sb t2 y hy)
     have bk : ∀ hq : ia1 + k < a.size, ∀ y ∈ a.toList.drop (ia1 + k), le κ b[ib1] y := fun hq y hy => by
      have q := k3 k (Nat.le_refl _) (by omega)
      unfold bey at q
      rw [if_neg (by decide), za1 hq, Bool.not_eq_false'] at q
      exact le_trans (show le κ b[ib1] a[ia1 + k] from KeyOrd.kle_of_klt q) (zco sa hq y hy)
     by_cases hk : k > 0
     ·rw [if_pos hk]
      by_cases z : ia1 + k + 1 = a.size
      ·rw [if_pos (by simpa using z)]
       exact wpS_pure ⟨g3, .inl ⟨_, _, rfl, hmk.last sa sb (fun y hy x hx => hl y hy _ z x hx)⟩⟩
      rw [if_neg (by simpa using z)]
      by_cases z' : ia1 + k = a.size
      ·rw [if_pos (by simpa using z')]
       exact wpS_pure ⟨g3, .inl ⟨_, _, rfl, hmk.doneA sb (by omega)⟩⟩
      rw [if_neg (by simpa using z')]
      have hm2 := hmk
      have u2 := bk (by omega)
      refine wpS_bind (zaH t2 ?_)
      have hm3 := hm2.pb sb t2 u2
      by_cases z2 : ib1 + 1 = b.size
      ·rw [if_pos (by simpa using z2)]
       exact wpS_pure ⟨g3, .inl ⟨_, _, rfl, hm3.done sa (by omega)⟩⟩
      ·rw [if_neg (by simpa using z2)]
       refine wpS_bind (zaH (show ia1 + k < a.size by omega) (wpS_bind (zbR hO (by rw [g3.kind]; exact hkd) (ka _ (by simp)) kb (by omega) (by omega) (zd7 sb _ _ (by omega)) fun k' c1 c2 c3 => ?_)))
       dsimp only
       have ge5 : ∀ hq : ib1 + 1 + k' < b.size, le κ (a[ia1 + k]'(by omega)) b[ib1 + 1 + k'] := fun hq => by
        have q := c3 k' (Nat.le_refl _) (by omega)
        unfold bey at q
        rw [if_pos rfl, za1 hq] at q
        exact q
       have hm4 : MI κ a b ((out1 ++ a.extract ia1 (ia1 + k)).push b[ib1] ++ b.extract (ib1 + 1) (ib1 + 1 + k')) (ia1 + k) (ib1 + 1 + k') := hm3.goB sb (by rw [Array.toList_append (ys := b.extract (ib1 + 1) (ib1 + 1 + k')), zds (xs := b)]) fun x hx y hy => by
        obtain ⟨j, j1, j2, j3⟩ := zcR hx
        have q := c2 j j1
        unfold bey at q
        rw [if_pos rfl, zb4 j3] at q
        exact le_trans (show le κ x (a[ia1 + k]'(by omega)) from KeyOrd.kle_of_klt q) (zco sa (by omega) y hy)
       by_cases hk' : k' > 0
       ·rw [if_pos hk']
        by_cases z3 : ib1 + 1 + k' = b.size
        ·rw [if_pos (by simpa using z3)]
         exact wpS_pure ⟨g3, .inl ⟨_, _, rfl, hm4.done sa (by omega)⟩⟩
        ·rw [if_neg (by simpa using z3)]
         refine wpS_bind (zaH (show ia1 + k < a.size by omega) ?_)
         have hm5 := hm4.pa sa (show ia1 + k < a.size by omega) fun y hy => le_trans (show le κ (a[ia1 + k]'(by omega)) (b[ib1 + 1 + k']'(by omega)) from ge5 (by omega)) (zco sb (by omega) y hy)
         by_cases z4 : ia1 + k + 1 + 1 = a.size
         ·rw [if_pos (by simpa using z4)]
          exact wpS_pure ⟨g3, .inl ⟨_, _, rfl, hm5.last sa sb (fun y hy x hx => hl y hy _ z4 x hx)⟩⟩
         ·rw [if_neg (by simpa using z4)]
          split
          ·exact wpS_pure ⟨g3, .inr ⟨_, _, _, _, _, _, rfl, hm5, by omega, by omega, by omega⟩⟩
          ·exact wpS_pure ⟨g3, _, _, _, _, _, _, rfl, hm5, by omega, by omega, by omega⟩
       ·rw [if_neg hk']
        have e0 : k' = 0 := by omega
        subst e0
        replace hm4 := hm3
        refine wpS_bind (zaH (show ia1 + k < a.size by omega) ?_)
        have hm5 := hm4.pa sa (show ia1 + k < a.size by omega) fun y hy => le_trans (show le κ (a[ia1 + k]'(by omega)) (b[ib1 + 1]'(by omega)) from ge5 (by omega)) (zco sb (by omega) y hy)
        by_cases z4 : ia1 + k + 1 + 1 = a.size
        ·rw [if_pos (by simpa using z4)]
         exact wpS_pure ⟨g3, .inl ⟨_, _, rfl, hm5.last sa sb (fun y hy x hx => hl y hy _ z4 x hx)⟩⟩
        ·rw [if_neg (by simpa using z4)]
         split
         ·exact wpS_pure ⟨g3, .inr ⟨_, _, _, _, _, _, rfl, hm5, by omega, by omega, by omega⟩⟩
         ·exact wpS_pure ⟨g3, _, _, _, _, _, _, rfl, hm5, by omega, by omega, by omega⟩
     ·rw [if_neg hk]
      have e0 : k = 0 := by omega
      subst e0
      have hm2 := hm1
      have u2 := bk (by omega)
      refine wpS_bind (zaH t2 ?_)
      have hm3 := hm2.pb sb t2 u2
      by_cases z2 : ib1 + 1 = b.size
      ·rw [if_pos (by simpa using z2)]
       exact wpS_pure ⟨g3, .inl ⟨_, _, rfl, hm3.done sa (by omega)⟩⟩
      ·rw [if_neg (by simpa using z2)]
       refine wpS_bind (zaH (show ia1 < a.size by omega) (wpS_bind (zbR hO (by rw [g3.kind]; exact hkd) (ka _ (by simp)) kb (by omega) (by omega) (zd7 sb _ _ (by omega)) fun k' c1 c2 c3 => ?_)))
       dsimp only
       have ge5 : ∀ hq : ib1 + 1 + k' < b.size, le κ (a[ia1]'(by omega)) b[ib1 + 1 + k'] := fun hq => by
        have q := c3 k' (Nat.le_refl _) (by omega)
        unfold bey at q
        rw [if_pos rfl, za1 hq] at q
        exact q
       have hm4 : MI κ a b (out1.push b[ib1] ++ b.extract (ib1 + 1) (ib1 + 1 + k')) ia1 (ib1 + 1 + k') := hm3.goB sb (by rw [Array.toList_append (ys := b.extract (ib1 + 1) (ib1 + 1 + k')), zds (xs := b)]) fun x hx y hy => by
        obtain ⟨j, j1, j2, j3⟩ := zcR hx
        have q := c2 j j1
        unfold bey at q
        rw [if_pos rfl, zb4 j3] at q
        exact le_trans (show le κ x (a[ia1]'(by omega)) from KeyOrd.kle_of_klt q) (zco sa (by omega) y hy)
       by_cases hk' : k' > 0
       ·rw [if_pos hk']
        by_cases z3 : ib1 + 1 + k' = b.size
        ·rw [if_pos (by simpa using z3)]
         exact wpS_pure ⟨g3, .inl ⟨_, _, rfl, hm4.done sa (by omega)⟩⟩
        ·rw [if_neg (by simpa using z3)]
         refine wpS_bind (zaH (show ia1 < a.size by omega) ?_)
         have hm5 := hm4.pa sa (show ia1 < a.size by omega) fun y hy => le_trans (show le κ (a[ia1]'(by omega)) (b[ib1 + 1 + k']'(by omega)) from ge5 (by omega)) (zco sb (by omega) y hy)
         by_cases z4 : ia1 + 1 + 1 = a.size
         ·rw [if_pos (by simpa using z4)]
          exact wpS_pure ⟨g3, .inl ⟨_, _, rfl, hm5.last sa sb (fun y hy x hx => hl y hy _ z4 x hx)⟩⟩
         ·rw [if_neg (by simpa using z4)]
          split
          ·exact wpS_pure ⟨g3, .inr ⟨_, _, _, _, _, _, rfl, hm5, by omega, by omega, by omega⟩⟩
          ·exact wpS_pure ⟨g3, _, _, _, _, _, _, rfl, hm5, by omega, by omega, by omega⟩
       ·rw [if_neg hk']
        have e0 : k' = 0 := by omega
        subst e0
        replace hm4 := hm3
        refine wpS_bind (zaH (show ia1 < a.size by omega) ?_)
        have hm5 := hm4.pa sa (show ia1 < a.size by omega) fun y hy => le_trans (show le κ (a[ia1]'(by omega)) (b[ib1 + 1]'(by omega)) from ge5 (by omega)) (zco sb (by omega) y hy)
        by_cases z4 : ia1 + 1 + 1 = a.size
        ·rw [if_pos (by simpa using z4)]
         exact wpS_pure ⟨g3, .inl ⟨_, _, rfl, hm5.last sa sb (fun y hy x hx => hl y hy _ z4 x hx)⟩⟩
        ·rw [if_neg (by simpa using z4)]
         split
         ·exact wpS_pure ⟨g3, .inr ⟨_, _, _, _, _, _, rfl, hm5, by omega, by omega, by omega⟩⟩
         ·exact wpS_pure ⟨g3, _, _, _, _, _, _, rfl, hm5, by omega, by omega, by omega⟩
end
end Tim
namespace Tim
open PySem PyProof.Rows
set_option autoImplicit false
section
variable {κ : KeyKind} {a b out : Array Keyed} {na nb : Nat}
structure MH (κ : KeyKind) (a b : Array Keyed) (out : Array Keyed) (na nb : Nat) : Prop where
 perm : ((a.toList.take na ++ b.toList.take nb) ++ out.toList.reverse).Perm (a.toList ++ b.toList)
 srt : SL κ out.toList.reverse
 high : ∀ x ∈ out.toList.reverse, ∀ y ∈ a.toList.take na ++ b.toList.take nb, le κ y x
theorem zd9 {l : List Keyed} {n m : Nat} (h : n ≤ m) : l.take m = l.take n ++ (l.take m).drop n := by
 have e : (l.take m).take n = l.take n := by rw [List.take_take, Nat.min_eq_left h]
 rw [← e, List.take_append_drop]
theorem MH.goA {out' : Array Keyed} {n : Nat} (h : MH κ a b out na nb) (sa : SL κ a.toList) (hn : n ≤ na) (ho : out'.toList.reverse = (a.toList.take na).drop n ++ out.toList.reverse) (hle : ∀ x ∈ (a.toList.take na).drop n, ∀ y ∈ b.toList.take nb, le κ y x) : MH κ a b out' n nb := by
 have e := zd9 (l := a.toList) hn
 have s1 := sa.take na
 rw [e] at s1
 obtain ⟨p1, p2, p3⟩ := List.pairwise_append.mp s1
 refine ⟨?_, ?_, ?_⟩
 ·refine List.Perm.trans ?_ h.perm
  rw [ho, e, ← List.append_assoc]
  refine List.Perm.append_right _ ?_
  rw [List.append_assoc, List.append_assoc, ← e]
  exact List.Perm.append_left _ List.perm_append_comm
 ·rw [ho]
  exact List.pairwise_append.mpr ⟨p2, h.srt, fun x hx y hy => h.high y hy x (List.mem_append_left _ (List.mem_of_mem_drop hx))⟩
 ·intro x hx y hy
  rw [ho] at hx
  rcases List.mem_append.mp hx with hx | hx
  ·rcases List.mem_append.mp hy with hy | hy
   ·exact p3 y hy x hx
   ·exact hle x hx y hy
  ·refine h.high x hx y ?_
   rcases List.mem_append.mp hy with hy | hy
   ·refine List.mem_append_left _ ?_
    rw [e]
    exact List.mem_append_left _ hy
   ·exact List.mem_append_right _ hy
theorem MH.goB {out' : Array Keyed} {n : Nat} (h : MH κ a b out na nb) (sb : SL κ b.toList) (hn : n ≤ nb) (ho : out'.toList.reverse = (b.toList.take nb).drop n ++ out.toList.reverse) (hle : ∀ x ∈ (b.toList.take nb).drop n, ∀ y ∈ a.toList.take na, le κ y x) : MH κ a b out' na n := by
 have e := zd9 (l := b.toList) hn
 have s1 := sb.take nb
 rw [e] at s1
 obtain ⟨p1, p2, p3⟩ := List.pairwise_append.mp s1
 refine ⟨?_, ?_, ?_⟩
 ·refine List.Perm.trans (List.Perm.of_eq ?_) h.perm
  rw [ho, ← List.append_assoc, List.append_assoc (a.toList.take na), ← e]
 ·rw [ho]
  exact List.pairwise_append.mpr ⟨p2, h.srt, fun x hx y hy => h.high y hy x (List.mem_append_right _ (List.mem_of_mem_drop hx))⟩
 ·intro x hx y hy
  rw [ho] at hx
  rcases List.mem_append.mp hx with hx | hx
  ·rcases List.mem_append.mp hy with hy | hy
   ·exact hle x hx y hy
   ·exact p3 y hy x hx
  ·refine h.high x hx y ?_
   rcases List.mem_append.mp hy with hy | hy
   ·exact List.mem_append_left _ hy
   ·refine List.mem_append_right _ ?_
    rw [e]
    exact List.mem_append_left _ hy
theorem zdY {xs : Array Keyed} {n : Nat} (h0 : 0 < n) (h : n ≤ xs.size) : (xs.toList.take n).drop (n - 1) = [xs[n - 1]'(by omega)] := by
 have h' : n - 1 < xs.size := by omega
 rw [List.drop_take, show n - (n - 1) = 1 by omega, zd2 h']
 rfl
theorem zcS {xs : Array Keyed} {n : Nat} (hs : SL κ xs.toList) (h0 : 0 < n) (h : n ≤ xs.size) : ∀ y ∈ xs.toList.take n, le κ y (xs[n - 1]'(by omega)) := by
 intro y hy
 have q := hs.take n
 rw [zd9 (l := xs.toList) (show n - 1 ≤ n by omega), zdY h0 h] at q hy
 rcases List.mem_append.mp hy with hy | hy
 ·exact (List.pairwise_append.mp q).2.2 y hy _ (List.mem_singleton.mpr rfl)
 ·rw [List.mem_singleton.mp hy]
  exact le_refl _
theorem MH.pa (h : MH κ a b out na nb) (sa : SL κ a.toList) (h0 : 0 < na) (hn : na ≤ a.size) (hle : ∀ y ∈ b.toList.take nb, le κ y (a[na - 1]'(by omega))) : MH κ a b (out.push (a[na - 1]'(by omega))) (na - 1) nb :=
 h.goA (n := na - 1) sa (by omega) (by rw [zdY h0 hn, Array.toList_push, List.reverse_append]; rfl) (by
  rw [zdY h0 hn]
  intro x hx
  rw [List.mem_singleton.mp hx]
  exact hle)
theorem MH.pb (h : MH κ a b out na nb) (sb : SL κ b.toList) (h0 : 0 < nb) (hn : nb ≤ b.size) (hle : ∀ y ∈ a.toList.take na, le κ y (b[nb - 1]'(by omega))) : MH κ a b (out.push (b[nb - 1]'(by omega))) na (nb - 1) :=
 h.goB (n := nb - 1) sb (by omega) (by rw [zdY h0 hn, Array.toList_push, List.reverse_append]; rfl) (by
  rw [zdY h0 hn]
  intro x hx
  rw [List.mem_singleton.mp hx]
  exact hle)
theorem zdt {xs : Array Keyed} {n : Nat} : (xs.extract 0 n).toList = xs.toList.take n := by
 rw [Array.toList_extract, List.extract_eq_take_drop, List.drop_zero, Nat.sub_zero]
theorem zhH {xs : Array Keyed} {n m : Nat} : (xs.extract n m).toList = (xs.toList.take m).drop n := by
 rw [Array.toList_extract, List.extract_eq_take_drop, List.drop_take]
theorem MH.done (h : MH κ a b out na nb) (sb : SL κ b.toList) (hna : na = 0) : zbV κ a b (a.extract 0 na ++ b.extract 0 nb ++ out.reverse) := by
 have e2 : (a.extract 0 na ++ b.extract 0 nb ++ out.reverse).toList = (a.toList.take na ++ b.toList.take nb) ++ out.toList.reverse := by
  rw [Array.toList_append, Array.toList_append, zdt, zdt, Array.toList_reverse]
 refine ⟨by rw [e2]; exact h.perm, ?_⟩
 rw [e2]
 subst hna
 refine List.pairwise_append.mpr ⟨?_, h.srt, fun x hx y hy => h.high y hy x hx⟩
 rw [List.take_zero, List.nil_append]
 exact sb.take nb
theorem MH.doneB (h : MH κ a b out na nb) (sa : SL κ a.toList) (hnb : nb = 0) : zbV κ a b (a.extract 0 na ++ b.extract 0 nb ++ out.reverse) := by
 have e2 : (a.extract 0 na ++ b.extract 0 nb ++ out.reverse).toList = (a.toList.take na ++ b.toList.take nb) ++ out.toList.reverse := by
  rw [Array.toList_append, Array.toList_append, zdt, zdt, Array.toList_reverse]
 refine ⟨by rw [e2]; exact h.perm, ?_⟩
 rw [e2]
 subst hnb
 refine List.pairwise_append.mpr ⟨?_, h.srt, fun x hx y hy => h.high y hy x hx⟩
 rw [List.take_zero, List.append_nil]
 exact sa.take na
theorem MH.first (h : MH κ a b out na nb) (sa : SL κ a.toList) (sb : SL κ b.toList) (hl : ∀ y ∈ b.toList.take nb, ∀ x ∈ a.toList, le κ y x) : zbV κ a b (b.extract 0 nb ++ a.extract 0 na ++ out.reverse) := by
 have e2 : (b.extract 0 nb ++ a.extract 0 na ++ out.reverse).toList = (b.toList.take nb ++ a.toList.take na) ++ out.toList.reverse := by
  rw [Array.toList_append, Array.toList_append, zdt, zdt, Array.toList_reverse]
 refine ⟨?_, ?_⟩
 ·rw [e2]
  exact (List.Perm.append_right _ List.perm_append_comm).trans h.perm
 ·rw [e2]
  refine List.pairwise_append.mpr ⟨List.pairwise_append.mpr ⟨sb.take nb, sa.take na, fun x hx y hy => hl x hx y (List.mem_of_mem_take hy)⟩, h.srt, fun x hx y hy => h.high y hy x ?_⟩
  rcases List.mem_append.mp hx with q | q
  ·exact List.mem_append_right _ q
  ·exact List.mem_append_left _ q
end
def zil : Array Keyed → Array Keyed → StateT SortSt Sem (Array Keyed) := sortPriv% PySem.Builtin.mergeHi
end Tim
namespace Tim
open PySem PyProof.Rows
set_option autoImplicit false
section
variable {prog : Program} {w : World} {A : Around} {E : Value → Shared → Prop} {s : Shared} {κ : KeyKind} {kd : SortKind}
set_option maxHeartbeats 4000000 in
theorem ziN {st : SortSt} {a b : Array Keyed} {Q : Array Keyed → SortSt → Prop} (hO : LtG prog w A s κ kd) (hkd : kindOf st = kd) (ka : ∀ q ∈ a.toList, Keyd κ q) (kb : ∀ q ∈ b.toList, Keyd κ q) (sa : SL κ a.toList) (sb : SL κ b.toList)
  (ha : 0 < a.size) (hb : 0 < b.size) (h0 : ∀ y ∈ a.toList, le κ b[0] y) (hl : ∀ y ∈ b.toList, le κ y (a[a.size - 1]'(by omega)))
  (h : ∀ m st', zbV κ a b m → SG st st' → Q m st') : wpS (model prog w) A E s (zil a b) Q st := by
 have fst : ∀ n, n ≤ 1 → ∀ y ∈ b.toList.take n, ∀ x ∈ a.toList, le κ y x := fun n hn y hy x hx => by
  have hy' : y ∈ b.toList.take 1 := by
   rcases Nat.lt_or_ge n 1 with z | z
   ·rw [show n = 0 by omega] at hy; simp at hy
   ·rwa [show n = 1 by omega] at hy
  have e : b.toList.take 1 = [b[0]] := by
   have := zdO hb
   rwa [List.drop_zero] at this
  rw [e] at hy'
  rw [List.mem_singleton.mp hy']
  exact h0 x hx
 have m0 : MH κ a b #[a[a.size - 1]'(by omega)] (a.size - 1) b.size := by
  have z : MH κ a b #[] a.size b.size := ⟨by
   rw [List.take_of_length_le (by simp), List.take_of_length_le (by simp)]
   simp, by simp, by simp⟩
  have := z.pa sa ha (Nat.le_refl _) (fun y hy => hl y (List.mem_of_mem_take hy))
  simpa using this
 refine wpS_bind (zcQ ?_)
 dsimp only
 refine wpS_bind (zaH (show a.size - 1 < a.size by omega) ?_)
 by_cases e1 : a.size - 1 = 0
 ·rw [if_pos (by simpa using e1)]
  exact wpS_pure (h _ _ (m0.done sb e1) (SG.refl st))
 rw [if_neg (by simpa using e1)]
 by_cases e2 : b.size = 1
 ·rw [if_pos (by simpa using e2)]
  exact wpS_pure (h _ _ (m0.first sa sb (fst _ (by omega))) (SG.refl st))
 rw [if_neg (by simpa using e2)]
 refine wpS_bind (wpS_get ?_)
 refine wpS_bind (wpS_mono (wpS_forRange (I := fun i c st' => SG st st' ∧ ∃ na nb out g, c = (none, na, nb, out, g) ∧ MH κ a b out na nb ∧ 0 < na ∧ na ≤ a.size ∧ 1 < nb ∧ nb ≤ b.size ∧ i + 1 + (na + nb) ≤ a.size + b.size)
  (Q := fun c st' => SG st st' ∧ ∃ m r, c = (some m, r) ∧ zbV κ a b m) ?step ?fin ⟨SG.refl st, _, _, _, _, rfl, m0, by omega, by omega, by omega, by omega, by omega⟩) ?post)
 case post =>
  rintro c st' ⟨g, m, r, rfl, hm⟩
  exact wpS_pure (h m st' hm g)
 case fin =>
  rintro c st' ⟨g, na, nb, out, gg, rfl, hm, q1, q2, q3, q4, q5⟩
  exact absurd q5 (by omega)
 case step =>
  rintro i c st1 _ hi ⟨g1, na, nb, out, gg, rfl, hm, q1, q2, q3, q4, q5⟩
  dsimp only
  refine wpS_bind (wpS_mono (wpS_forRange (I := fun x c st' => st' = st1 ∧ ∃ na' nb' out' ca cb, c = (none, na', nb', out', ca, cb) ∧ MH κ a b out' na' nb' ∧ 0 < na' ∧ na' ≤ a.size ∧ 1 < nb' ∧ nb' ≤ b.size ∧ x + (na' + nb') ≤ na + nb)
   (Q := fun c st' => st' = st1 ∧ ((∃ m r, c = (some m, r) ∧ zbV κ a b m) ∨ ∃ na' nb' out' ca cb, c = (none, na', nb', out', ca, cb) ∧ MH κ a b out' na' nb' ∧ 0 < na' ∧ na' ≤ a.size ∧ 1 < nb' ∧ nb' ≤ b.size ∧ 1 + (na' + nb') ≤ na + nb)) ?istep ?ifin ⟨rfl, na, nb, out, 0, 0, rfl, hm, q1, q2, q3, q4, by omega⟩) ?ipost)
  case ifin =>
   rintro c st' ⟨rfl, na', nb', out', ca, cb, rfl, hm', r1, r2, r3, r4, r5⟩
   exact ⟨rfl, .inr ⟨_, _, _, ca, cb, rfl, hm', r1, r2, r3, r4, by omega⟩⟩
  case istep =>
   rintro x c st' _ hx ⟨rfl, na', nb', out', ca, cb, rfl, hm', r1, r2, r3, r4, r5⟩
   dsimp only
   refine wpS_bind (zaH (show nb' - 1 < b.size by omega) (wpS_bind (zaH (show na' - 1 < a.size by omega) (wpS_bind (lt_G hO (by rw [g1.kind]; exact hkd) (kb _ (by simp)) (ka _ (by simp)) ?_)))))
   dsimp only
   cases e : κ.blt (ky κ (b[nb' - 1]'(by omega))) (ky κ (a[na' - 1]'(by omega))) with
   | true =>
    simp only [if_true]
    have hm2 := hm'.pa sa r1 r2 (fun y hy => le_trans (zcS sb (by omega) r4 y hy) (show le κ (b[nb' - 1]'(by omega)) (a[na' - 1]'(by omega)) from KeyOrd.kle_of_klt e))
    refine wpS_bind (zaH (show na' - 1 < a.size by omega) ?_)
    by_cases z : na' - 1 = 0
    ·rw [if_pos (by simpa using z)]
     exact wpS_pure ⟨rfl, .inl ⟨_, _, rfl, hm2.done sb z⟩⟩
    ·rw [if_neg (by simpa using z)]
     split
     ·exact wpS_pure ⟨rfl, .inr ⟨_, _, _, _, _, rfl, hm2, by omega, by omega, by omega, by omega, by omega⟩⟩
     ·exact wpS_pure ⟨rfl, _, _, _, _, _, rfl, hm2, by omega, by omega, by omega, by omega, by omega⟩
   | false =>
    simp only [Bool.false_eq_true, if_false]
    have hm2 := hm'.pb sb (by omega) r4 (fun y hy => le_trans (zcS sa r1 r2 y hy) (show le κ (a[na' - 1]'(by omega)) (b[nb' - 1]'(by omega)) from e))
    refine wpS_bind (zaH (show nb' - 1 < b.size by omega) ?_)
    by_cases z : nb' - 1 = 1
    ·rw [if_pos (by simpa using z)]
     exact wpS_pure ⟨rfl, .inl ⟨_, _, rfl, hm2.first sa sb (fst _ (by omega))⟩⟩
    ·rw [if_neg (by simpa using z)]
     split
     ·exact wpS_pure ⟨rfl, .inr ⟨_, _, _, _, _, rfl, hm2, by omega, by omega, by omega, by omega, by omega⟩⟩
     ·exact wpS_pure ⟨rfl, _, _, _, _, _, rfl, hm2, by omega, by omega, by omega, by omega, by omega⟩
  case ipost =>
   rintro c st' ⟨rfl, ⟨m, r, rfl, hmm⟩ | ⟨na', nb', out, ca, cb, rfl, hm, q1, q2, q3, q4, q6⟩⟩
   ·exact wpS_pure ⟨g1, m, _, rfl, hmm⟩
   dsimp only
   refine wpS_bind (zcQ ?_)
   refine wpS_bind (wpS_mono (wpS_forRange (I := fun x c st'' => SG st st'' ∧ ∃ na1 nb1 out1 gg ca cb, c = (none, na1, nb1, out1, gg, ca, cb) ∧ MH κ a b out1 na1 nb1 ∧ 0 < na1 ∧ na1 ≤ a.size ∧ 1 < nb1 ∧ nb1 ≤ b.size ∧ 1 + (na1 + nb1) ≤ na + nb)
    (Q := fun c st'' => SG st st'' ∧ ((∃ m r, c = (some m, r) ∧ zbV κ a b m) ∨ ∃ na1 nb1 out1 gg ca cb, c = (none, na1, nb1, out1, gg, ca, cb) ∧ MH κ a b out1 na1 nb1 ∧ 0 < na1 ∧ na1 ≤ a.size ∧ 1 < nb1 ∧ nb1 ≤ b.size ∧ 1 + (na1 + nb1) ≤ na + nb)) ?jstep ?jfin ⟨g1, _, _, _, _, _, _, rfl, hm, q1, q2, q3, q4, q6⟩) ?jpost)
   case jfin =>
    rintro c st'' ⟨g2, na1, nb1, out1, gg1, ca1, cb1, rfl, r⟩
    exact ⟨g2, .inr ⟨_, _, _, _, _, _, rfl, r⟩⟩
   case jpost =>
    rintro c st'' ⟨g2, ⟨m, r, rfl, hmm⟩ | ⟨na1, nb1, out1, gg1, ca1, cb1, rfl, hm1, t1, t2, t3, t4, t5⟩⟩
    ·exact wpS_pure ⟨g2, m, _, rfl, hmm⟩
    ·dsimp only
     exact wpS_bind (zcr g2 fun st3 g3 => wpS_pure ⟨g3, _, _, _, _, rfl, hm1, t1, t2, t3, t4, by omega⟩)
   case jstep =>
    rintro x c st'' _ hx ⟨g2, na1, nb1, out1, gg1, ca1, cb1, rfl, hm1, t1, t2, t3, t4, t5⟩
    dsimp only
    by_cases hg : gg1 > 1
    all_goals
     first | rw [if_pos hg] | rw [if_neg hg]
     refine wpS_bind (zcr g2 fun st3 g3 => ?_)
     refine wpS_bind (zaH (show nb1 - 1 < b.size by omega) (wpS_bind (zbR hO (by rw [g3.kind]; exact hkd) (kb _ (by simp)) ka (by omega) (by omega) (zd7 sa _ _ (by omega)) fun at0 k1 k2 k3 => ?_)))
     dsimp only
     have hmk : MH κ a b (out1 ++ (a.extract at0 na1).reverse) at0 nb1 := hm1.goA sa k1 (by
      rw [Array.toList_append, List.reverse_append, Array.toList_reverse, List.reverse_reverse, zhH]) fun x hx y hy => by
      rw [List.drop_take] at hx
      obtain ⟨j, j1, j2, j3⟩ := zcR hx
      have q := k3 (at0 + j) (by omega) (by omega)
      unfold bey at q
      rw [if_neg (by decide), Nat.zero_add, zb4 j3, Bool.not_eq_false'] at q
      exact le_trans (zcS sb (by omega) t4 y hy) (show le κ (b[nb1 - 1]'(by omega)) x from KeyOrd.kle_of_klt q)
     have bk : ∀ y ∈ a.toList.take at0, le κ y (b[nb1 - 1]'(by omega)) := fun y hy => by
      have hy' : y ∈ (a.toList.drop 0).take at0 := by rw [List.drop_zero]; exact hy
      obtain ⟨j, j1, j2, j3⟩ := zcR hy'
      have q := k2 j j1
      unfold bey at q
      rw [if_neg (by decide), zb4 j3, Bool.not_eq_true'] at q
      exact q
     by_cases hk : na1 - at0 > 0
     ·rw [if_pos hk]
      by_cases z : at0 = 0
      ·rw [if_pos (by simpa using z)]
       exact wpS_pure ⟨g3, .inl ⟨_, _, rfl, hmk.done sb z⟩⟩
      rw [if_neg (by simpa using z)]
      have hm2 := hmk
      have u2 := bk
      refine wpS_bind (zaH (show nb1 - 1 < b.size by omega) ?_)
      have hm3 := hm2.pb sb (by omega) (by omega) u2
      by_cases z2 : nb1 - 1 = 1
      ·rw [if_pos (by simpa using z2)]
       exact wpS_pure ⟨g3, .inl ⟨_, _, rfl, hm3.first sa sb (fst _ (by omega))⟩⟩
      ·rw [if_neg (by simpa using z2)]
       refine wpS_bind (zaH (show at0 - 1 < a.size by omega) (wpS_bind (zbR hO (by rw [g3.kind]; exact hkd) (ka _ (by simp)) kb (by omega) (by omega) (zd7 sb _ _ (by omega)) fun at' c1 c2 c3 => ?_)))
       dsimp only
       have lt5 : ∀ hq : 0 < at', le κ (b[at' - 1]'(by omega)) (a[at0 - 1]'(by omega)) := fun hq => by
        have q := c2 (at' - 1) (by omega)
        unfold bey at q
        rw [if_pos rfl, Nat.zero_add, za1 (by omega)] at q
        exact KeyOrd.kle_of_klt q
       have hm4 : MH κ a b ((out1 ++ (a.extract at0 na1).reverse).push (b[nb1 - 1]'(by omega)) ++ (b.extract at' (nb1 - 1)).reverse) at0 at' := hm3.goB sb c1 (by
        rw [Array.toList_append (ys := (b.extract at' (nb1 - 1)).reverse), List.reverse_append, Array.toList_reverse, List.reverse_reverse, zhH]) fun x hx y hy => by
        rw [List.drop_take] at hx
        obtain ⟨j, j1, j2, j3⟩ := zcR hx
        have q := c3 (at' + j) (by omega) (by omega)
        unfold bey at q
        rw [if_pos rfl, Nat.zero_add, zb4 j3] at q
        exact le_trans (zcS sa (by omega) (by omega) y hy) (show le κ (a[at0 - 1]'(by omega)) x from q)
       by_cases hk' : nb1 - 1 - at' > 0
       ·rw [if_pos hk']
        by_cases z3 : at' = 1
        ·rw [if_pos (by simpa using z3)]
         exact wpS_pure ⟨g3, .inl ⟨_, _, rfl, hm4.first sa sb (fst _ (by omega))⟩⟩
        rw [if_neg (by simpa using z3)]
        by_cases z3' : at' = 0
        ·rw [if_pos (by simpa using z3')]
         exact wpS_pure ⟨g3, .inl ⟨_, _, rfl, hm4.doneB sa z3'⟩⟩
        rw [if_neg (by simpa using z3')]
        refine wpS_bind (zaH (show at0 - 1 < a.size by omega) ?_)
        have hm5 := hm4.pa sa (by omega) (by omega) fun y hy => le_trans (zcS sb (by omega) (by omega) y hy) (lt5 (by omega))
        by_cases z4 : at0 - 1 = 0
        ·rw [if_pos (by simpa using z4)]
         exact wpS_pure ⟨g3, .inl ⟨_, _, rfl, hm5.done sb z4⟩⟩
        ·rw [if_neg (by simpa using z4)]
         split
         ·exact wpS_pure ⟨g3, .inr ⟨_, _, _, _, _, _, rfl, hm5, by omega, by omega, by omega, by omega, by omega⟩⟩
         ·exact wpS_pure ⟨g3, _, _, _, _, _, _, rfl, hm5, by omega, by omega, by omega, by omega, by omega⟩
       ·rw [if_neg hk']
        have e0 : at' = nb1 - 1 := by omega
        subst e0
        replace hm4 := hm3
        refine wpS_bind (zaH (show at0 - 1 < a.size by omega) ?_)
        have hm5 := hm4.pa sa (by omega) (by omega) fun y hy => le_trans (zcS sb (by omega) (by omega) y hy) (lt5 (by omega))
        by_cases z4 : at0 - 1 = 0
        ·rw [if_pos (by simpa using z4)]
         exact wpS_pure ⟨g3, .inl ⟨_, _, rfl, hm5.done sb z4⟩⟩
        ·rw [if_neg (by simpa using z4)]
         split
         ·exact wpS_pure ⟨g3, .inr ⟨_, _, _, _, _, _, rfl, hm5, by omega, by omega, by omega, by omega, by omega⟩⟩
         ·exact wpS_pure ⟨g3, _, _, _, _, _, _, rfl, hm5, by omega, by omega, by omega, by omega, by omega⟩
     ·rw [if_neg hk]
      have e0 : at0 = na1 := by omega
      subst e0
      have hm2 := hm1
      have u2 := bk
      refine wpS_bind (zaH (show nb1 - 1 < b.size by omega) ?_)
      have hm3 := hm2.pb sb (by omega) (by omega) u2
      by_cases z2 : nb1 - 1 = 1
      ·rw [if_pos (by simpa using z2)]
       exact wpS_pure ⟨g3, .inl ⟨_, _, rfl, hm3.first sa sb (fst _ (by omega))⟩⟩
      ·rw [if_neg (by simpa using z2)]
       refine wpS_bind (zaH (show at0 - 1 < a.size by omega) (wpS_bind (zbR hO (by rw [g3.kind]; exact hkd) (ka _ (by simp)) kb (by omega) (by omega) (zd7 sb _ _ (by omega)) fun at' c1 c2 c3 => ?_)))
       dsimp only
       have lt5 : ∀ hq : 0 < at', le κ (b[at' - 1]'(by omega)) (a[at0 - 1]'(by omega)) := fun hq => by
        have q := c2 (at' - 1) (by omega)
        unfold bey at q
        rw [if_pos rfl, Nat.zero_add, za1 (by omega)] at q
        exact KeyOrd.kle_of_klt q
       have hm4 : MH κ a b (out1.push (b[nb1 - 1]'(by omega)) ++ (b.extract at' (nb1 - 1)).reverse) at0 at' := hm3.goB sb c1 (by
        rw [Array.toList_append (ys := (b.extract at' (nb1 - 1)).reverse), List.reverse_append, Array.toList_reverse, List.reverse_reverse, zhH]) fun x hx y hy => by
        rw [List.drop_take] at hx
        obtain ⟨j, j1, j2, j3⟩ := zcR hx
        have q := c3 (at' + j) (by omega) (by omega)
        unfold bey at q
        rw [if_pos rfl, Nat.zero_add, zb4 j3] at q
        exact le_trans (zcS sa (by omega) (by omega) y hy) (show le κ (a[at0 - 1]'(by omega)) x from q)
       by_cases hk' : nb1 - 1 - at' > 0
       ·rw [if_pos hk']
        by_cases z3 : at' = 1
        ·rw [if_pos (by simpa using z3)]
         exact wpS_pure ⟨g3, .inl ⟨_, _, rfl, hm4.first sa sb (fst _ (by omega))⟩⟩
        rw [if_neg (by simpa using z3)]
        by_cases z3' : at' = 0
        ·rw [if_pos (by simpa using z3')]
         exact wpS_pure ⟨g3, .inl ⟨_, _, rfl, hm4.doneB sa z3'⟩⟩
        rw [if_neg (by simpa using z3')]
        refine wpS_bind (zaH (show at0 - 1 < a.size by omega) ?_)
        have hm5 := hm4.pa sa (by omega) (by omega) fun y hy => le_trans (zcS sb (by omega) (by omega) y hy) (lt5 (by omega))
        by_cases z4 : at0 - 1 = 0
        ·rw [if_pos (by simpa using z4)]
         exact wpS_pure ⟨g3, .inl ⟨_, _, rfl, hm5.done sb z4⟩⟩
        ·rw [if_neg (by simpa using z4)]
         split
         ·exact wpS_pure ⟨g3, .inr ⟨_, _, _, _, _, _, rfl, hm5, by omega, by omega, by omega, by omega, by omega⟩⟩
         ·exact wpS_pure ⟨g3, _, _, _, _, _, _, rfl, hm5, by omega, by omega, by omega, by omega, by omega⟩
       ·rw [if_neg hk']
        have e0 : at' = nb1 - 1 := by omega
        subst e0
        replace hm4 := hm3
        refine wpS_bind (zaH (show at0 - 1 < a.size by omega) ?_)
        have hm5 := hm4.pa sa (by omega) (by omega) fun y hy => le_trans (zcS sb (by omega) (by omega) y hy) (lt5 (by omega))
        by_cases z4 : at0 - 1 = 0
        ·rw [if_pos (by simpa using z4)]
         exact wpS_pure ⟨g3, .inl ⟨_, _, rfl, hm5.done sb z4⟩⟩
        ·rw [if_neg (by simpa using z4)]
         split
         ·exact wpS_pure ⟨g3, .inr ⟨_, _, _, _, _, _, rfl, hm5, by omega, by omega, by omega, by omega, by omega⟩⟩
         ·exact wpS_pure ⟨g3, _, _, _, _, _, _, rfl, hm5, by omega, by omega, by omega, by omega, by omega⟩
end
end Tim
namespace Tim
open PySem PyProof.Rows
set_option autoImplicit false
section
variable {κ : KeyKind}
def seg (xs : Array Keyed) (lo n : Nat) : List Keyed := (xs.toList.drop lo).take n
theorem zeI {xs : Array Keyed} {lo n i : Nat} (h : lo + n ≤ xs.size) (hi : i < n) : (seg xs lo n)[i]? = xs[lo + i]? := by
 unfold seg
 rw [List.getElem?_take, if_pos hi, List.getElem?_drop, Array.getElem?_toList]
theorem zb7 {xs : Array Keyed} {lo n : Nat} (h : lo + n ≤ xs.size) : (seg xs lo n).length = n := by
 unfold seg
 rw [List.length_take, List.length_drop, Array.length_toList]
 omega
theorem zmy {xs : Array Keyed} {lo n : Nat} (h : lo + n ≤ xs.size) (hU : Up κ xs lo (lo + n)) : SL κ (seg xs lo n) := by
 rw [SL, List.pairwise_iff_getElem]
 intro i j hi hj hij
 have hi' := hi
 have hj' := hj
 rw [zb7 h] at hi' hj'
 have e1 : (seg xs lo n)[i] = xs[lo + i]'(by omega) := by
  have := zeI h hi'
  rw [List.getElem?_eq_getElem hi, Array.getElem?_eq_getElem (by omega)] at this
  exact Option.some.inj this
 have e2 : (seg xs lo n)[j] = xs[lo + j]'(by omega) := by
  have := zeI h hj'
  rw [List.getElem?_eq_getElem hj, Array.getElem?_eq_getElem (by omega)] at this
  exact Option.some.inj this
 rw [e1, e2]
 have := hU (lo + i) (lo + j) (by omega) (by omega) (by omega)
 rw [za1 (by omega), za1 (by omega)] at this
 exact this
theorem ziY {xs : Array Keyed} {lo n m : Nat} : seg xs lo (n + m) = seg xs lo n ++ seg xs (lo + n) m := by
 unfold seg
 rw [List.take_add, List.drop_drop]
theorem zfT {xs : Array Keyed} {lo n : Nat} : (xs.extract lo (lo + n)).toList = seg xs lo n := zds
theorem zj0 {xs : Array Keyed} {lo n : Nat} (h : lo + n ≤ xs.size) : xs.toList = xs.toList.take lo ++ (seg xs lo n ++ xs.toList.drop (lo + n)) := by
 unfold seg
 rw [← List.drop_drop, List.take_append_drop, List.take_append_drop]
def back (xs : Array Keyed) (lo : Nat) (m : Array Keyed) : Array Keyed := m.toList.zipIdx.foldl (fun a (q : Keyed × Nat) => a.setIfInBounds (lo + q.2) q.1) xs
theorem zhS (lo : Nat) : ∀ (l : List Keyed) (k : Nat) (xs : Array Keyed), lo + k + l.length ≤ xs.size → ∀ i : Nat,
  ((l.zipIdx k).foldl (fun a (q : Keyed × Nat) => a.setIfInBounds (lo + q.2) q.1) xs)[i]? = if lo + k ≤ i ∧ i < lo + k + l.length then l[i - (lo + k)]? else xs[i]?
 | [], k, xs, h, i => by
  rw [if_neg (by simp only [List.length_nil]; omega)]
  rfl
 | x :: l, k, xs, h, i => by
  rw [List.length_cons] at h
  rw [List.zipIdx_cons, List.foldl_cons, zhS lo l (k + 1) (xs.setIfInBounds (lo + k) x) (by rw [Array.size_setIfInBounds]; omega) i, List.length_cons]
  by_cases h1 : lo + (k + 1) ≤ i ∧ i < lo + (k + 1) + l.length
  ·rw [if_pos h1, if_pos (by omega), show i - (lo + k) = (i - (lo + (k + 1))) + 1 by omega, List.getElem?_cons_succ]
  ·rw [if_neg h1, Array.getElem?_setIfInBounds]
   by_cases h2 : lo + k = i
   ·rw [if_pos h2, if_pos (by omega), if_pos (by omega)]
    subst h2
    simp
   ·rw [if_neg h2, if_neg (by omega)]
theorem zlh {xs m : Array Keyed} {lo : Nat} (h : lo + m.size ≤ xs.size) : (back xs lo m).toList = xs.toList.take lo ++ (m.toList ++ xs.toList.drop (lo + m.size)) := by
 apply List.ext_getElem?
 intro i
 have q := zhS lo m.toList 0 xs (by rw [Array.length_toList]; omega) i
 unfold back
 rw [Array.getElem?_toList, q, Array.length_toList, Nat.add_zero]
 have l1 : (xs.toList.take lo).length = lo := by rw [List.length_take, Array.length_toList]; omega
 by_cases h1 : i < lo
 ·rw [if_neg (by omega), List.getElem?_append_left (by rw [l1]; exact h1), List.getElem?_take, if_pos h1, Array.getElem?_toList]
 ·rw [List.getElem?_append_right (by rw [l1]; omega), l1]
  by_cases h2 : i < lo + m.size
  ·rw [if_pos (by omega), List.getElem?_append_left (by rw [Array.length_toList]; omega)]
  ·rw [if_neg (by omega), List.getElem?_append_right (by rw [Array.length_toList]; omega), Array.length_toList, List.getElem?_drop, show lo + m.size + (i - lo - m.size) = i by omega, Array.getElem?_toList]
theorem zd5 {xs m : Array Keyed} {lo : Nat} (h : lo + m.size ≤ xs.size) (i : Nat) : (back xs lo m)[i]? = if lo ≤ i ∧ i < lo + m.size then m[i - lo]? else xs[i]? := by
 have q := zhS lo m.toList 0 xs (by rw [Array.length_toList]; omega) i
 rw [Array.length_toList, Nat.add_zero, Array.getElem?_toList] at q
 exact q
theorem zfS {xs : Array Keyed} {lo n : Nat} {p : Keyed} (h : lo + n ≤ xs.size) (hp : p ∈ seg xs lo n) : ∃ q, lo ≤ q ∧ q < lo + n ∧ xs[q]? = some p := by
 obtain ⟨i, hi, e⟩ := List.getElem_of_mem hp
 have hi' := hi
 rw [zb7 h] at hi'
 refine ⟨lo + i, by omega, by omega, ?_⟩
 rw [← zeI h hi', List.getElem?_eq_getElem hi, e]
theorem zjb {xs m : Array Keyed} {sa na nb k nb' : Nat} (hz : sa + na + nb ≤ xs.size) (ua : Up κ xs sa (sa + na)) (ub : Up κ xs (sa + na) (sa + na + nb)) (hk : k < na) (hnb : nb' ≤ nb) (hb0 : 0 < nb')
  (k2 : ∀ i, i < k → κ.kle (kAt κ xs (sa + i)) (kAt κ xs (sa + na))) (c3 : ∀ i, nb' ≤ i → i < nb → κ.kle (kAt κ xs (sa + na - 1)) (kAt κ xs (sa + na + i)))
  (hm : zbV κ (xs.extract (sa + k) (sa + na)) (xs.extract (sa + na) (sa + na + nb')) m) :
  Off xs (back xs (sa + k) m) sa (sa + (na + nb)) ∧ Up κ (back xs (sa + k) m) sa (sa + (na + nb)) := by
 have ex : (xs.extract (sa + k) (sa + na)).toList = seg xs (sa + k) (na - k) := by
  have := zfT (xs := xs) (lo := sa + k) (n := na - k)
  rwa [show sa + k + (na - k) = sa + na by omega] at this
 have ey : (xs.extract (sa + na) (sa + na + nb')).toList = seg xs (sa + na) nb' := zfT
 have hp := hm.perm
 rw [ex, ey] at hp
 have ms : m.size = na - k + nb' := by
  have := hp.length_eq
  rw [Array.length_toList, List.length_append, zb7 (by omega), zb7 (by omega)] at this
  exact this
 have hzm : sa + k + m.size ≤ xs.size := by omega
 have bl := zlh hzm
 have mid : seg xs (sa + k) m.size = seg xs (sa + k) (na - k) ++ seg xs (sa + na) nb' := by
  rw [ms, ziY, show sa + k + (na - k) = sa + na by omega]
 have perm : (back xs (sa + k) m).toList.Perm xs.toList := by
  have e := zj0 hzm
  rw [mid] at e
  refine (List.Perm.of_eq bl).trans (List.Perm.trans ?_ (List.Perm.of_eq e.symm))
  exact List.Perm.append_left _ (List.Perm.append_right _ hp)
 have inm : ∀ i, sa + k ≤ i → i < sa + k + m.size → ∃ q, sa + k ≤ q ∧ q < sa + na + nb' ∧ kAt κ (back xs (sa + k) m) i = kAt κ xs q := by
  intro i h1 h2
  have g := zd5 hzm i
  rw [if_pos ⟨h1, h2⟩, Array.getElem?_eq_getElem (show i - (sa + k) < m.size by omega)] at g
  have hmem : m[i - (sa + k)]'(by omega) ∈ m.toList := by simp
  rcases List.mem_append.mp (hp.mem_iff.mp hmem) with z | z
  ·obtain ⟨q, q1, q2, e⟩ := zfS (by omega) z
   exact ⟨q, q1, by omega, zbm (g.trans e.symm)⟩
  ·obtain ⟨q, q1, q2, e⟩ := zfS (by omega) z
   exact ⟨q, by omega, q2, zbm (g.trans e.symm)⟩
 have outm : ∀ i, (i < sa + k ∨ sa + k + m.size ≤ i) → kAt κ (back xs (sa + k) m) i = kAt κ xs i := fun i h => zbm (by rw [zd5 hzm, if_neg (by omega)])
 have am : ∀ i q, sa ≤ i → i < sa + k → sa + k ≤ q → q < sa + na + nb → κ.kle (kAt κ xs i) (kAt κ xs q) := fun i q h1 h2 h3 h4 => by
  by_cases z : q < sa + na
  ·exact ua i q h1 (by omega) z
  ·have t := k2 (i - sa) (by omega)
   rw [show sa + (i - sa) = i by omega] at t
   exact KeyOrd.kle_trans t (ub _ q (Nat.le_refl _) (by omega) h4)
 have mc : ∀ q j, sa + k ≤ q → q < sa + na + nb' → sa + na + nb' ≤ j → j < sa + na + nb → κ.kle (kAt κ xs q) (kAt κ xs j) := fun q j h1 h2 h3 h4 => by
  by_cases z : q < sa + na
  ·have t := c3 (j - (sa + na)) (by omega) (by omega)
   rw [show sa + na + (j - (sa + na)) = j by omega] at t
   exact KeyOrd.kle_trans (ua q (sa + na - 1) (by omega) (by omega) (by omega)) t
  ·exact ub q j (by omega) (by omega) h4
 refine ⟨⟨Array.perm_iff_toList_perm.mpr perm, fun i hi => by rw [zd5 hzm, if_neg (by omega)]⟩, fun i j h1 h2 h3 => ?_⟩
 by_cases i1 : i < sa + k
 ·rw [outm i (.inl i1)]
  by_cases j1 : j < sa + k
  ·rw [outm j (.inl j1)]; exact ua i j h1 h2 (by omega)
  ·by_cases j2 : j < sa + k + m.size
   ·obtain ⟨q, q1, q2, e⟩ := inm j (by omega) j2
    rw [e]; exact am i q h1 i1 q1 (by omega)
   ·rw [outm j (.inr (by omega))]; exact am i j h1 i1 (by omega) (by omega)
 ·by_cases i2 : i < sa + k + m.size
  ·by_cases j2 : j < sa + k + m.size
   ·by_cases e : i = j
    ·subst e; exact KeyOrd.kle_refl _
    ·have gi := zd5 hzm i
     have gj := zd5 hzm j
     rw [if_pos ⟨by omega, i2⟩] at gi
     rw [if_pos ⟨by omega, j2⟩] at gj
     rw [zbm gi, zbm gj, za1 (show i - (sa + k) < m.size by omega), za1 (show j - (sa + k) < m.size by omega)]
     have := List.pairwise_iff_getElem.mp hm.srt (i - (sa + k)) (j - (sa + k)) (by rw [Array.length_toList]; omega) (by rw [Array.length_toList]; omega) (by omega)
     simpa [le] using this
   ·obtain ⟨q, q1, q2, e⟩ := inm i (by omega) i2
    rw [e, outm j (.inr (by omega))]; exact mc q j q1 q2 (by omega) (by omega)
  ·rw [outm i (.inr (by omega)), outm j (.inr (by omega))]; exact ub i j (by omega) h2 (by omega)
theorem zjF {xs : Array Keyed} {sa na nb : Nat} (ua : Up κ xs sa (sa + na)) (ub : Up κ xs (sa + na) (sa + na + nb)) (hna : 0 < na) (hle : κ.kle (kAt κ xs (sa + na - 1)) (kAt κ xs (sa + na))) : Up κ xs sa (sa + (na + nb)) := by
 intro i j h1 h2 h3
 by_cases z : j < sa + na
 ·exact ua i j h1 h2 z
 ·by_cases y : i < sa + na
  ·exact KeyOrd.kle_trans (ua i (sa + na - 1) h1 (by omega) (by omega)) (KeyOrd.kle_trans hle (ub (sa + na) j (Nat.le_refl _) (by omega) (by omega)))
  ·exact ub i j (by omega) h2 (by omega)
end
end Tim
namespace Tim
open PySem PyProof.Rows
set_option autoImplicit false
theorem zhq (i : Nat) : mergeAt' i = (do
 let s ← get
 let (some (sa, na, power), some (sb, nb, _)) := ((pendingOf s)[i]?, (pendingOf s)[i + 1]?) | unsupported "internal:list.sort.pending"
 set (setPending s (((pendingOf s).setIfInBounds i (sa, na + nb, power)).eraseIdxIfInBounds (i + 1)))
 let some k ← zhD false (← elem' (arrOf s) sb) (arrOf s) sa na 0 | return false
 let (sa, na) := (sa + k, na - k)
 if na == 0 then return true
 let some nb ← zhD true (← elem' (arrOf s) (sa + na - 1)) (arrOf s) sb nb (nb - 1) | return false
 if nb == 0 then return true
 let x := (arrOf s).extract sa sb
 let y := (arrOf s).extract sb (sb + nb)
 let merged ← if na ≤ nb then zik x y else zil x y
 modify fun s => setArr s (merged.toList.zipIdx.foldl (fun a (p, j) => a.setIfInBounds (sa + j) p) (arrOf s))
 return (failedOf (← get)).isNone) := rfl
section
variable {prog : Program} {w : World} {A : Around} {E : Value → Shared → Prop} {s : Shared} {κ : KeyKind} {kd : SortKind}
theorem zmT {σ : Type} {x : σ} {Q : PUnit → σ → Prop} {st : σ} (h : Q ⟨⟩ x) : wpS (model prog w) A E s (set x : StateT σ Sem PUnit) Q st := by
 unfold wpS; rw [StateT.run_set]; exact wpAny_pure ⟨rfl, h⟩
set_option maxHeartbeats 4000000 in
theorem ziO {st : SortSt} {N i sa na pa nb pb : Nat} {Q : Bool → SortSt → Prop} (hO : LtG prog w A s κ kd) (hB : TB κ kd N st)
  (h1 : (pendingOf st)[i]? = some (sa, na, pa)) (h2 : (pendingOf st)[i + 1]? = some (sa + na, nb, pb)) (hna : 0 < na) (hnb : 0 < nb) (hz : sa + na + nb ≤ N)
  (ua : Up κ (arrOf st) sa (sa + na)) (ub : Up κ (arrOf st) (sa + na) (sa + na + nb))
  (h : ∀ st', TB κ kd N st' → Off (arrOf st) (arrOf st') sa (sa + (na + nb)) → Up κ (arrOf st') sa (sa + (na + nb)) → pendingOf st' = ((pendingOf st).setIfInBounds i (sa, na + nb, pa)).eraseIdxIfInBounds (i + 1) → Q true st') :
  wpS (model prog w) A E s (mergeAt' i) Q st := by
 have hsz := hB.size
 rw [zhq]
 refine wpS_bind (wpS_get ?_)
 rw [h1, h2]
 dsimp only
 refine wpS_bind (zmT ?_)
 generalize hp : ((pendingOf st).setIfInBounds i (sa, na + nb, pa)).eraseIdxIfInBounds (i + 1) = pend at h
 have same : ∀ st', SG (setPending st pend) st' → TB κ kd N st' ∧ arrOf st' = arrOf st ∧ pendingOf st' = pend := fun st' g => by
  have ga : arrOf st' = arrOf st := g.arr
  refine ⟨⟨g.kind.trans hB.kind, by rw [ga]; exact hB.keys, g.failed.trans hB.failed, by rw [ga]; exact hB.size⟩, ga, g.pend⟩
 obtain ⟨B0, _, _⟩ := same _ (SG.refl _)
 have hbz : sa + na < (arrOf st).size := by omega
 refine wpS_bind (zaH hbz ?_)
 refine wpS_bind (zbR hO B0.kind (hB.keys _ (by simp)) hB.keys (by omega) hna ua fun k k1 k2 k3 => ?_)
 dsimp only
 have kk : kAt κ (arrOf st) (sa + na) = ky κ (arrOf st)[sa + na] := za1 hbz
 have k2' : ∀ i, i < k → κ.kle (kAt κ (arrOf st) (sa + i)) (kAt κ (arrOf st) (sa + na)) := fun i hi => by
  have := k2 i hi
  unfold bey at this
  simp only [Bool.false_eq_true, if_false, Bool.not_eq_true'] at this
  rw [kk]
  exact this
 have k3' : ∀ i, k ≤ i → i < na → κ.klt (kAt κ (arrOf st) (sa + na)) (kAt κ (arrOf st) (sa + i)) := fun i hi hj => by
  have := k3 i hi hj
  unfold bey at this
  simp only [Bool.false_eq_true, if_false, Bool.not_eq_false'] at this
  rw [kk]
  exact this
 by_cases e1 : na - k = 0
 ·rw [if_pos (by simpa using e1)]
  obtain ⟨b1, b2, b3⟩ := same _ (SG.refl _)
  refine wpS_pure (h _ b1 (by rw [b2]; exact Off.refl _ _ _) ?_ b3)
  rw [b2]
  refine zjF ua ub hna ?_
  have := k2' (na - 1) (by omega)
  rwa [show sa + (na - 1) = sa + na - 1 by omega] at this
 rw [if_neg (by simpa using e1)]
 have e2 : sa + k + (na - k) - 1 = sa + na - 1 := by omega
 have hlz : sa + k + (na - k) - 1 < (arrOf st).size := by omega
 refine wpS_bind (zaH hlz ?_)
 refine wpS_bind (zbR hO B0.kind (hB.keys _ (by simp)) hB.keys (by omega) (by omega) ub fun c c1 c2 c3 => ?_)
 dsimp only
 have ck : ky κ ((arrOf st)[sa + k + (na - k) - 1]'hlz) = kAt κ (arrOf st) (sa + na - 1) := by
  rw [← za1 hlz, e2]
 have c2' : ∀ i, i < c → κ.klt (kAt κ (arrOf st) (sa + na + i)) (kAt κ (arrOf st) (sa + na - 1)) := fun i hi => by
  have := c2 i hi
  unfold bey at this
  simp only [if_true] at this
  rw [← ck]
  exact this
 have c3' : ∀ i, c ≤ i → i < nb → κ.kle (kAt κ (arrOf st) (sa + na - 1)) (kAt κ (arrOf st) (sa + na + i)) := fun i hi hj => by
  have := c3 i hi hj
  unfold bey at this
  simp only [if_true] at this
  rw [← ck]
  exact this
 by_cases e3 : c = 0
 ·rw [if_pos (by simpa using e3)]
  obtain ⟨b1, b2, b3⟩ := same _ (SG.refl _)
  refine wpS_pure (h _ b1 (by rw [b2]; exact Off.refl _ _ _) ?_ b3)
  rw [b2]
  exact zjF ua ub hna (c3' 0 (by omega) hnb)
 rw [if_neg (by simpa using e3)]
 generalize hX : (arrOf st).extract (sa + k) (sa + na) = X
 generalize hY : (arrOf st).extract (sa + na) (sa + na + c) = Y
 have xl : X.toList = seg (arrOf st) (sa + k) (na - k) := by
  have := zfT (xs := arrOf st) (lo := sa + k) (n := na - k)
  rw [← hX]
  rwa [show sa + k + (na - k) = sa + na by omega] at this
 have yl : Y.toList = seg (arrOf st) (sa + na) c := by rw [← hY]; exact zfT
 have xz : X.size = na - k := by
  have := congrArg List.length xl
  rwa [Array.length_toList, zb7 (by omega)] at this
 have yz : Y.size = c := by
  have := congrArg List.length yl
  rwa [Array.length_toList, zb7 (by omega)] at this
 have xg : ∀ i (hi : i < X.size), X[i] = (arrOf st)[sa + k + i]'(by omega) := fun i hi => by
  have e : X[i]? = (arrOf st)[sa + k + i]? := by
   rw [← Array.getElem?_toList, xl]
   exact zeI (by omega) (by omega)
  rw [Array.getElem?_eq_getElem hi, Array.getElem?_eq_getElem (by omega)] at e
  exact Option.some.inj e
 have yg : ∀ i (hi : i < Y.size), Y[i] = (arrOf st)[sa + na + i]'(by omega) := fun i hi => by
  have e : Y[i]? = (arrOf st)[sa + na + i]? := by
   rw [← Array.getElem?_toList, yl]
   exact zeI (by omega) (by omega)
  rw [Array.getElem?_eq_getElem hi, Array.getElem?_eq_getElem (by omega)] at e
  exact Option.some.inj e
 have xm : ∀ q ∈ X.toList, ∃ i, k ≤ i ∧ i < na ∧ ky κ q = kAt κ (arrOf st) (sa + i) ∧ q ∈ (arrOf st).toList := fun q hq => by
  rw [xl] at hq
  obtain ⟨j, j1, j2, e⟩ := zfS (by omega) hq
  refine ⟨j - sa, by omega, by omega, ?_, ?_⟩
  ·rw [show sa + (j - sa) = j by omega, zb4 e]
  ·rw [← Array.getElem?_toList] at e
   exact List.mem_of_getElem? e
 have ym : ∀ q ∈ Y.toList, ∃ i, i < c ∧ ky κ q = kAt κ (arrOf st) (sa + na + i) ∧ q ∈ (arrOf st).toList := fun q hq => by
  rw [yl] at hq
  obtain ⟨j, j1, j2, e⟩ := zfS (by omega) hq
  refine ⟨j - (sa + na), by omega, ?_, ?_⟩
  ·rw [show sa + na + (j - (sa + na)) = j by omega, zb4 e]
  ·rw [← Array.getElem?_toList] at e
   exact List.mem_of_getElem? e
 have kX : ∀ q ∈ X.toList, Keyd κ q := fun q hq => by obtain ⟨_, _, _, _, z⟩ := xm q hq; exact hB.keys q z
 have kY : ∀ q ∈ Y.toList, Keyd κ q := fun q hq => by obtain ⟨_, _, _, z⟩ := ym q hq; exact hB.keys q z
 have sX : SL κ X.toList := by
  rw [xl]
  exact zmy (by omega) (fun i j q1 q2 q3 => ua i j (by omega) q2 (by omega))
 have sY : SL κ Y.toList := by
  rw [yl]
  exact zmy (by omega) (fun i j q1 q2 q3 => ub i j q1 q2 (by omega))
 have y0 : ∀ (hb : 0 < Y.size), ky κ Y[0] = kAt κ (arrOf st) (sa + na) := fun hb => by
  rw [yg 0 hb, ← za1]
  rfl
 have lo0 : ∀ (hb : 0 < Y.size), ∀ q ∈ X.toList, le κ Y[0] q := fun hb q hq => by
  obtain ⟨i, i1, i2, e, _⟩ := xm q hq
  unfold le
  rw [y0 hb, e]
  exact KeyOrd.kle_of_klt (k3' i i1 i2)
 have xlast : ∀ (ha : X.size - 1 < X.size), ky κ X[X.size - 1] = kAt κ (arrOf st) (sa + na - 1) := fun ha => by
  rw [xg _ ha, ← za1]
  congr 1
  omega
 have hi0 : ∀ (ha : X.size - 1 < X.size), ∀ q ∈ Y.toList, le κ q X[X.size - 1] := fun ha q hq => by
  obtain ⟨i, i1, e, _⟩ := ym q hq
  unfold le
  rw [xlast ha, e]
  exact KeyOrd.kle_of_klt (c2' i i1)
 have fin : ∀ m st', zbV κ X Y m → SG (setPending st pend) st' → wpS (model prog w) A E s (do
   modify fun s => setArr s (m.toList.zipIdx.foldl (fun a (q : Keyed × Nat) => a.setIfInBounds (sa + k + q.2) q.1) (arrOf s))
   return (failedOf (← get)).isNone) Q st' := fun m st' hm g => by
  obtain ⟨b1, b2, b3⟩ := same _ g
  refine wpS_bind (wpS_modify ?_)
  refine wpS_bind (wpS_get ?_)
  have hf : failedOf (setArr st' (m.toList.zipIdx.foldl (fun a (q : Keyed × Nat) => a.setIfInBounds (sa + k + q.2) q.1) (arrOf st'))) = none := b1.failed
  rw [hf]
  rw [← hX, ← hY] at hm
  obtain ⟨o1, o2⟩ := zjb (by omega) ua ub (by omega) c1 (by omega) k2' c3' hm
  refine wpS_pure (h _ ?_ ?_ ?_ b3)
  ·refine b1.off (lo := sa) (hi := sa + (na + nb)) ?_
   rw [b2]
   exact o1
  ·show Off (arrOf st) (back (arrOf st') (sa + k) m) _ _
   rw [b2]
   exact o1
  ·show Up κ (back (arrOf st') (sa + k) m) _ _
   rw [b2]
   exact o2
 by_cases e4 : na - k ≤ c
 ·rw [if_pos e4]
  refine wpS_bind ?_
  refine ziM hO B0.kind kX kY sX sY (by omega) (by omega) (lo0 _) ?_ fun m st' hm g => fin m st' hm g
  intro q hq i hi x hx
  have : x = X[X.size - 1]'(by omega) := by
   rw [show i = X.size - 1 by omega, zd2 (by omega), List.drop_eq_nil_of_le (by rw [Array.length_toList]; omega)] at hx
   exact List.mem_singleton.mp hx
  rw [this]
  exact hi0 _ q hq
 ·rw [if_neg e4]
  refine wpS_bind ?_
  exact ziN hO B0.kind kX kY sX sY (by omega) (by omega) (lo0 _) (hi0 (by omega)) fun m st' hm g => fin m st' hm g
end
end Tim
namespace Tim
open PySem PyProof.Rows
set_option autoImplicit false
section
variable {κ : KeyKind} {xs ys : Array Keyed}
def Runs (κ : KeyKind) (xs : Array Keyed) : List (Nat × Nat × Nat) → Nat → Nat → Prop
 | [], a, b => a = b
 | (s, n, _) :: r, a, b => s = a ∧ 0 < n ∧ Up κ xs a (a + n) ∧ Runs κ xs r (a + n) b
theorem Runs.le : ∀ {l : List (Nat × Nat × Nat)} {a b : Nat}, Runs κ xs l a b → a + l.length ≤ b
 | [], _, _, h => by rw [show _ = _ from h]; simp
 | (s, n, p) :: r, a, b, ⟨_, h1, _, h2⟩ => by
  have := Runs.le h2
  rw [List.length_cons]
  omega
theorem Runs.split : ∀ {l m : List (Nat × Nat × Nat)} {a b : Nat}, Runs κ xs (l ++ m) a b → ∃ c, Runs κ xs l a c ∧ Runs κ xs m c b
 | [], m, a, b, h => ⟨a, rfl, h⟩
 | (s, n, p) :: r, m, a, b, ⟨h0, h1, h2, h3⟩ => by
  obtain ⟨c, c1, c2⟩ := Runs.split (l := r) h3
  exact ⟨c, ⟨h0, h1, h2, c1⟩, c2⟩
theorem Runs.glue : ∀ {l m : List (Nat × Nat × Nat)} {a b c : Nat}, Runs κ xs l a c → Runs κ xs m c b → Runs κ xs (l ++ m) a b
 | [], m, a, b, c, h, g => by rw [show a = c from h]; exact g
 | (s, n, p) :: r, m, a, b, c, ⟨h0, h1, h2, h3⟩, g => ⟨h0, h1, h2, Runs.glue h3 g⟩
theorem Up.off {lo hi a b : Nat} (h : Up κ xs a b) (o : Off xs ys lo hi) (d : b ≤ lo ∨ hi ≤ a) : Up κ ys a b := fun i j h1 h2 h3 => by
 rw [zhz o (by omega), zhz o (by omega)]
 exact h i j h1 h2 h3
theorem Runs.off {lo hi : Nat} (o : Off xs ys lo hi) : ∀ {l : List (Nat × Nat × Nat)} {a b : Nat}, Runs κ xs l a b → (b ≤ lo ∨ hi ≤ a) → Runs κ ys l a b
 | [], _, _, h, _ => h
 | (s, n, p) :: r, a, b, ⟨h0, h1, h2, h3⟩, d => by
  have := Runs.le h3
  exact ⟨h0, h1, h2.off o (by omega), Runs.off o h3 (by omega)⟩
theorem zgx {α : Type} {x y v : α} {post : List α} : ∀ pre : List α, ((pre ++ x :: y :: post).set pre.length v).eraseIdx (pre.length + 1) = pre ++ v :: post
 | [] => rfl
 | p :: pre => by
  rw [List.cons_append, List.length_cons, List.set_cons_succ, List.eraseIdx_cons_succ, zgx pre, List.cons_append]
end
section
variable {prog : Program} {w : World} {A : Around} {E : Value → Shared → Prop} {s : Shared} {κ : KeyKind} {kd : SortKind}
structure SI (κ : KeyKind) (kd : SortKind) (a₀ : Array Keyed) (lo : Nat) (st : SortSt) : Prop where
 tb : TB κ kd a₀.size st
 perm : (arrOf st).Perm a₀
 le : lo ≤ a₀.size
 runs : Runs κ (arrOf st) (pendingOf st).toList 0 lo
theorem zc7 {a₀ : Array Keyed} {st : SortSt} {lo i : Nat} {Q : Bool → SortSt → Prop} (hO : LtG prog w A s κ kd) (hI : SI κ kd a₀ lo st) (hi : i + 1 < (pendingOf st).size)
  (h : ∀ st', SI κ kd a₀ lo st' → Off (arrOf st) (arrOf st') 0 lo → (pendingOf st').size + 1 = (pendingOf st).size → Q true st') : wpS (model prog w) A E s (mergeAt' i) Q st := by
 have hl : (pendingOf st).toList.length = (pendingOf st).size := Array.length_toList
 obtain ⟨pre, x, y, post, e, hp⟩ : ∃ pre x y post, (pendingOf st).toList = pre ++ x :: y :: post ∧ pre.length = i := by
  refine ⟨(pendingOf st).toList.take i, (pendingOf st).toList[i]'(by omega), (pendingOf st).toList[i + 1]'(by omega), (pendingOf st).toList.drop (i + 2), ?_, ?_⟩
  ·rw [← List.drop_eq_getElem_cons, ← List.drop_eq_getElem_cons, List.take_append_drop]
  ·rw [List.length_take]
   omega
 obtain ⟨sa, na, pa⟩ := x
 obtain ⟨sb, nb, pb⟩ := y
 have hr := hI.runs
 rw [e] at hr
 obtain ⟨c, r1, h0, h1, ua, h2, h3, ub, r2⟩ := hr.split
 subst h0 h2
 have l1 := r2.le
 have l0 := hI.le
 have g1 : (pendingOf st)[i]? = some (sa, na, pa) := by
  rw [← Array.getElem?_toList, e, ← hp]
  simp
 have g2 : (pendingOf st)[i + 1]? = some (sa + na, nb, pb) := by
  rw [← Array.getElem?_toList, e, ← hp, List.getElem?_append_right (by omega), show pre.length + 1 - pre.length = 1 by omega]
  rfl
 refine ziO hO hI.tb g1 g2 h1 h3 (by omega) ua ub fun st' b1 b2 b3 b4 => ?_
 have e' : (pendingOf st').toList = pre ++ (sa, na + nb, pa) :: post := by
  rw [b4, Array.toList_eraseIdxIfInBounds, Array.toList_setIfInBounds, e, ← hp]
  exact zgx pre
 refine h st' ⟨b1, b2.perm.trans hI.perm, hI.le, ?_⟩ (b2.wide (Nat.zero_le _) (by omega)) ?_
 ·rw [e']
  refine (r1.off b2 (.inl (Nat.le_refl _))).glue ⟨rfl, by omega, b3, ?_⟩
  have := r2.off b2 (.inr (by omega))
  rwa [show sa + na + nb = sa + (na + nb) by omega] at this
 ·have z1 := congrArg List.length e
  have z2 := congrArg List.length e'
  rw [Array.length_toList, List.length_append, List.length_cons] at z1 z2
  rw [List.length_cons] at z1
  omega
end
end Tim
namespace Tim
open PySem PyProof.Rows
set_option autoImplicit false
section
variable {prog : Program} {w : World} {A : Around} {E : Value → Shared → Prop} {s : Shared} {κ : KeyKind} {kd : SortKind}
theorem Runs.modify {xs : Array Keyed} {p : Nat} : ∀ {l : List (Nat × Nat × Nat)} {a b : Nat} (i : Nat), Runs κ xs l a b → Runs κ xs (l.modify i fun x => (x.fst, x.2.fst, p)) a b
 | [], _, _, i, h => by
  cases i <;> exact h
 | (s, n, q) :: r, a, b, 0, h => h
 | (s, n, q) :: r, a, b, i + 1, ⟨h0, h1, h2, h3⟩ => ⟨h0, h1, h2, Runs.modify i h3⟩
theorem SI.setp {a₀ : Array Keyed} {lo hi : Nat} {st : SortSt} {p : Array (Nat × Nat × Nat)} (hI : SI κ kd a₀ lo st) (hz : hi ≤ a₀.size) (hr : Runs κ (arrOf st) p.toList 0 hi) : SI κ kd a₀ hi (setPending st p) :=
 ⟨⟨hI.tb.kind, hI.tb.keys, hI.tb.failed, hI.tb.size⟩, hI.perm, hz, hr⟩
theorem SI.pushed {a₀ : Array Keyed} {st : SortSt} {lo n : Nat} (hI : SI κ kd a₀ lo st) (hn : 0 < n) (hz : lo + n ≤ a₀.size) (hU : Up κ (arrOf st) lo (lo + n)) : SI κ kd a₀ (lo + n) (setPending st ((pendingOf st).push (lo, n, 0))) := by
 refine hI.setp hz ?_
 rw [Array.toList_push]
 exact hI.runs.glue ⟨rfl, hn, hU, rfl⟩
theorem SI.marked {a₀ : Array Keyed} {st : SortSt} {lo p : Nat} (hI : SI κ kd a₀ lo st) : SI κ kd a₀ lo (setPending st ((pendingOf st).modify ((pendingOf st).size - 1) fun x => (x.fst, x.2.fst, p))) := by
 refine hI.setp hI.le ?_
 rw [Array.toList_modify]
 exact hI.runs.modify _
theorem zlt {c : Prop} [Decidable c] {n : Nat} (h : 2 ≤ n) : (if c then n - 2 - 1 else n - 2) + 1 < n := by
 split <;> omega
theorem zg9 {a₀ : Array Keyed} {st : SortSt} {Q : Unit → SortSt → Prop} (hO : LtG prog w A s κ kd) (hI : SI κ kd a₀ 0 st) (h2 : 2 ≤ a₀.size)
  (h : ∀ st', (arrOf st').Perm a₀ → failedOf st' = none → Up κ (arrOf st') 0 a₀.size → Q () st') : wpS (model prog w) A E s sortRuns' Q st := by
 rw [sortRuns'_eq]
 refine wpS_bind (wpS_get ?_)
 dsimp only
 simp only [hI.tb.size]
 generalize minRun' a₀.size a₀.size 0 = mr
 refine wpS_bind (wpS_mono (wpS_forRange (I := fun x c st' => ∃ lo, c = (none, lo) ∧ x ≤ lo ∧ SI κ kd a₀ lo st') (Q := fun c st' => c = (none, a₀.size) ∧ SI κ kd a₀ a₀.size st') ?step ?fin ⟨0, rfl, Nat.le_refl _, hI⟩) ?post)
 case fin =>
  rintro c st' ⟨lo, rfl, hx, hI'⟩
  have e : lo = a₀.size := by
   have := hI'.le
   omega
  subst e
  exact ⟨rfl, hI'⟩
 case step =>
  rintro x c st' _ hx ⟨lo, rfl, hxl, hI'⟩
  have hle := hI'.le
  dsimp only
  by_cases hlo : lo ≥ a₀.size
  ·rw [if_pos hlo]
   have e : lo = a₀.size := by omega
   subst e
   exact wpS_pure ⟨rfl, hI'⟩
  ·rw [if_neg hlo]
   refine wpS_bind (zha hO hI'.tb (by omega) (by omega) fun r st2 hr => ?_)
   obtain ⟨n, ys, rfl, n1, n2, rfl, ho, hU⟩ := hr
   have hI2 : SI κ kd a₀ lo (setArr st' ys) := ⟨hI'.tb.off ho, ho.perm.trans hI'.perm, hle, hI'.runs.off ho (.inl (Nat.le_refl _))⟩
   dsimp only
   by_cases hmr : n < mr
   ·rw [if_pos hmr]
    refine wpS_bind (zcQ (wpS_bind (zfL hO hI2.tb (by omega) (by omega) hU fun zs oz uz => ?_)))
    simp only [Bool.not_true, Bool.false_eq_true, if_false]
    have hI3 : SI κ kd a₀ lo (setArr st' zs) := ⟨hI2.tb.off oz, oz.perm.trans hI2.perm, hle, hI2.runs.off oz (.inl (Nat.le_refl _))⟩
    refine wpS_bind (wpS_get ?_)
    cases hb : (pendingOf (setArr st' zs)).back? with
    | none =>
     dsimp only
     exact wpS_bind (wpS_modify (wpS_pure ⟨_, rfl, by omega, hI3.pushed (by omega) (by omega) uz⟩))
    | some x1 =>
     obtain ⟨s1, n1', p1⟩ := x1
     dsimp only
     refine wpS_bind (wpS_mono (wpS_forRange (I := fun _ c st5 => c = (none, ()) ∧ SI κ kd a₀ lo st5 ∧ Up κ (arrOf st5) lo (lo + (min (a₀.size - lo) mr))) (Q := fun c st5 => c = (none, ()) ∧ SI κ kd a₀ lo st5 ∧ Up κ (arrOf st5) lo (lo + (min (a₀.size - lo) mr))) ?_ (fun _ _ z => z) ⟨rfl, hI3, uz⟩) ?_)
     ·rintro i c st5 _ _ ⟨rfl, hI5, hU5⟩
      refine wpS_bind (wpS_get ?_)
      by_cases h1 : (pendingOf st5).size > 1
      ·rw [if_pos h1, Array.getElem?_eq_getElem (by omega)]
       obtain ⟨q1, q2, q3⟩ := (pendingOf st5)[(pendingOf st5).size - 2]'(by omega)
       dsimp only
       split
       ·exact wpS_pure ⟨rfl, hI5, hU5⟩
       ·refine wpS_bind (zc7 hO hI5 (by omega) fun st6 h3 h4 _ => ?_)
        simp only [Bool.not_true, Bool.false_eq_true, if_false]
        exact wpS_pure ⟨rfl, h3, hU5.off h4 (.inr (Nat.le_refl _))⟩
      ·rw [if_neg h1]
       exact wpS_pure ⟨rfl, hI5, hU5⟩
     ·rintro c st5 ⟨rfl, hI5, hU5⟩
      dsimp only
      exact wpS_bind (wpS_modify (wpS_bind (wpS_modify (wpS_pure ⟨_, rfl, by omega, SI.pushed (SI.marked hI5) (by omega) (by omega) hU5⟩))))
   ·rw [if_neg hmr]
    refine wpS_bind (wpS_get ?_)
    cases hb : (pendingOf (setArr st' ys)).back? with
    | none =>
     dsimp only
     exact wpS_bind (wpS_modify (wpS_pure ⟨_, rfl, by omega, hI2.pushed (by omega) (by omega) hU⟩))
    | some x1 =>
     obtain ⟨s1, n1', p1⟩ := x1
     dsimp only
     refine wpS_bind (wpS_mono (wpS_forRange (I := fun _ c st5 => c = (none, ()) ∧ SI κ kd a₀ lo st5 ∧ Up κ (arrOf st5) lo (lo + n)) (Q := fun c st5 => c = (none, ()) ∧ SI κ kd a₀ lo st5 ∧ Up κ (arrOf st5) lo (lo + n)) ?_ (fun _ _ z => z) ⟨rfl, hI2, hU⟩) ?_)
     ·rintro i c st5 _ _ ⟨rfl, hI5, hU5⟩
      refine wpS_bind (wpS_get ?_)
      by_cases h1 : (pendingOf st5).size > 1
      ·rw [if_pos h1, Array.getElem?_eq_getElem (by omega)]
       obtain ⟨q1, q2, q3⟩ := (pendingOf st5)[(pendingOf st5).size - 2]'(by omega)
       dsimp only
       split
       ·exact wpS_pure ⟨rfl, hI5, hU5⟩
       ·refine wpS_bind (zc7 hO hI5 (by omega) fun st6 h3 h4 _ => ?_)
        simp only [Bool.not_true, Bool.false_eq_true, if_false]
        exact wpS_pure ⟨rfl, h3, hU5.off h4 (.inr (Nat.le_refl _))⟩
      ·rw [if_neg h1]
       exact wpS_pure ⟨rfl, hI5, hU5⟩
     ·rintro c st5 ⟨rfl, hI5, hU5⟩
      dsimp only
      exact wpS_bind (wpS_modify (wpS_bind (wpS_modify (wpS_pure ⟨_, rfl, by omega, SI.pushed (SI.marked hI5) (by omega) (by omega) hU5⟩))))
 case post =>
  rintro c st' ⟨rfl, hI'⟩
  dsimp only
  refine wpS_bind (wpS_mono (wpS_forRange (I := fun x c st'' => c = (none, ()) ∧ SI κ kd a₀ a₀.size st'' ∧ (pendingOf st'').size + x ≤ a₀.size + 1) (Q := fun c st'' => c = (none, ()) ∧ SI κ kd a₀ a₀.size st'' ∧ (pendingOf st'').size ≤ 1) ?_ ?_ ⟨rfl, hI', ?_⟩) ?_)
  ·rintro x c st'' _ hx ⟨rfl, hJ, hz⟩
   refine wpS_bind (wpS_get ?_)
   by_cases h1 : (pendingOf st'').size ≤ 1
   ·rw [if_pos h1]
    exact wpS_pure ⟨rfl, hJ, h1⟩
   ·rw [if_neg h1]
    refine wpS_bind (zc7 hO hJ ?_ fun st3 h3 _ h4 => ?_)
    ·exact zlt (by omega)
    ·simp only [Bool.not_true, Bool.false_eq_true, if_false]
     exact wpS_pure ⟨rfl, h3, by omega⟩
  ·rintro c st'' ⟨rfl, hJ, hz⟩
   exact ⟨rfl, hJ, by omega⟩
  ·have := hI'.runs.le
   rw [Array.length_toList] at this
   omega
  ·rintro c st'' ⟨rfl, hJ, hz⟩
   dsimp only
   refine wpS_pure (h _ hJ.perm hJ.tb.failed ?_)
   have hr := hJ.runs
   rw [← Array.length_toList] at hz
   match e : (pendingOf st'').toList, hz, hr with
   | [], _, hr =>
    have : 0 = a₀.size := hr
    omega
   | [(s1, n1, p1)], _, hr =>
    obtain ⟨_, _, u, z⟩ := hr
    have z : 0 + n1 = a₀.size := z
    rw [z] at u
    exact u
end
end Tim
namespace Tim
open PySem PyProof.Rows
set_option autoImplicit false
section
variable {prog : Program} {w : World} {A : Around} {E : Value → Shared → Prop} {s : Shared} {κ : KeyKind} {kd : SortKind}
def zdL (a : Addr) (h h' : Heap) : Prop := ∀ b o, b ≠ a → h.get? b = some o → h'.get? b = some o
def keyV (κ : KeyKind) (v : Value) : κ.α := (κ.keyOf v).getD κ.dflt
theorem zg7 : ∀ vs : List Value, vs.zip vs = vs.map fun v => (v, v)
 | [] => rfl
 | v :: vs => by rw [List.zip_cons_cons, zg7 vs, List.map_cons]
theorem zf2 {vs : List Value} {p : Keyed} (h : p ∈ (pairsOf vs).toList) : p.1 = p.2 ∧ p.1 ∈ vs := by
 have e : (pairsOf vs).toList = vs.zip vs := by
  unfold pairsOf
  simp
 rw [e] at h
 rw [zg7] at h
 obtain ⟨v, hv, rfl⟩ := List.mem_map.mp h
 exact ⟨rfl, hv⟩
theorem zka (vs : List Value) : (pairsOf vs).toList.map (·.2) = vs := by
 have e : (pairsOf vs).toList = vs.zip vs := by
  unfold pairsOf
  simp
 rw [e, zg7, List.map_map]
 have z : ((fun x : Keyed => x.2) ∘ fun v : Value => (v, v)) = id := rfl
 first
  | rw [z, List.map_id]
  | exact List.map_id vs
theorem zop {vs : List Value} {xs : Array Keyed} (hp : xs.Perm (pairsOf vs)) (hU : Up κ xs 0 (pairsOf vs).size) :
  (xs.toList.map (·.2)).Perm vs ∧ (xs.toList.map (·.2)).Pairwise (fun x y => κ.kle (keyV κ x) (keyV κ y)) := by
 have hpl := Array.perm_iff_toList_perm.mp hp
 refine ⟨?_, ?_⟩
 ·have := hpl.map (·.2)
  rwa [zka] at this
 ·have hs : SL κ xs.toList := zns (by rw [hp.size_eq]; exact hU)
  refine List.pairwise_map.mpr (hs.imp_of_mem fun {a b} ha hb hab => ?_)
  have ea := (zf2 (hpl.mem_iff.mp ha)).1
  have eb := (zf2 (hpl.mem_iff.mp hb)).1
  unfold le ky at hab
  unfold keyV
  rw [← ea, ← eb]
  exact hab
theorem zmx {a : Addr} {vs : List Value} {n : Nat} {P : Fin → Shared → Prop} (ho : s.heap.get? a = some (seqObj "list" vs.toArray n)) (hz : vs.length ≤ sizeLine) (keys : ∀ v ∈ vs, ∃ k, κ.keyOf v = some k)
  (hlt : ∀ h', zdL a s.heap h' → LtG prog w A { s with heap := h' } κ kd)
  (hkd : ∀ (h' : Heap) (E : Value → Shared → Prop) (Q : SortKind → Shared → Prop), zdL a s.heap h' → 2 ≤ vs.length → Q kd { s with heap := h' } → wpAny (model prog w) A (keyKind' vs.toArray) Q E { s with heap := h' })
  (h : ∀ out : List Value, out.Perm vs → out.Pairwise (fun x y => κ.kle (keyV κ x) (keyV κ y)) → P (.done (.ret .none)) { s with heap := sortedHeap s.heap a vs out.toArray }) :
  wpAny (model prog w) A (Builtin.«list.sort» ⟨[.ref a], []⟩) P E s := by
 rw [list_sort_plain]
 have hlt0 : a < s.heap.objs.size := Heap.lt_size ho
 refine wpAny_bind (listItems_at ho rfl ?_)
 refine wpAny_bind (listUpdate_at ho rfl ?_ (by simpa using hz) (Nat.zero_le _))
 obtain ⟨m, ho1⟩ : ∃ m, (s.heap.update a (Obj.mapSeq fun _ => #[])).get? a = some (seqObj "list" #[] m) := ⟨_, get?_update_seq ho (fun _ => #[])⟩
 refine wpAny_bind (seqEpoch_at ho1 rfl ?_)
 refine wpAny_bind (wpAny_newTuple ?_ (by simpa using hz))
 refine wpAny_bind (wpAny_newList ?_)
 refine wpAny_holding ?_
 have z1 : (s.heap.update a (Obj.mapSeq fun _ => #[])).objs.size = s.heap.objs.size := by rw [Heap.size_update]
 have hk : zdL a s.heap (((s.heap.update a (Obj.mapSeq fun _ => #[])).push (seqObj "tuple" vs.toArray 0)).push (seqObj "list" #[] 0)) := fun b o hb e =>
  Heap.get?_push_of_some _ (Heap.get?_push_of_some _ ((Heap.get?_update_other _ _ (Ne.symm hb)).trans e))
 have ho6 : (((s.heap.update a (Obj.mapSeq fun _ => #[])).push (seqObj "tuple" vs.toArray 0)).push (seqObj "list" #[] 0)).get? a = some (seqObj "list" #[] m) := Heap.get?_push_of_some _ (Heap.get?_push_of_some _ ho1)
 show wpAny (model prog w) A _ P E { s with heap := ((s.heap.update a (Obj.mapSeq fun _ => #[])).push (seqObj "tuple" vs.toArray 0)).push (seqObj "list" #[] 0) }
 dsimp only
 have fin : ∀ st' : SortSt, (arrOf st').Perm (pairsOf vs) → failedOf st' = none → Up κ (arrOf st') 0 (pairsOf vs).size → wpAny (model prog w) A (do
   let touched := (← seqEpoch a) != m
   Builtin.List.listUpdate (.ref a) fun _ => (arrOf st').map (·.2)
   if let some e := failedOf st' then rule "list.sort.comparison-raised"; throw e
   if touched then rule "list.sort.modified"; raiseError "ValueError" "list modified during sort"
   ret .none) P E { s with heap := ((s.heap.update a (Obj.mapSeq fun _ => #[])).push (seqObj "tuple" vs.toArray 0)).push (seqObj "list" #[] 0) } := fun st' hp hf hU => by
  refine wpAny_bind (seqEpoch_at ho6 rfl ?_)
  refine wpAny_bind (listUpdate_at ho6 rfl ?_ (Nat.zero_le _) (by
   refine Nat.le_trans (Nat.le_of_eq ((Array.size_map ..).trans (hp.size_eq.trans (pairsOf_size _)))) ?_
   omega))
  rw [hf]
  simp only [bne_self_eq_false, Bool.false_eq_true, if_false]
  obtain ⟨o1, o2⟩ := zop hp hU
  have := h _ o1 o2
  have e : ((arrOf st').toList.map (·.2)).toArray = (arrOf st').map (·.2) := by rw [← Array.toList_map, Array.toArray_toList]
  rw [e] at this
  exact wpAny_pure this
 by_cases h2 : vs.toArray.size < 2
 ·rw [if_pos h2, if_pos h2]
  refine wpAny_bind (wpAny_pure ?_)
  rw [StateT.run_pure]
  refine wpAny_bind (wpAny_pure ?_)
  refine fin (SortSt.mk' general' (vs.toArray.zip vs.toArray) #[] 7 none) (Array.Perm.refl _) rfl ?_
  intro i j q1 q2 q3
  have : i = j := by
   rw [pairsOf_size] at q3
   simp at h2
   omega
  subst this
  exact KeyOrd.kle_refl _
 ·rw [if_neg h2, if_neg h2]
  have h2' : 2 ≤ vs.length := by
   simp at h2
   omega
  refine wpAny_bind (hkd _ _ _ hk h2' ?_)
  refine wpAny_bind (wpAny_mono (zg9 (κ := κ) (hlt _ hk) (a₀ := pairsOf vs) (st := SortSt.mk' kd (vs.toArray.zip vs.toArray) #[] 7 none)
   (Q := fun _ st' => (arrOf st').Perm (pairsOf vs) ∧ failedOf st' = none ∧ Up κ (arrOf st') 0 (pairsOf vs).size)
   ⟨⟨rfl, fun p hp => keys _ (zf2 hp).2, rfl, rfl⟩, Array.Perm.refl _, Nat.zero_le _, rfl⟩ (by rw [pairsOf_size]; omega) fun st' a1 a2 a3 => ⟨a1, a2, a3⟩) ?_ fun _ _ e => e)
  rintro ⟨⟨⟩, st'⟩ s' ⟨rfl, hp, hf, hs⟩
  exact fin st' hp hf hs
theorem zeW {h : Heap} {a : Addr} {vs out : List Value} {n : Nat} (ho : h.get? a = some (seqObj "list" vs.toArray n)) : zdL a h (sortedHeap h a vs out.toArray) ∧ ∃ c, (sortedHeap h a vs out.toArray).get? a = some (seqObj "list" out.toArray c) := by
 unfold sortedHeap
 refine ⟨fun b o hb e => (Heap.get?_update_other _ _ (Ne.symm hb)).trans (Heap.get?_push_of_some _ (Heap.get?_push_of_some _ ((Heap.get?_update_other _ _ (Ne.symm hb)).trans e))), ?_⟩
 exact ⟨_, get?_update_seq (Heap.get?_push_of_some _ (Heap.get?_push_of_some _ (get?_update_seq ho (fun _ => #[])))) fun _ => out.toArray⟩
theorem zlA {l : Addr} {vs : List Value} {Q : Value → Shared → Prop} (hl : s.heap.IsList l vs.toArray) (hz : vs.length ≤ sizeLine) (keys : ∀ v ∈ vs, ∃ k, κ.keyOf v = some k)
  (hlt : ∀ h', (∀ b o, s.heap.get? b = some o → h'.get? b = some o) → LtG prog w A.in1.in1 { s with heap := h' } κ kd)
  (hkd : ∀ (h' : Heap) (E : Value → Shared → Prop) (Q : SortKind → Shared → Prop), (∀ b o, s.heap.get? b = some o → h'.get? b = some o) → 2 ≤ vs.length → Q kd { s with heap := h' } → wpAny (model prog w) A.in1.in1 (keyKind' vs.toArray) Q E { s with heap := h' })
  (h : ∀ (out : List Value) (h' : Heap) (c : Nat), out.Perm vs → out.Pairwise (fun x y => κ.kle (keyV κ x) (keyV κ y)) → (∀ b o, s.heap.get? b = some o → h'.get? b = some o) →
   h'.get? (s.heap.objs.size + 1) = some (seqObj "list" out.toArray c) → Q (.ref (s.heap.objs.size + 1)) { s with heap := h' }) :
  wpAny (model prog w) A (call (.builtin "sorted") [.ref l]) Q E s := by
 refine Calls.call_function_entry kind_sorted plain_sorted entry_sorted (args_sorted1 _) ?_
 unfold Builtin.«sorted»
 refine wpAny_bind (m := checkCount "sorted" 1 1 _) (wpAny_pure ?_)
 refine wpAny_bind (collect_list hl ?_ hz)
 refine wpAny_bind (wpAny_newList ?_ (by simpa using hz))
 have z1 : ((s.heap.push (seqObj "list" #[] 0)).update s.heap.objs.size (Obj.mapSeq (· ++ vs.toArray))).objs.size = s.heap.objs.size + 1 := by
  rw [Heap.size_update, size_push']
 have hn : (((s.heap.push (seqObj "list" #[] 0)).update s.heap.objs.size (Obj.mapSeq (· ++ vs.toArray))).push (seqObj "list" vs.toArray 0)).get? (s.heap.objs.size + 1) = some (seqObj "list" vs.toArray 0) := by
  rw [← z1]
  exact Heap.get?_push_size _ rfl
 have hk : ∀ b o, s.heap.get? b = some o → (((s.heap.push (seqObj "list" #[] 0)).update s.heap.objs.size (Obj.mapSeq (· ++ vs.toArray))).push (seqObj "list" vs.toArray 0)).get? b = some o := fun b o e =>
  Heap.get?_push_of_some _ ((Heap.get?_update_other _ _ (Nat.ne_of_gt (Heap.lt_size e))).trans (Heap.get?_push_of_some _ e))
 show wpAny _ _ _ _ _ { s with heap := ((s.heap.push (seqObj "list" #[] 0)).update s.heap.objs.size (Obj.mapSeq (· ++ vs.toArray))).push (seqObj "list" vs.toArray 0) }
 rw [z1]
 generalize ((s.heap.push (seqObj "list" #[] 0)).update s.heap.objs.size (Obj.mapSeq (· ++ vs.toArray))).push (seqObj "list" vs.toArray 0) = h1 at hn hk ⊢
 have up : ∀ h', zdL (s.heap.objs.size + 1) h1 h' → ∀ b o, s.heap.get? b = some o → h'.get? b = some o := fun h' kb b o e => kb b o (fun z => by
  have := Heap.lt_size e
  rw [z] at this
  exact absurd this (Nat.not_lt.mpr (Nat.le_succ _))) (hk b o e)
 refine wpAny_bind (wpAny_holding (wpAny_call_entry slot_list_sort ⟨_, hn, rfl⟩ entry_list_sort (zmx (s := { s with heap := h1 }) hn hz keys (fun h' kb => hlt h' (up h' kb)) (fun h' E Q kb h2 q => hkd h' E Q (up h' kb) h2 q) fun out p1 p2 => ⟨_, rfl, ?_⟩) (args_list_sort _)))
 obtain ⟨kb, c, hc⟩ := zeW (out := out) hn
 exact wpAny_pure ⟨_, rfl, h out _ c p1 p2 (up _ kb) hc⟩
end
end Tim
namespace Tim
open PySem PySem.Spec PyProof.Rows PySem.W
set_option autoImplicit false
set_option maxRecDepth 100000
def RawD (d : Addr) (es : Array DictEntry) (ep : Nat) (h : Heap) : Prop := ∃ o, h.get? d = some o ∧ o.ExactDict ∧ o.data = .dict es ep
section
variable {prog : Program} {w : World} {A : Around} {E : Value → Shared → Prop} {s : Shared} {d it : Addr} {es : Array DictEntry} {ep : Nat}
theorem RawD.ty (x : RawD d es ep s.heap) : s.TypeIs (.ref d) "dict" := by
 obtain ⟨o, e, c, _⟩ := x
 exact ⟨o, e, c.1⟩
theorem RawD.keep {h h' : Heap} (x : RawD d es ep h) (k : ∀ o, h.get? d = some o → h'.get? d = some o) : RawD d es ep h' := by
 obtain ⟨o, e, r⟩ := x
 exact ⟨o, k o e, r⟩
end
end Tim
namespace Tim
open PySem PySem.Spec PyProof.Rows PySem.W
section
variable {prog : Program} {w : World} {A : Around} {E : Value → Shared → Prop} {s : Shared} {d : Addr} {es : Array DictEntry} {ep : Nat}
end
end Tim
namespace L2
open PySem PySem.Spec PyProof.Rows
structure DF (K : PySem.W.Frag) (mg : Str → Option Value) (x : Str) (st : Stmt) (ps : List Str) : Prop where
 ex : ∃ f fd, Fun K x x st f fd ∧ zgm K fd ps [] ∧ mg x = some (.ref f)
structure FC (P : Program) (w : World) (K : PySem.W.Frag) (mg : Str → Option Value) (base : Heap) (k : Nat) (x : Str) (ps : List Str) (sp : Sp) : Prop where
 ex : ∃ f fd, FnOk P w K mg base CX0 k f fd ps sp ∧ zgm K fd ps [] ∧ PySem.W.keepIn K (.ref f) = true ∧ mg x = some (.ref f) ∧ ∃ oc od osl, K.lookup f = some ⟨oc, od, .func fd, osl⟩
theorem FC.at {P : Program} {w : World} {K : PySem.W.Frag} {mg : Str → Option Value} {base : Heap} {k : Nat} {x : Str} {ps : List Str} {sp : Sp} {f : Addr} {fd : FuncData} {oc : Value} {od : Option Addr} {osl : Array (Option Value)} (F : FC P w K mg base k x ps sp) (m : mg x = some (.ref f)) (l : K.lookup f = some ⟨oc, od, .func fd, osl⟩) : FnOk P w K mg base CX0 k f fd ps sp := by
 obtain ⟨f', fd', ok, _, _, m', oc', od', osl', l'⟩ := F.ex
 rw [m] at m'
 cases m'
 rw [l] at l'
 cases l'
 exact ok
theorem DF.ok {P : Program} {w : World} {K : PySem.W.Frag} {mg : Str → Option Value} {base : Heap} {x : Str} {st : Stmt} {N ps : List Str} {k : Nat} {sp : Sp} (D : DF K mg x st ps) (S : zar N ps (zad st)) (len : ∀ vs H Q E, sp vs H Q E → vs.length = ps.length)
  (hbody : ∀ (f : Addr) (cdv : Value) (A : Around) (outer : List Env) (s : Shared) (H : Hp) (vs : List V) (Q : VK) (E : XK), Room k (A.deeper (envOfC x (zad st) s.heap.objs.size f cdv)) → sp vs H Q E →
   ∃ t, PSs (cxOf CX0 P w K mg base N x (zad st) f cdv A outer s H E).nox (zan st) t ∧ t { nx := fun _ H' => Q .non H', rt := Q } (zcC N vs) H) : FC P w K mg base (k + 1) x ps sp := by
 obtain ⟨f, fd, F, b, m⟩ := D.ex
 exact ⟨f, fd, F.ok S len fun cdv A outer s H vs Q E hr h => hbody f cdv A outer s H vs Q E hr h, b, F.kp, m, by
  obtain ⟨oc, od, kV, doc, pm, an, cdv, ct, osl, rfl, lk, hcd⟩ := F.ex
  exact ⟨oc, od, osl, lk⟩⟩
theorem zaM {X : Cx} {j k : Nat} {x : Str} {ps : List Str} {sp : Sp} {e : Expr} {es : List Expr} {t : TA} {p pos : Pos} (F : FC X.prog X.w X.K X.mg X.base j x ps sp) (hr : Room k X.A) (ha : PA X (e :: es) t) (hjk : j ≤ k := by decide) (hg : Gl X x := by rfl)
  (hdb : (x == ("__debug__" : Str)) = false := by decide) (he : starEach (e :: es) X.env = (false, eval e X.env) :: starEach es X.env := by rfl) (hpl : (backTo pos (starEach es X.env)).any (·.1) = false := by rfl) : PE X (.Call (.Name x p) (e :: es) [] pos) (zn3 sp [] E0 t) := by
 obtain ⟨f, fd, ok, b, kp, m, _⟩ := F.ex
 exact zne ok (hr.mono hjk) hg m kp b .nil zon ha hdb he hpl
def tSeqM (t u : TS) : TS := fun D σ H => ∃ M : St → Hp → Prop, t { D with nx := M } σ H ∧ ∀ σ' H', M σ' H' → u D σ' H'
theorem zbN {X : Cx} {st : Stmt} {rest : List Stmt} {t u : TS} (h1 : PS X st t) (h2 : PSs X rest u) : PSs X (st :: rest) (tSeqM t u) := by
 intro pins s σ H D I h
 obtain ⟨M, h, hM⟩ := h
 refine wpAny_execs_cons (thn (h1 pins s σ H { D with nx := M } I h) fun f s1 q => ?_)
 cases f with
 | next =>
  obtain ⟨σ', H', I', q⟩ := q
  exact h2 pins s1 σ' H' D I' (hM σ' H' q)
 | ret v => exact q
 | brk => exact q
 | cont => exact q
def CDivB (i j : Int) : Prop := 0 < j ∧ j < 2 ^ 4000
section
variable {X : Cx}
def kitO (a b : String) : Option Bool := if (Value.type a == Value.type b) = true then some true else if PySem.W.kitMeta b = true then (PySem.fastBuiltinMro a).map (·.contains (.type b)) else none
def rIsi (K : PySem.W.Frag) : List V → Hp → VK → Prop := fun xs H Q => ∃ x n t b, xs = [x, .ty n] ∧ TyOf K H x (.type t) ∧ kitO t n = some b ∧ Q (.bl b) H
def zm7 : V → List V → Hp → VK → Prop := fun x xs H Q => ∃ i, x = .int i ∧ xs = [] ∧ Q (.int (Builtin.Int.intBits i : Nat)) H
theorem zf6 : MtR X "int.bit_length" zm7 := by
 intro pins s σ H x xs v us Q I rx rv h
 obtain ⟨i, rfl, rfl, q⟩ := h
 obtain ⟨t, rfl⟩ := rx
 cases rv
 exact call_int_bit_length ⟨.int _, H, I.tok _, ⟨_, rfl⟩, q⟩
end
theorem iteDT {c A B : Prop} [Decidable c] (hc : c) (h : A) : if decide c = true then A else B := by
 rw [decide_eq_true hc]
 exact iteT h
def zc0 (L : Addr) (a l : Int) : HO := .dK [(.inr "script", .ref L), (.inr "at", .int a), (.inr "left", .int l)]
def Keep (d : Addr) (H H' : Hp) : Prop := ∀ b o, b ≠ d → H b = some o → H' b = some o
theorem Keep.refl (d : Addr) (H : Hp) : Keep d H H := fun _ _ _ h => h
theorem Keep.trans {d : Addr} {H H1 H2 : Hp} (a : Keep d H H1) (b : Keep d H1 H2) : Keep d H H2 := fun c o n h => b c o n (a c o n h)
theorem Same.keep {d : Addr} {H H' : Hp} (s : Same H H') : Keep d H H' := fun b o _ h => s b o h
structure LS (K : PySem.W.Frag) (L d : Addr) (H : Hp) : Prop where
 ex : ∃ (ns : List Int) (a l : Int), H d = some (zc0 L a l) ∧ SqL K H L (ns.map V.int)
theorem zfR {K : PySem.W.Frag} {H H' : Hp} {L d : Addr} {xs : List V} {L' : Addr} {a l : Int} (hd : H d = some (zc0 L' a l)) (k : Keep d H H') (h : SqL K H L xs) : SqL K H' L xs := by
 have ne : ∀ o, H L = some o → (∀ kvs, o ≠ .dK kvs) → L ≠ d := fun o e n z => by
  rw [z, hd] at e
  cases e
  exact n _ rfl
 rcases h with (h | ⟨o, h⟩) | h
 ·exact .inl (.inl (k L _ (ne _ h (fun _ z => nomatch z)) h))
 ·exact .inl (.inr ⟨o, k L _ (ne _ h (fun _ z => nomatch z)) h⟩)
 ·exact .inr h
theorem LS.set {K : PySem.W.Frag} {d L : Addr} {H : Hp} {ns : List Int} {a l a' l' : Int} (hd : H d = some (zc0 L a l)) (h : SqL K H L (ns.map V.int)) : LS K L d (upd H d (zc0 L a' l')) ∧ Keep d H (upd H d (zc0 L a' l')) := by
 have k : Keep d H (upd H d (zc0 L a' l')) := fun b o n e => by rw [zah n]; exact e
 exact ⟨⟨ns, a', l', zac, zfR hd k h⟩, k⟩
theorem LS.same {K : PySem.W.Frag} {L d : Addr} {H H' : Hp} (s : LS K L d H) (k : Same H H') : LS K L d H' := by
 obtain ⟨ns, a, l, e, q⟩ := s.ex
 exact ⟨ns, a, l, k _ _ e, k.seq q⟩
theorem zal {H : Hp} {p : Addr} (h : H p = none) (o : HO) : Same H (upd H p o) := fun b u q => by rw [zah (zab q h)]; exact q
theorem LS.put {K : PySem.W.Frag} {L d p : Addr} {H0 H2 : Hp} {o : HO} (s : LS K L d H0) (hp : H0 p = none) (k : ∀ b o, b ≠ d → b ≠ p → H0 b = some o → H2 b = some o) (s2 : LS K L d H2) : LS K L d (upd H2 p o) := by
 obtain ⟨ns, a, l, e, q⟩ := s.ex
 obtain ⟨ns2, a2, l2, e2, _⟩ := s2.ex
 have hdp : d ≠ p := zab e hp
 have go : ∀ u, H0 L = some u → (∀ kvs, u ≠ .dK kvs) → upd H2 p o L = some u := fun u hu hn => by
  have h1 : L ≠ p := zab hu hp
  have h2 : L ≠ d := fun z => by
   rw [z, e] at hu
   cases hu
   exact hn _ rfl
  rw [zah h1]
  exact k L u h2 h1 hu
 refine ⟨ns, a2, l2, by rw [zah hdp]; exact e2, ?_⟩
 rcases q with (h | ⟨ob, h⟩) | h
 ·exact .inl (.inl (go _ h (fun _ z => nomatch z)))
 ·exact .inl (.inr ⟨ob, go _ h (fun _ z => nomatch z)⟩)
 ·exact .inr h
section
variable {H : Hp} {d L : Addr} {a l : Int}
theorem zdE {x y : Str} (h : x ≠ y) : (Sum.inr x : Key) ≠ Sum.inr y := fun z => h (Sum.inr.inj z)
theorem zjj (h : H d = some (zc0 L a l)) : DGet H d (.str "script") (some (.ref L)) := .inl ⟨_, .inr "script", .inl h, rfl, by rw [zcs rfl]⟩
theorem get_at (h : H d = some (zc0 L a l)) : DGet H d (.str "at") (some (.int a)) := .inl ⟨_, .inr "at", .inl h, rfl, by rw [zbq (zdE (show ("script" : Str) ≠ "at" by decide +kernel)), zcs rfl]⟩
theorem zgc (h : H d = some (zc0 L a l)) : DGet H d (.str "left") (some (.int l)) := .inl ⟨_, .inr "left", .inl h, rfl, by rw [zbq (zdE (show ("script" : Str) ≠ "left" by decide +kernel)), zbq (zdE (show ("at" : Str) ≠ "left" by decide +kernel)), zcs rfl]⟩
theorem zmC {k : Key} {v : V} {kvs kvs' : List (Key × V)} (h : H d = some (.dK kvs)) (hl : kvs.length < sizeLine) (e : putK kvs k v = kvs') : DPut H d (kV k) v (upd H d (.dK kvs')) := by
 subst e
 exact DPut.k h hl
theorem zoh {a' : Int} (h : H d = some (zc0 L a l)) : DPut H d (.str "at") (.int a') (upd H d (zc0 L a' l)) :=
 zmC (k := .inr "at") h (by show 3 < sizeLine; decide) (by
  unfold putK
  rw [if_pos (by simp)]
  simp only [List.map_cons, List.map_nil, if_neg (zdE (show ("script" : Str) ≠ "at" by decide +kernel)), if_neg (zdE (show ("left" : Str) ≠ "at" by decide +kernel)), if_true])
theorem zib {l' : Int} (h : H d = some (zc0 L a l)) : DPut H d (.str "left") (.int l') (upd H d (zc0 L a l')) :=
 zmC (k := .inr "left") h (by show 3 < sizeLine; decide) (by
  unfold putK
  rw [if_pos (by simp)]
  simp only [List.map_cons, List.map_nil, if_neg (zdE (show ("script" : Str) ≠ "left" by decide +kernel)), if_neg (zdE (show ("at" : Str) ≠ "left" by decide +kernel)), if_true])
end
def zgr (K : PySem.W.Frag) : Sp := fun vs H Q _ => ∃ (d L : Addr) (m : Int), vs = [.ref d, .int m] ∧ (0 < m ∧ m < 1073741824) ∧ LS K L d H ∧ ∀ (v : Int) (H' : Hp), 0 ≤ v → v < m → Keep d H H' → LS K L d H' → Q (.int v) H'
def zjV : Sp := fun vs H Q _ => ∃ c k : Int, vs = [.int c, .int k] ∧ ∀ v : Int, Q (.int v) H
def zjX (K : PySem.W.Frag) : Sp := fun vs H Q _ => ∃ (L : Addr) (ns : List Int), vs = [.ref L] ∧ SqL K H L (ns.map V.int) ∧ ∀ (d : Addr) (H' : Hp), H d = none → Same H H' → LS K L d H' → Q (.ref d) H'
def spLaw (K : PySem.W.Frag) : Sp := fun vs H Q _ => ∃ (a : Addr) (ns : List Int), vs = [.ref a] ∧ SqL K H a (ns.map V.int) ∧ ns.length ≤ 63 ∧ ∀ H', Q (.bl true) H'
theorem at_mod {ns : List Int} {k : Int} (h : 0 < ns.length) : ∃ v : Int, atI (ns.map V.int) (k % (((ns.map V.int).length : Nat) : Int)) = some (.int v) := by
 have e : (ns.map V.int).length = ns.length := List.length_map _
 have h1 : (0 : Int) < (((ns.map V.int).length : Nat) : Int) := by rw [e]; omega
 have z0 := Int.emod_nonneg k (Int.ne_of_gt h1)
 have z1 := Int.emod_lt_of_pos k h1
 generalize hj : k % (((ns.map V.int).length : Nat) : Int) = j at z0 z1
 rw [e] at z1
 have hk : j.toNat < ns.length := by omega
 obtain ⟨n, rfl⟩ : ∃ n : Nat, j = (n : Int) := ⟨j.toNat, by omega⟩
 have hn : n < ns.length := by omega
 exact ⟨ns[n], zbk (by rw [List.getElem?_map, List.getElem?_eq_getElem hn]; rfl)⟩
end L2
namespace L2
open PySem PySem.Spec PyProof.Rows PySem.SeqAt
def Ext (H H' : Hp) : Prop := ∀ b o, H b = some o → (∀ kvs, o ≠ .dK kvs) → H' b = some o
theorem Ext.refl (H : Hp) : Ext H H := fun _ _ h _ => h
theorem Ext.trans {H H1 H2 : Hp} (a : Ext H H1) (b : Ext H1 H2) : Ext H H2 := fun c o h n => b c o (a c o h n) n
theorem Same.ext {H H' : Hp} (s : Same H H') : Ext H H' := fun b o h _ => s b o h
theorem Keep.ext {d L : Addr} {a l : Int} {H H' : Hp} (k : Keep d H H') (h : H d = some (zc0 L a l)) : Ext H H' := fun b o e n => k b o (fun z => by
 rw [z, h] at e
 cases e
 exact n _ rfl) e
theorem LS.ext {K : PySem.W.Frag} {L d : Addr} {H H' : Hp} (s : LS K L d H) (k : Keep d H H') : Ext H H' := by
 obtain ⟨ns, a, l, e, _⟩ := s.ex
 exact k.ext e
theorem LS.of_new {K : PySem.W.Frag} {L d : Addr} {H : Hp} (s : LS K L d H) {p : Addr} (hp : H p = none) (o : HO) : LS K L d (upd H p o) := s.same (zal hp o)
theorem SqL.ext {K : PySem.W.Frag} {H H' : Hp} {a : Addr} {xs : List V} (e : Ext H H') (h : SqL K H a xs) : SqL K H' a xs := by
 rcases h with (h | ⟨o, h⟩) | h
 ·exact .inl (.inl (e _ _ h (fun _ z => nomatch z)))
 ·exact .inl (.inr ⟨o, e _ _ h (fun _ z => nomatch z)⟩)
 ·exact .inr h
theorem SqT.ext {K : PySem.W.Frag} {H H' : Hp} {a : Addr} {xs : List V} (e : Ext H H') (h : SqT K H a xs) : SqT K H' a xs := by
 rcases h with (h | ⟨o, h⟩) | h
 ·exact .inl (.inl (e _ _ h (fun _ z => nomatch z)))
 ·exact .inl (.inr ⟨o, e _ _ h (fun _ z => nomatch z)⟩)
 ·exact .inr h
class Rep (α : Type) where
 dec : DecidableEq α
 depth : Nat
 has : PySem.W.Frag → Hp → α → V → Prop
 mono : ∀ {K : PySem.W.Frag} {H H' : Hp} {a : α} {v : V}, Ext H H' → has K H a v → has K H' a v
 inj : ∀ {X : Cx} {pins : List (Addr × Obj)} {σ : St} {H : Hp} {s : Shared} {a b : α} {v : V}, Inv X pins σ H s → has X.K H a v → has X.K H b v → a = b
 rc : ∀ {X : Cx} {pins : List (Addr × Obj)} {σ : St} {H : Hp} {s : Shared} {A : Around} {a b : α} {x y : V} {u v : Value}, Inv X pins σ H s → A.units + depth < cLine → has X.K H a x → has X.K H b y → RelV x u → RelV y v → RcAt A s u v (dec a b).decide
 rn : ∀ {X : Cx} {pins : List (Addr × Obj)} {σ : St} {H : Hp} {s : Shared} {A : Around} {a b : α} {x y : V} {u v : Value}, Inv X pins σ H s → A.units + depth < cLine → has X.K H a x → has X.K H b y → RelV x u → RelV y v → RcNeAt A s u v (!(dec a b).decide)
 eq : ∀ {X : Cx} {pins : List (Addr × Obj)} {σ : St} {H : Hp} {s : Shared} {A : Around} {a b : α} {x y : V} {u v : Value}, Inv X pins σ H s → A.units + depth < cLine → has X.K H a x → has X.K H b y → RelV x u → RelV y v → EqAt A s u v (dec a b).decide
instance (priority := low) repDec {α : Type} [Rep α] : DecidableEq α := Rep.dec
theorem zhP {i j : Int} : (i == j) = (Int.instDecidableEq i j).decide := by
 by_cases h : i = j
 ·subst h; simp
 ·rw [beq_eq_false_iff_ne.mpr h]; exact (decide_eq_false h).symm
instance : Rep Int where
 dec := Int.instDecidableEq
 depth := 0
 has := fun _ _ i v => v = .int i
 mono := fun _ h => h
 inj := fun _ h1 h2 => V.int.inj (h1.symm.trans h2)
 rc := fun _ _ h1 h2 r1 r2 => by
  subst h1 h2
  obtain ⟨t, rfl⟩ := r1
  obtain ⟨t', rfl⟩ := r2
  rw [← zhP]
  exact RcAt.int_int _ _ _ _
 rn := fun _ _ h1 h2 r1 r2 => by
  subst h1 h2
  obtain ⟨t, rfl⟩ := r1
  obtain ⟨t', rfl⟩ := r2
  rw [← zhP]
  exact RcNeAt.int_int _ _ _ _
 eq := fun _ _ h1 h2 r1 r2 => by
  subst h1 h2
  obtain ⟨t, rfl⟩ := r1
  obtain ⟨t', rfl⟩ := r2
  rw [← zhP]
  exact EqAt.int_int _ _ _ _
instance : Rep Bool where
 dec := instDecidableEqBool
 depth := 0
 has := fun _ _ i v => v = .bl i
 mono := fun _ h => h
 inj := fun _ h1 h2 => V.bl.inj (h1.symm.trans h2)
 rc := fun {_ _ _ _ _ _ a b _ _ _ _} _ _ h1 h2 r1 r2 => by
  subst h1 h2
  cases r1
  cases r2
  have e : (a == b) = (instDecidableEqBool a b).decide := by cases a <;> cases b <;> rfl
  rw [← e]
  exact RcAt.bool_bool _ _
 rn := fun {_ _ _ _ _ _ a b _ _ _ _} _ _ h1 h2 r1 r2 => by
  subst h1 h2
  cases r1
  cases r2
  have e : (a == b) = (instDecidableEqBool a b).decide := by cases a <;> cases b <;> rfl
  rw [← e]
  exact RcNeAt.bool_bool _ _
 eq := fun {_ _ _ _ _ _ a b _ _ _ _} _ _ h1 h2 r1 r2 => by
  subst h1 h2
  cases r1
  cases r2
  have e : (a == b) = (instDecidableEqBool a b).decide := by cases a <;> cases b <;> rfl
  rw [← e]
  exact EqAt.bool_bool _ _
def zaj {α : Type} [Rep α] (K : PySem.W.Frag) (H : Hp) : List α → List V → Prop := Paired (Rep.has K H)
section
variable {α : Type} [Rep α] {K : PySem.W.Frag} {H H' : Hp}
theorem zaj.mono (e : Ext H H') : ∀ {as : List α} {xs : List V}, zaj K H as xs → zaj K H' as xs
 | _, _, .nil => .nil
 | _, _, .cons h t => .cons (Rep.mono e h) (zaj.mono e t)
theorem zaj.length {as : List α} {xs : List V} (h : zaj K H as xs) : as.length = xs.length := Paired.length h
theorem zaj.get : ∀ {as : List α} {xs : List V} {i : Nat} {x : V}, zaj K H as xs → xs[i]? = some x → ∃ a, as[i]? = some a ∧ Rep.has K H a x
 | _, _, _, _, .nil, e => by simp at e
 | _, _, 0, _, .cons h _, e => by simp at e; subst e; exact ⟨_, rfl, h⟩
 | _, _, i + 1, x, .cons _ t, e => by
  obtain ⟨a, h1, h2⟩ := zaj.get (i := i) (x := x) t (by simpa using e)
  exact ⟨a, by simpa using h1, h2⟩
theorem zaj.get' : ∀ {as : List α} {xs : List V} {i : Nat} {a : α}, zaj K H as xs → as[i]? = some a → ∃ x, xs[i]? = some x ∧ Rep.has K H a x
 | _, _, _, _, .nil, e => by simp at e
 | _, _, 0, _, .cons h _, e => by simp at e; subst e; exact ⟨_, rfl, h⟩
 | _, _, i + 1, a, .cons _ t, e => by
  obtain ⟨x, h1, h2⟩ := zaj.get' (i := i) (a := a) t (by simpa using e)
  exact ⟨x, by simpa using h1, h2⟩
theorem zaj.append : ∀ {as bs : List α} {xs ys : List V}, zaj K H as xs → zaj K H bs ys → zaj K H (as ++ bs) (xs ++ ys)
 | _, _, _, _, .nil, s => s
 | _, _, _, _, .cons r t, s => .cons r (zaj.append t s)
theorem zaj.take : ∀ {as : List α} {xs : List V} (n : Nat), zaj K H as xs → zaj K H (as.take n) (xs.take n)
 | _, _, 0, _ => .nil
 | _, _, _ + 1, .nil => .nil
 | _, _, n + 1, .cons r t => .cons r (zaj.take n t)
theorem zaj.drop : ∀ {as : List α} {xs : List V} (n : Nat), zaj K H as xs → zaj K H (as.drop n) (xs.drop n)
 | _, _, 0, r => r
 | _, _, _ + 1, .nil => .nil
 | _, _, n + 1, .cons _ t => zaj.drop n t
theorem zaj.one {a : α} {x : V} (h : Rep.has K H a x) : zaj K H [a] [x] := .cons h .nil
theorem zaj.ints : ∀ {ns : List Int}, zaj K H ns (ns.map V.int)
 | [] => .nil
 | _ :: _ => .cons rfl zaj.ints
theorem zaj.toInts : ∀ {ns : List Int} {xs : List V}, zaj K H ns xs → xs = ns.map V.int
 | [], _, .nil => rfl
 | n :: ns, _, .cons h t => by
  have e : _ = V.int n := h
  rw [e, zaj.toInts t]
  rfl
theorem zaj.inj {X : Cx} {pins : List (Addr × Obj)} {σ : St} {s : Shared} (I : Inv X pins σ H s) : ∀ {as bs : List α} {xs : List V}, zaj X.K H as xs → zaj X.K H bs xs → as = bs
 | _, _, _, .nil, .nil => rfl
 | _, _, _, .cons h t, .cons h' t' => by rw [Rep.inj I h h', zaj.inj I t t']
end
theorem zen {α : Type} [DecidableEq α] : ∀ (as bs : List α), as.length = bs.length → ((List.range as.length).all fun j => decide (as[j]? = bs[j]?)) = decide (as = bs) := by
 intro as bs hl
 by_cases h : as = bs
 ·subst h
  simp
 ·rw [decide_eq_false h, List.all_eq_false]
  false_or_by_contra
  rename_i z
  apply h
  apply List.ext_getElem?
  intro i
  by_cases hi : i < as.length
  ·false_or_by_contra
   rename_i q
   exact z ⟨i, List.mem_range.mpr hi, by simpa using q⟩
  ·rw [List.getElem?_eq_none (by omega), List.getElem?_eq_none (by omega)]
section
variable {α : Type} [r : Rep α]
theorem zcn {A : Around} : A.in1.units ≤ A.units + 1 := by
 first
  | exact Nat.le_refl _
  | (unfold Around.in1; simp)
theorem zeB {X : Cx} {pins : List (Addr × Obj)} {σ : St} {H : Hp} {s : Shared} {A : Around} {as bs : List α} {xs ys : List V} {us vs : List Value} (I : Inv X pins σ H s) (hu : A.units + Rep.depth α < cLine)
  (h1 : zaj X.K H as xs) (h2 : zaj X.K H bs ys) (r1 : Vals xs us) (r2 : Vals ys vs) : ∀ j (q1 : j < us.toArray.size) (q2 : j < vs.toArray.size), EqAt A s us.toArray[j] vs.toArray[j] (decide (as[j]? = bs[j]?)) := by
 intro j q1 q2
 have l1 := r1.length
 have l2 := r2.length
 have m1 := h1.length
 have m2 := h2.length
 have j1 : j < us.length := by simpa using q1
 have j2 : j < vs.length := by simpa using q2
 obtain ⟨a, ea, ha⟩ := h1.get (i := j) (List.getElem?_eq_getElem (by omega))
 obtain ⟨b, eb, hb⟩ := h2.get (i := j) (List.getElem?_eq_getElem (by omega))
 obtain ⟨u, eu, ru⟩ := r1.get (i := j) (List.getElem?_eq_getElem (by omega))
 obtain ⟨v, ev, rv⟩ := r2.get (i := j) (List.getElem?_eq_getElem (by omega))
 have gu : us.toArray[j] = u := by
  have : us[j]? = some us[j] := List.getElem?_eq_getElem j1
  rw [eu] at this
  simpa using (Option.some.inj this).symm
 have gv : vs.toArray[j] = v := by
  have : vs[j]? = some vs[j] := List.getElem?_eq_getElem j2
  rw [ev] at this
  simpa using (Option.some.inj this).symm
 rw [gu, gv, ea, eb]
 have e : decide (some a = some b) = (Rep.dec a b).decide := by
  by_cases z : a = b
  ·subst z; simp
  ·rw [decide_eq_false (fun q => z (Option.some.inj q))]; exact (decide_eq_false z).symm
 rw [e]
 exact Rep.eq I hu ha hb ru rv
end
def hasL {α : Type} [Rep α] (K : PySem.W.Frag) (H : Hp) (as : List α) (v : V) : Prop := ∃ a xs, v = .ref a ∧ SqL K H a xs ∧ zaj K H as xs
section
variable {α : Type} [r : Rep α] {X : Cx} {pins : List (Addr × Obj)} {σ : St} {H : Hp} {s : Shared} {A : Around} {as bs : List α} {x y : V} {u v : Value}
theorem zl5 (I : Inv X pins σ H s) (h1 : hasL X.K H as x) (h2 : hasL X.K H bs x) : as = bs := by
 obtain ⟨a, xs, rfl, q1, h1⟩ := h1
 obtain ⟨b, ys, e, q2, h2⟩ := h2
 cases e
 rw [I.list_inj q2 q1] at h2
 exact h1.inj I h2
theorem zkN (I : Inv X pins σ H s) (hu : A.units + (Rep.depth α + 1) < cLine) (h1 : hasL X.K H as x) (h2 : hasL X.K H bs y) (r1 : RelV x u) (r2 : RelV y v) : RcAt A s u v (decide (as = bs)) := by
 obtain ⟨a, xs, rfl, q1, h1⟩ := h1
 obtain ⟨b, ys, rfl, q2, h2⟩ := h2
 cases r1
 cases r2
 obtain ⟨us, ru, pu, _⟩ := I.list q1
 obtain ⟨vs, rv, pv, _⟩ := I.list q2
 have l1 := ru.length
 have l2 := rv.length
 have m1 := h1.length
 have m2 := h2.length
 have hin : A.in1.units + Rep.depth α < cLine := Nat.lt_of_le_of_lt (Nat.add_le_add_right zcn _) (by omega)
 by_cases hl : as.length = bs.length
 ·have e := zen as bs hl
  rw [← e]
  have z : as.length = us.toArray.size := by simp; omega
  rw [z]
  exact RcAt.lists pu.isList pv.isList (by simp; omega) (by omega) (zeB I hin h1 h2 ru rv)
 ·rw [decide_eq_false (fun z => hl (by rw [z]))]
  exact RcAt.lists_lengths pu.isList pv.isList (by simp; omega) (by omega)
theorem zny (I : Inv X pins σ H s) (hu : A.units + (Rep.depth α + 1) < cLine) (h1 : hasL X.K H as x) (h2 : hasL X.K H bs y) (r1 : RelV x u) (r2 : RelV y v) : RcNeAt A s u v (!decide (as = bs)) := by
 obtain ⟨a, xs, rfl, q1, h1⟩ := h1
 obtain ⟨b, ys, rfl, q2, h2⟩ := h2
 cases r1
 cases r2
 obtain ⟨us, ru, pu, _⟩ := I.list q1
 obtain ⟨vs, rv, pv, _⟩ := I.list q2
 have l1 := ru.length
 have l2 := rv.length
 have m1 := h1.length
 have m2 := h2.length
 have hin : A.in1.units + Rep.depth α < cLine := Nat.lt_of_le_of_lt (Nat.add_le_add_right zcn _) (by omega)
 by_cases hl : as.length = bs.length
 ·have e := zen as bs hl
  rw [← e]
  have z : as.length = us.toArray.size := by simp; omega
  rw [z]
  exact RcNeAt.lists pu.isList pv.isList (by simp; omega) (by omega) (zeB I hin h1 h2 ru rv)
 ·rw [decide_eq_false (fun z => hl (by rw [z])), Bool.not_false]
  exact RcNeAt.lists_lengths pu.isList pv.isList (by simp; omega) (by omega)
theorem znz (I : Inv X pins σ H s) (hu : A.units + (Rep.depth α + 1) < cLine) (h1 : hasL X.K H as x) (h2 : hasL X.K H bs y) (r1 : RelV x u) (r2 : RelV y v) : EqAt A s u v (decide (as = bs)) := by
 have rc := zkN (A := A) I hu h1 h2 r1 r2
 obtain ⟨a, xs, rfl, q1, h1⟩ := h1
 obtain ⟨b, ys, rfl, q2, h2⟩ := h2
 cases r1
 cases r2
 by_cases hab : a = b
 ·subst hab
  rw [I.list_inj q2 q1] at h2
  rw [decide_eq_true (h1.inj I h2)]
  exact EqAt.same _
 ·exact EqAt.of_refs hab rc
end
instance {α : Type} [Rep α] : Rep (List α) where
 dec := inferInstance
 depth := Rep.depth α + 1
 has := hasL
 mono := fun e ⟨a, xs, h1, h2, h3⟩ => ⟨a, xs, h1, h2.ext e, h3.mono e⟩
 inj := fun I h1 h2 => zl5 I h1 h2
 rc := fun I hu h1 h2 r1 r2 => zkN I hu h1 h2 r1 r2
 rn := fun I hu h1 h2 r1 r2 => zny I hu h1 h2 r1 r2
 eq := fun I hu h1 h2 r1 r2 => znz I hu h1 h2 r1 r2
def hasP {α β : Type} [Rep α] [Rep β] (K : PySem.W.Frag) (H : Hp) (p : α × β) (v : V) : Prop := ∃ a x y, v = .ref a ∧ H a = some (.tup [x, y]) ∧ Rep.has K H p.1 x ∧ Rep.has K H p.2 y
section
variable {α β : Type} [ra : Rep α] [rb : Rep β] {X : Cx} {pins : List (Addr × Obj)} {σ : St} {H : Hp} {s : Shared} {A : Around} {p q : α × β} {x y : V} {u v : Value}
theorem ziy (I : Inv X pins σ H s) (h1 : hasP X.K H p x) (h2 : hasP X.K H q x) : p = q := by
 obtain ⟨a, x1, x2, rfl, q1, e1, e2⟩ := h1
 obtain ⟨b, y1, y2, e, q2, f1, f2⟩ := h2
 cases e
 have z := I.tuple_inj (SqT.of q2) (SqT.of q1)
 cases z
 have g1 := Rep.inj I e1 f1
 have g2 := Rep.inj I e2 f2
 obtain ⟨p1, p2⟩ := p
 obtain ⟨s1, s2⟩ := q
 cases g1
 cases g2
 rfl
theorem zkM (I : Inv X pins σ H s) (hu : A.units + (Rep.depth α + Rep.depth β + 1) < cLine) (h1 : hasP X.K H p x) (h2 : hasP X.K H q y) (r1 : RelV x u) (r2 : RelV y v) : RcAt A s u v (decide (p = q)) := by
 obtain ⟨a, x1, x2, rfl, q1, e1, e2⟩ := h1
 obtain ⟨b, y1, y2, rfl, q2, f1, f2⟩ := h2
 cases r1
 cases r2
 obtain ⟨us, ru, pu, _⟩ := I.tuple (SqT.of q1)
 obtain ⟨vs, rv, pv, _⟩ := I.tuple (SqT.of q2)
 obtain ⟨u1, u2, rfl, ru1, ru2⟩ := zhc ru
 obtain ⟨v1, v2, rfl, rv1, rv2⟩ := zhc rv
 have hin : ∀ n, n ≤ Rep.depth α + Rep.depth β → A.in1.units + n < cLine := fun n hn => Nat.lt_of_le_of_lt (Nat.add_le_add_right zcn _) (by omega)
 have c1 := Rep.eq (A := A.in1) I (hin _ (by omega)) e1 f1 ru1 rv1
 have c2 := Rep.eq (A := A.in1) I (hin _ (by omega)) e2 f2 ru2 rv2
 have := RcAt.tuples (A := A) (s := s) (l := a) (b := b) (items := #[u1, u2]) (items2 := #[v1, v2]) (e := fun j => if j = 0 then (Rep.dec p.1 q.1).decide else (Rep.dec p.2 q.2).decide) pu pv (by omega) (by
  intro j h1 h2
  have h1' : j < 2 := h1
  have z : j = 0 ∨ j = 1 := by omega
  rcases z with rfl | rfl
  ·exact c1
  ·exact c2)
 have e : ((List.range (min (#[u1, u2] : Array Value).size (#[v1, v2] : Array Value).size)).all (fun j => if j = 0 then (Rep.dec p.1 q.1).decide else (Rep.dec p.2 q.2).decide) && (#[u1, u2] : Array Value).size == (#[v1, v2] : Array Value).size) = decide (p = q) := by
  obtain ⟨p1, p2⟩ := p
  obtain ⟨s1, s2⟩ := q
  show (((List.range 2).all fun j => if j = 0 then (Rep.dec p1 s1).decide else (Rep.dec p2 s2).decide) && true) = _
  rw [show List.range 2 = [0, 1] from rfl]
  simp only [List.all_cons, List.all_nil, Bool.and_true, if_true]
  rw [if_neg (by decide)]
  by_cases z1 : p1 = s1
  ·by_cases z2 : p2 = s2
   ·subst z1 z2; simp
   ·subst z1; simp [z2]
  ·simp [z1]
 rw [e] at this
 exact this
theorem znw (I : Inv X pins σ H s) (hu : A.units + (Rep.depth α + Rep.depth β + 1) < cLine) (h1 : hasP X.K H p x) (h2 : hasP X.K H q y) (r1 : RelV x u) (r2 : RelV y v) : RcNeAt A s u v (!decide (p = q)) := by
 obtain ⟨a, x1, x2, rfl, q1, e1, e2⟩ := h1
 obtain ⟨b, y1, y2, rfl, q2, f1, f2⟩ := h2
 cases r1
 cases r2
 obtain ⟨us, ru, pu, _⟩ := I.tuple (SqT.of q1)
 obtain ⟨vs, rv, pv, _⟩ := I.tuple (SqT.of q2)
 obtain ⟨u1, u2, rfl, ru1, ru2⟩ := zhc ru
 obtain ⟨v1, v2, rfl, rv1, rv2⟩ := zhc rv
 have hin : ∀ n, n ≤ Rep.depth α + Rep.depth β → A.in1.units + n < cLine := fun n hn => Nat.lt_of_le_of_lt (Nat.add_le_add_right zcn _) (by omega)
 have c1 := Rep.eq (A := A.in1) I (hin _ (by omega)) e1 f1 ru1 rv1
 have c2 := Rep.eq (A := A.in1) I (hin _ (by omega)) e2 f2 ru2 rv2
 have := RcNeAt.tuples (A := A) (s := s) (l := a) (b := b) (items := #[u1, u2]) (items2 := #[v1, v2]) (e := fun j => if j = 0 then (Rep.dec p.1 q.1).decide else (Rep.dec p.2 q.2).decide) pu pv (by omega) (by
  intro j h1 h2
  have h1' : j < 2 := h1
  have z : j = 0 ∨ j = 1 := by omega
  rcases z with rfl | rfl
  ·exact c1
  ·exact c2)
 have e : ((List.range (min (#[u1, u2] : Array Value).size (#[v1, v2] : Array Value).size)).all (fun j => if j = 0 then (Rep.dec p.1 q.1).decide else (Rep.dec p.2 q.2).decide) && (#[u1, u2] : Array Value).size == (#[v1, v2] : Array Value).size) = decide (p = q) := by
  obtain ⟨p1, p2⟩ := p
  obtain ⟨s1, s2⟩ := q
  show (((List.range 2).all fun j => if j = 0 then (Rep.dec p1 s1).decide else (Rep.dec p2 s2).decide) && true) = _
  rw [show List.range 2 = [0, 1] from rfl]
  simp only [List.all_cons, List.all_nil, Bool.and_true, if_true]
  rw [if_neg (by decide)]
  by_cases z1 : p1 = s1
  ·by_cases z2 : p2 = s2
   ·subst z1 z2; simp
   ·subst z1; simp [z2]
  ·simp [z1]
 rw [e] at this
 exact this
theorem znx (I : Inv X pins σ H s) (hu : A.units + (Rep.depth α + Rep.depth β + 1) < cLine) (h1 : hasP X.K H p x) (h2 : hasP X.K H q y) (r1 : RelV x u) (r2 : RelV y v) : EqAt A s u v (decide (p = q)) := by
 have rc := zkM (A := A) I hu h1 h2 r1 r2
 have h1' := id h1
 have h2' := id h2
 obtain ⟨a, x1, x2, rfl, q1, e1, e2⟩ := h1
 obtain ⟨b, y1, y2, rfl, q2, f1, f2⟩ := h2
 cases r1
 cases r2
 by_cases hab : a = b
 ·subst hab
  rw [decide_eq_true (ziy I h1' h2')]
  exact EqAt.same _
 ·exact EqAt.of_refs hab rc
end
instance {α β : Type} [Rep α] [Rep β] : Rep (α × β) where
 dec := inferInstance
 depth := Rep.depth α + Rep.depth β + 1
 has := hasP
 mono := fun e ⟨a, x, y, h1, h2, h3, h4⟩ => ⟨a, x, y, h1, e _ _ h2 (fun _ z => nomatch z), Rep.mono e h3, Rep.mono e h4⟩
 inj := fun I h1 h2 => ziy I h1 h2
 rc := fun I hu h1 h2 r1 r2 => zkM I hu h1 h2 r1 r2
 rn := fun I hu h1 h2 r1 r2 => znw I hu h1 h2 r1 r2
 eq := fun I hu h1 h2 r1 r2 => znx I hu h1 h2 r1 r2
theorem huD {A : Around} {k : Nat} {α : Type} [Rep α] (hr : Room k A) (h : Rep.depth α ≤ 64 := by decide) : A.units + Rep.depth α < cLine := Nat.lt_of_le_of_lt (Nat.add_le_add_left h _) hr.units
def rEqD (α : Type) [Rep α] (K : PySem.W.Frag) : R2 := fun x y H Q => ∃ a b : α, Rep.has K H a x ∧ Rep.has K H b y ∧ Q (.bl (decide (a = b))) H
def rNeD (α : Type) [Rep α] (K : PySem.W.Frag) : R2 := fun x y H Q => ∃ a b : α, Rep.has K H a x ∧ Rep.has K H b y ∧ Q (.bl (!decide (a = b))) H
section
variable {X : Cx}
theorem zov (α : Type) [Rep α] (hu : X.A.units + Rep.depth α < cLine) : OpR X (compareOp .Eq) (rEqD α X.K) := by
 intro pins s σ H x y v u Q I rx ry h
 obtain ⟨a, b, ha, hb, q⟩ := h
 refine Rep.rc I hu ha hb rx ry X.prog X.w X.xe _ ⟨.bl _, H, I, rfl, ?_⟩
 have e : (Rep.dec a b).decide = decide (a = b) := rfl
 rw [e]
 exact q
end
end L2
namespace L2
open PySem PySem.Spec PyProof.Rows
section
variable {X : Cx} {pins : List (Addr × Obj)} {σ : St} {H : Hp} {s : Shared} {h' : Heap}
theorem Inv.turnedNew {t' : Nat} {fp : List Addr} {p : Addr} {o : HO} (I : Inv X pins σ H s) (k : ∀ b ob, b ∉ fp → s.heap.get? b = some ob → h'.get? b = some ob) (hf : ∀ b ∈ fp, FpOk X pins H b)
  (hp : s.heap.objs.size ≤ p) (new : zbT X.prog X.w (upd H p o) h' p o) : Inv X pins σ (upd H p o) { s with heap := h', toks := t' } := by
 have hn : H p = none := I.hok.fresh hp
 have nfp : ∀ b u, H b = some u → b ∉ fp := fun b u e z => by rw [(hf b z).1] at e; cases e
 have nep : ∀ b ob, s.heap.get? b = some ob → b ≠ p := fun b ob e => Nat.ne_of_lt (Nat.lt_of_lt_of_le (Heap.lt_size e) hp)
 refine I.step (g' := s.gens) (d' := s.drawn) (ch := fp) (fun b hb => ?_) (fun b ob _ _ hc e _ => k b ob hc e) (fun b ob _ _ hc e _ => ⟨ob.slots, k b ob hc e⟩) (fun b ob _ e n => by rw [zah (nep b ob e)]; exact n)
  (fun b ob hc e => ⟨ob, k b ob hc e⟩) (fun b xs e => by rw [zah (zab e hn)]; exact e) (fun b ob u e => by rw [zah (zab e hn)]; exact e) (fun b ps e => ⟨#[], by rw [zah (zab e hn), e]; simp⟩) (fun m hm => ?_) (fun b u e => ?_) I.bare
 ·obtain ⟨_, h2, _, h4, h5, h6⟩ := hf b hb
  exact ⟨h4, h2, h5, h6⟩
 ·obtain ⟨ob, es, ep, ho, r⟩ := hm
  exact ⟨ob, es, ep, k _ ob (fun z => (hf _ z).2.1 rfl) ho, r⟩
 ·by_cases hb : b = p
  ·subst hb; rw [zac] at e; cases e; exact new
  ·rw [zah hb] at e
   refine (I.hok b u e).stay (fun c v hc q => k c v ?_ q) (fun c q => by rw [zah (zab q hn)]; exact q) fun c xs q => by rw [zah (zab q hn)]; exact q
   rcases hc with z | z
   ·rw [z]; exact nfp b u e
   ·exact nfp c _ z
theorem zjM {P : Program} {w : World} {H : Hp} {h : Heap} {p : Addr} {x y : V} {u v : Value} (rx : RelV x u) (ry : RelV y v) (e : h.get? p = some { cls := .type "tuple", data := .seq #[u, v] }) : zbT P w H h p (.tup [x, y]) :=
 ⟨by show 2 ≤ sizeLine; decide, [u, v], .cons rx (.cons ry .nil), _, e, rfl, 0, rfl⟩
end
def Ite (K : PySem.W.Frag) (a : Addr) : It :=
 ⟨fun i H => ∃ xs x, SqL K H a xs ∧ xs[i]? = some x, fun i H x H' => ∃ p y, x = .ref p ∧ H p = none ∧ (∀ xs, SqL K H a xs → xs[i]? = some y) ∧ H' = upd H p (.tup [.int i, y]), fun i H => ∃ xs, SqL K H a xs ∧ xs.length ≤ i⟩
theorem zjJ {P : Program} {w : World} {K : PySem.W.Frag} {es : List Expr} {k0} {pos : Pos} (a it e : Addr) (hne : e ≠ it) : Turn P w K (.Tuple es k0 pos) (Ite K a) [e, it] e (fun i h => (∃ old, IsEnum h e it i old) ∧ h.IsListIter it a i) where
 mem := by simp
 obj := fun i h st b hb => by
  obtain ⟨⟨old, he⟩, o, ho, c, d⟩ := st
  rcases List.mem_cons.mp hb with z | z
  ·subst z
   exact ⟨_, he, fun v z => by cases z⟩
  ·have z := List.mem_singleton.mp z
   subst z
   exact ⟨o, ho, fun v z => by rw [d] at z; cases z⟩
 keep := fun i h h' st k => by
  obtain ⟨⟨old, he⟩, hi⟩ := st
  exact ⟨⟨old, k e (by simp) _ he⟩, hi.at fun o q => k it (by simp) o q⟩
 item := by
  intro X hP hw hK hc i pins s σ H E I hf st hg
  subst hP hw hK
  obtain ⟨⟨old, he⟩, hi⟩ := st
  obtain ⟨xs, x, hq, hx⟩ := hg
  obtain ⟨its, rv, p, hz⟩ := I.list hq
  obtain ⟨u, hu, ru⟩ := rv.get hx
  refine wpAny_pyNext_enum_item he hi p.isList (x := u) (by simpa using hu) hne fun h1 he1 hi1 ht1 _ k1 => ?_
  refine ⟨_, rfl, wpAny_letOwnedTupleGo_enum (s := { s with heap := h1, toks := s.toks + 1 }) he1 fun h2 he2 sb => ?_⟩
  have np : s.heap.objs.size ≠ e := Nat.ne_of_gt (Heap.lt_size he)
  have ht2 : h2.get? s.heap.objs.size = some { cls := .type "tuple", data := .seq #[.int i s.toks, u] } := (sb.2 _ np).trans ht1
  have I2 : Inv X pins σ (upd H s.heap.objs.size (.tup [.int i, x])) { s with heap := h2, toks := s.toks + 1 } :=
   I.turnedNew (fp := [e, it]) (fun b ob hb q => (sb.2 b (fun z => hb (by simp [z]))).trans (k1 b ob (fun z => hb (by simp [z])) (fun z => hb (by simp [z])) q)) hf (Nat.le_refl _) (zjM ⟨_, rfl⟩ ru ht2)
  refine ⟨.ref s.heap.objs.size, _, I2, rfl, ⟨_, x, rfl, I.hok.fresh (Nat.le_refl _), fun ys hy => by rw [I.list_inj hy hq]; exact hx, rfl⟩, ⟨⟨u, ?_⟩, ?_⟩, fun b hb => ?_⟩
  ·have z : IsEnum h2 e it ((i : Int) + 1) u := he2
   exact z
  ·exact hi1.at fun o q => (sb.2 it (Ne.symm hne)).trans q
  ·have z := (hf b hb).1
   rw [zah ?_]
   ·exact z
   ·rcases List.mem_cons.mp hb with q | q
    ·rw [q]; exact Ne.symm np
    ·rw [List.mem_singleton.mp q]
     obtain ⟨o, ho, _⟩ := hi
     exact Nat.ne_of_lt (Heap.lt_size ho)
 done := by
  intro X hP hw hK hc i pins s σ H E I hf st hg
  subst hP hw hK
  obtain ⟨⟨old, he⟩, hi⟩ := st
  obtain ⟨xs, hq, hx⟩ := hg
  obtain ⟨its, rv, p, hz⟩ := I.list hq
  obtain ⟨f0, f1, f2, f3, f4, f5⟩ := hf it (by simp)
  have hl := rv.length
  exact wpAny_pyNext_enum_end (I.ok.hd hc) he hi p.isList (by simp; omega) fun h' eb => ⟨rfl, I.turned (t' := s.toks) (fun b o hb q => eb b o hb q) f0 f1 f3 f4 f5⟩
 self := fun _ _ _ _ _ st h => by
  obtain ⟨⟨old, he⟩, _⟩ := st
  exact wpAny_pyIter_enum he h
def iEnum (K : PySem.W.Frag) (ta : TA) : TI := fun σ H R => ta σ H fun vs H1 => ∃ a, vs = [.ref a] ∧ (∃ xs, SqL K H1 a xs) ∧ R (Ite K a) H1
section
variable {X : Cx}
theorem zda {es : List Expr} {k0} {tp : Pos} {a : Expr} {ta : TA} {p pos : Pos} (hg : Gl X "enumerate") (hm : X.mg "enumerate" = none) (ha : PA X [a] ta) (hs : starEach [a] X.env = [(false, eval a X.env)] := by rfl) : PI X (.Tuple es k0 tp) (.Call (.Name "enumerate" p) [a] [] pos) (iEnum X.K ta) := by
 intro pins s σ H R I h
 refine Call_ (zeV I hg hm boot_enumerate (PyProof.Rows.callWith_type1 (thn (ha pos pins s σ H _ I h) fun us s1 ⟨vs, H1, I1, r1, q1⟩ => ?_) hs rfl))
 obtain ⟨l, e, ⟨xs, hq⟩, q⟩ := q1
 subst e
 cases r1 with
 | cons r rr =>
  cases rr
  cases r
  obtain ⟨its, rv, pl, hz⟩ := I1.list hq
  refine call_enumerate_list pl.isList fun h' he hi _ hk => ?_
  have I2 : Inv X pins σ H1 { s1 with heap := h' } := I1.kept (t' := s1.toks) hk
  refine wpAny_pyIter_enum (s := { s1 with heap := h' }) he ⟨_, [s1.heap.objs.size + 1, s1.heap.objs.size], _, _, H1, rfl, I2, zjJ l s1.heap.objs.size (s1.heap.objs.size + 1) (Nat.succ_ne_self _), ⟨⟨_, he⟩, hi⟩, fun b hb => ?_, q⟩
  have hb' : s1.heap.objs.size ≤ b := by
   rcases List.mem_cons.mp hb with z | z
   ·rw [z]; exact Nat.le_succ _
   ·rw [List.mem_singleton.mp z]; exact Nat.le_refl _
  exact I1.fpOk hb' (I1.hok.fresh hb')
end
theorem zgf {K : PySem.W.Frag} {a : Addr} {xs : List V} {g : TG} {tb : TS} {D : Ends} {σ : St} {H : Hp} (Pv : Nat → St → Hp → Prop) (h0 : Pv 0 σ H) (hl : ∀ i σ H, i ≤ xs.length → Pv i σ H → SqL K H a xs)
  (hs : ∀ i x σ H p, xs[i]? = some x → Pv i σ H → H p = none → g (.ref p) σ (upd H p (.tup [.int i, x])) fun σ2 H2 => tb { D with nx := Pv (i + 1), ct := Pv (i + 1), bk := D.nx } σ2 H2) (hd : ∀ σ H, Pv xs.length σ H → D.nx σ H) :
  ∃ W : Nat → Nat → St → Hp → Prop, (∃ m, W 0 m σ H) ∧ ∀ i m σ H, W i m σ H → ((Ite K a).stop i H ∧ D.nx σ H) ∨ ((Ite K a).go i H ∧ ∃ N : St → Hp → Prop, (∀ σ' H', N σ' H' → ∃ m', m' < m ∧ W (i + 1) m' σ' H') ∧ ∀ x H', (Ite K a).yld i H x H' → g x σ H' fun σ2 H2 => tb { D with nx := N, ct := N, bk := D.nx } σ2 H2) := by
 refine ⟨fun i m σ H => i + m = xs.length ∧ Pv i σ H, ⟨xs.length, by omega, h0⟩, fun i m σ H ⟨e, pv⟩ => ?_⟩
 have hS := hl i σ H (by omega) pv
 by_cases hi : i < xs.length
 ·refine .inr ⟨⟨xs, xs[i], hS, List.getElem?_eq_getElem hi⟩, Pv (i + 1), fun σ' H' q => ⟨m - 1, by omega, by omega, q⟩, fun x H' y => ?_⟩
  obtain ⟨p, z, rfl, hp, hz, rfl⟩ := y
  exact hs i z σ H p (hz xs hS) pv hp
 ·have : i = xs.length := by omega
  subst this
  exact .inl ⟨⟨xs, hS, Nat.le_refl _⟩, hd σ H pv⟩
def Itz (K : PySem.W.Frag) (a b : Addr) : It :=
 ⟨fun i H => ∃ xs ys x y, SqL K H a xs ∧ SqL K H b ys ∧ xs[i]? = some x ∧ ys[i]? = some y, fun i H x H' => ∃ p y z, x = .ref p ∧ H p = none ∧ (∀ xs, SqL K H a xs → xs[i]? = some y) ∧ (∀ xs, SqL K H b xs → xs[i]? = some z) ∧ H' = upd H p (.tup [y, z]), fun i H => ∃ xs ys, SqL K H a xs ∧ SqL K H b ys ∧ (xs.length ≤ i ∨ ys.length ≤ i)⟩
theorem zlu {P : Program} {w : World} {K : PySem.W.Frag} {es : List Expr} {k0} {pos : Pos} {a b z TI TO i1 i2 : Addr} (D : ZipApart z TI TO i1 i2 a b) : Turn P w K (.Tuple es k0 pos) (Itz K a b) [z, TI, TO, i1, i2] z
  (fun i h => IsZip h z TI TO .none ∧ IsPair h TI (.ref i1) (.ref i2) ∧ (∃ u v, IsPair h TO u v) ∧ h.IsListIter i1 a i ∧ h.IsListIter i2 b i) where
 mem := by simp
 obj := fun i h st c hc => by
  obtain ⟨hz, hTI, ⟨u, v, hTO⟩, ⟨o1, e1, _, d1⟩, ⟨o2, e2, _, d2⟩⟩ := st
  simp only [List.mem_cons, List.not_mem_nil, or_false] at hc
  rcases hc with rfl | rfl | rfl | rfl | rfl
  ·exact ⟨_, hz, fun v q => by cases q⟩
  ·exact ⟨_, hTI, fun v q => by cases q⟩
  ·exact ⟨_, hTO, fun v q => by cases q⟩
  ·exact ⟨o1, e1, fun v q => by rw [d1] at q; cases q⟩
  ·exact ⟨o2, e2, fun v q => by rw [d2] at q; cases q⟩
 keep := fun i h h' st k => by
  obtain ⟨hz, hTI, ⟨u, v, hTO⟩, h1, h2⟩ := st
  exact ⟨k z (by simp) _ hz, k TI (by simp) _ hTI, ⟨u, v, k TO (by simp) _ hTO⟩, h1.at fun o q => k i1 (by simp) o q, h2.at fun o q => k i2 (by simp) o q⟩
 item := by
  intro X hP hw hK hc i pins s σ H E I hf st hg
  subst hP hw hK
  obtain ⟨hz, hTI, ⟨u0, v0, hTO⟩, h1, h2⟩ := st
  obtain ⟨xs, ys, x, y, hqa, hqb, hx, hy⟩ := hg
  obtain ⟨its, rv, p, _⟩ := I.list hqa
  obtain ⟨jts, rw', p', _⟩ := I.list hqb
  obtain ⟨u, hu, ru⟩ := rv.get hx
  obtain ⟨v, hv, rv'⟩ := rw'.get hy
  refine wpAny_pyNext_zip_item D hz hTI hTO h1 h2 p.isList p'.isList (x := u) (y := v) (by simpa using hu) (by simpa using hv) fun h1' hz1 hTO1 hi1 hi2 ht1 _ k1 => ?_
  refine ⟨_, rfl, wpAny_letOwnedTupleGo_zip (s := { s with heap := h1' }) hz1 fun h2' hz2 sb => ?_⟩
  have np : s.heap.objs.size ≠ z := Nat.ne_of_gt (Heap.lt_size hz)
  have ht2 : h2'.get? s.heap.objs.size = some { cls := .type "tuple", data := .seq #[u, v] } := (sb.2 _ np).trans ht1
  have I2 : Inv X pins σ (upd H s.heap.objs.size (.tup [x, y])) { s with heap := h2', toks := s.toks } :=
   I.turnedNew (fp := [z, TI, TO, i1, i2]) (fun c ob hb q => (sb.2 c (fun r => hb (by simp [r]))).trans (k1 c ob (fun r => hb (by simp [r])) (fun r => hb (by simp [r])) (fun r => hb (by simp [r])) (fun r => hb (by simp [r])) q)) hf (Nat.le_refl _) (zjM ru rv' ht2)
  refine ⟨.ref s.heap.objs.size, _, I2, rfl, ⟨_, x, y, rfl, I.hok.fresh (Nat.le_refl _), fun ys hy' => by rw [I.list_inj hy' hqa]; exact hx, fun ys hy' => by rw [I.list_inj hy' hqb]; exact hy, rfl⟩, ⟨hz2, (sb.2 _ D.TIz).trans (k1 TI _ D.TIz D.TITO D.TIi1 D.TIi2 hTI), ⟨_, _, (sb.2 _ D.TOz).trans hTO1⟩, hi1.at fun o q => (sb.2 i1 D.i1z).trans q, hi2.at fun o q => (sb.2 i2 D.i2z).trans q⟩, fun c hb => ?_⟩
  have zf := (hf c hb).1
  have lt : c < s.heap.objs.size := by
   simp only [List.mem_cons, List.not_mem_nil, or_false] at hb
   obtain ⟨o1, e1, _⟩ := h1
   obtain ⟨o2, e2, _⟩ := h2
   rcases hb with rfl | rfl | rfl | rfl | rfl
   ·exact Heap.lt_size hz
   ·exact Heap.lt_size hTI
   ·exact Heap.lt_size hTO
   ·exact Heap.lt_size e1
   ·exact Heap.lt_size e2
  rw [zah (Nat.ne_of_lt lt)]
  exact zf
 done := by
  intro X hP hw hK hc i pins s σ H E I hf st hg
  subst hP hw hK
  obtain ⟨hz, hTI, ⟨u0, v0, hTO⟩, h1, h2⟩ := st
  obtain ⟨xs, ys, hqa, hqb, hend⟩ := hg
  obtain ⟨its, rv, p, _⟩ := I.list hqa
  obtain ⟨jts, rw', p', _⟩ := I.list hqb
  have l1 := rv.length
  have l2 := rw'.length
  refine wpAny_pyNext_zip_end (I.ok.hd hc) D hz hTI hTO h1 h2 p.isList p'.isList (by
   rcases hend with q | q
   ·left; simp; omega
   ·right; simp; omega) fun h' kk => ⟨rfl, ?_⟩
  refine I.step (g' := s.gens) (d' := s.drawn) (t' := s.toks) (ch := [z, TI, TO, i1, i2]) (fun c hb => ?_) (fun c ob _ _ hn q _ => kk c ob (fun r => hn (by simp [r])) (fun r => hn (by simp [r])) (fun r => hn (by simp [r])) (fun r => hn (by simp [r])) q)
   (fun c ob _ _ hn q _ => ⟨ob.slots, kk c ob (fun r => hn (by simp [r])) (fun r => hn (by simp [r])) (fun r => hn (by simp [r])) (fun r => hn (by simp [r])) q⟩) (fun _ _ _ _ n => n)
   (fun c ob hn q => ⟨ob, kk c ob (fun r => hn (by simp [r])) (fun r => hn (by simp [r])) (fun r => hn (by simp [r])) (fun r => hn (by simp [r])) q⟩) (fun _ _ q => q) (fun _ _ _ q => q) (fun c ps q => ⟨#[], by rw [q]; simp⟩) (fun m hm => ?_) (fun c u e => ?_) I.bare
  ·obtain ⟨_, q2, _, q4, q5, q6⟩ := hf c hb
   exact ⟨q4, q2, q5, q6⟩
  ·obtain ⟨ob, es, ep, ho, r⟩ := hm
   have nL : ∀ c ∈ [z, TI, TO, i1, i2], X.env.locals ≠ c := fun c hc => Ne.symm (hf c hc).2.1
   exact ⟨ob, es, ep, kk _ ob (nL z (by simp)) (nL TO (by simp)) (nL i1 (by simp)) (nL i2 (by simp)) ho, r⟩
  ·have nf : ∀ c' u, H c' = some u → ∀ q ∈ [z, TI, TO, i1, i2], c' ≠ q := fun c' u e q hq r => by rw [r, (hf q hq).1] at e; cases e
   refine (I.hok c u e).stay (fun c' v hc' q => ?_) (fun _ q => q) fun _ _ q => q
   have go : ∀ u', H c' = some u' → h'.get? c' = some v := fun u' e' => kk c' v (nf c' _ e' z (by simp)) (nf c' _ e' TO (by simp)) (nf c' _ e' i1 (by simp)) (nf c' _ e' i2 (by simp)) q
   rcases hc' with r | r
   ·exact go u (by rw [r]; exact e)
   ·exact go _ r
 self := fun _ _ _ _ _ st h => wpAny_pyIter_zip st.1 h
theorem zjx {l l' n : Nat} (hl : l < n) (hl' : l' < n) : ZipApart (n + 4) (n + 2) (n + 3) n (n + 1) l l' := by
 constructor <;> (intro z; have z' : (_ : Nat) = _ := z; omega)
theorem znS {n c : Nat} (h : c ∈ [n + 4, n + 2, n + 3, n, n + 1]) : n ≤ c := by
 simp only [List.mem_cons, List.not_mem_nil, or_false] at h
 omega
def iZip (K : PySem.W.Frag) (ta : TA) : TI := fun σ H R => ta σ H fun vs H1 => ∃ a b, vs = [.ref a, .ref b] ∧ (∃ xs, SqL K H1 a xs) ∧ (∃ xs, SqL K H1 b xs) ∧ R (Itz K a b) H1
section
variable {X : Cx}
theorem zoi {es : List Expr} {k0} {tp : Pos} {a b : Expr} {ta : TA} {p pos : Pos} (hg : Gl X "zip") (hm : X.mg "zip" = none) (ha : PA X [a, b] ta) (hs : starEach [a, b] X.env = [(false, eval a X.env), (false, eval b X.env)] := by rfl) (hs2 : starEach [b] X.env = [(false, eval b X.env)] := by rfl) : PI X (.Tuple es k0 tp) (.Call (.Name "zip" p) [a, b] [] pos) (iZip X.K ta) := by
 intro pins s σ H R I h
 refine Call_ (zeV I hg hm boot_zip (PyProof.Rows.callWith_type1 (thn (ha pos pins s σ H _ I h) fun us s1 ⟨vs, H1, I1, r1, q1⟩ => ?_) (by rw [hs, hs2]) (by rw [hs2]; rfl)))
 obtain ⟨l, l', e, ⟨xs, hq⟩, ⟨ys, hq'⟩, q⟩ := q1
 subst e
 cases r1 with
 | cons r rr =>
  cases rr with
  | cons r' rr =>
   cases rr
   cases r
   cases r'
   obtain ⟨its, rv, pl, hz⟩ := I1.list hq
   obtain ⟨jts, rv', pl', hz'⟩ := I1.list hq'
   have hl : l < s1.heap.objs.size := by obtain ⟨o, _, e, _⟩ := pl; exact Heap.lt_size e
   have hl' : l' < s1.heap.objs.size := by obtain ⟨o, _, e, _⟩ := pl'; exact Heap.lt_size e
   refine call_zip_2 pl.isList pl'.isList fun h' hz hTI hTO hi hi' _ hk => ?_
   have I2 : Inv X pins σ H1 { s1 with heap := h' } := I1.kept (t' := s1.toks) hk
   refine wpAny_pyIter_zip (s := { s1 with heap := h' }) hz ⟨_, [s1.heap.objs.size + 4, s1.heap.objs.size + 2, s1.heap.objs.size + 3, s1.heap.objs.size, s1.heap.objs.size + 1], _, _, H1, rfl, I2, zlu (zjx hl hl'), ⟨hz, hTI, ⟨_, _, hTO⟩, hi, hi'⟩, fun c hb => ?_, q⟩
   have hb' : s1.heap.objs.size ≤ c := znS hb
   exact I1.fpOk hb' (I1.hok.fresh hb')
end
end L2
namespace L2
open PySem PySem.Spec PyProof.Rows
def zbK (X : Cx) (N : List Str) (scope : Scope) (cl : List (Str × Addr)) (C : Addr) (s₂ : Shared) (H₂ : Hp) (fp : List Addr) : Cx :=
 { X with N := N, s₀ := s₂, H₀ := H₂, env := compEnvC scope cl C X.env, outer := X.stack, stack := X.stack, ex := fp, fn := fun _ => false, xe := fun _ _ => False }
structure zg6 (scope : Scope) (env : Env) (cl : List (Str × Addr)) : Prop where
 eq : closureFor scope env = pure cl
 sub : ∀ x c, cl.lookup x = some c → env.cells.lookup x = some c
 has : ∀ x, (x, NameKind.free) ∈ scope.names → ∃ c, cl.lookup x = some c
theorem ze7 {env : Env} : ∀ (names : List (Str × NameKind)) (cs : List (Str × Addr)), (∀ x, (x, NameKind.free) ∈ names → ∃ c, env.cells.lookup x = some c) → (∀ x c, cs.lookup x = some c → env.cells.lookup x = some c) →
  ∃ cl : List (Str × Addr), (forIn names cs (fun (x : Str × NameKind) (r : List (Str × Addr)) => if (x.2 == NameKind.free) = true then (do let c ← cellOf env x.1; pure (ForInStep.yield ((x.1, c) :: r))) else pure (ForInStep.yield r)) : Sem (List (Str × Addr))) = pure cl ∧
   (∀ x c, cl.lookup x = some c → env.cells.lookup x = some c) ∧ (∀ x c, cs.lookup x = some c → ∃ c', cl.lookup x = some c') ∧ ∀ x, (x, NameKind.free) ∈ names → ∃ c, cl.lookup x = some c
 | [], cs, _, h2 => ⟨cs, by rw [List.forIn_nil], h2, fun x c e => ⟨c, e⟩, fun _ z => nomatch z⟩
 | (n, k) :: r, cs, h1, h2 => by
  by_cases hk : k = .free
  ·subst hk
   obtain ⟨c, hc⟩ := h1 n List.mem_cons_self
   have hn : ∀ x c', ((n, c) :: cs).lookup x = some c' → env.cells.lookup x = some c' := fun x c' e => by
    rw [List.lookup_cons] at e
    cases hx : x == n with
    | true =>
     rw [hx] at e
     cases e
     rw [eq_of_beq hx]
     exact hc
    | false =>
     rw [hx] at e
     exact h2 x c' e
   obtain ⟨cl, e, s1, s2, s3⟩ := ze7 r ((n, c) :: cs) (fun x hx => h1 x (List.mem_cons_of_mem _ hx)) hn
   have here : ∃ c', cl.lookup n = some c' := s2 n c (by rw [List.lookup_cons, beq_self_eq_true])
   refine ⟨cl, ?_, s1, fun x c' q => ?_, fun x hx => ?_⟩
   ·rw [List.forIn_cons, if_pos (by rfl)]
    have q : cellOf env n = pure c := by unfold cellOf; rw [hc]
    rw [q]
    simp only [pure_bind]
    exact e
   ·cases hxn : x == n with
    | true => rw [eq_of_beq hxn]; exact here
    | false => exact s2 x c' (by rw [List.lookup_cons, hxn]; exact q)
   ·rcases List.mem_cons.mp hx with z | z
    ·cases z; exact here
    ·exact s3 x z
  ·obtain ⟨cl, e, s1, s2, s3⟩ := ze7 r cs (fun x hx => h1 x (List.mem_cons_of_mem _ hx)) h2
   refine ⟨cl, ?_, s1, s2, fun x hx => ?_⟩
   ·have hb : (k == NameKind.free) = false := by simpa using hk
    rw [List.forIn_cons, if_neg (by rw [hb]; exact Bool.false_ne_true)]
    simp only [pure_bind]
    exact e
   ·rcases List.mem_cons.mp hx with z | z
    ·cases z; exact absurd rfl hk
    ·exact s3 x z
theorem ze6 {scope : Scope} {env : Env} (h : ∀ x, (x, NameKind.free) ∈ scope.names → ∃ c, env.cells.lookup x = some c) : ∃ cl, zg6 scope env cl := by
 obtain ⟨cl, e, s1, _, s3⟩ := ze7 scope.names [] h (fun _ _ z => nomatch z)
 refine ⟨cl, ?_, s1, s3⟩
 unfold closureFor
 exact (by simpa using e)
theorem zcl {env : Env} : ∀ {names : List (Str × NameKind)} {x : Str}, names.lookup x = some .free →
  (names.map fun (n, k) => if (k == NameKind.free && env.scope.kind == .function && env.kindOf n == some .cell) then (n, NameKind.cell) else (n, k)).lookup x = some .cell ∨
  (names.map fun (n, k) => if (k == NameKind.free && env.scope.kind == .function && env.kindOf n == some .cell) then (n, NameKind.cell) else (n, k)).lookup x = some .free
 | [], _, h => by simp at h
 | (n, k) :: r, x, h => by
  have ih := @zcl env r x
  show List.lookup x ((if (k == NameKind.free && env.scope.kind == .function && env.kindOf n == some .cell) = true then (n, NameKind.cell) else (n, k)) :: _) = _ ∨ List.lookup x ((if (k == NameKind.free && env.scope.kind == .function && env.kindOf n == some .cell) = true then (n, NameKind.cell) else (n, k)) :: _) = _
  cases hx : x == n with
  | true =>
   simp only [List.lookup_cons, hx] at h
   cases h
   by_cases hc : (NameKind.free == NameKind.free && env.scope.kind == .function && env.kindOf n == some .cell) = true
   ·rw [if_pos hc]; left; simp only [List.lookup_cons, hx]
   ·rw [if_neg hc]; right; simp only [List.lookup_cons, hx]
  | false =>
   simp only [List.lookup_cons, hx] at h
   by_cases hc : (k == NameKind.free && env.scope.kind == .function && env.kindOf n == some .cell) = true
   ·rw [if_pos hc]; simp only [List.lookup_cons, hx]; exact ih h
   ·rw [if_neg hc]; simp only [List.lookup_cons, hx]; exact ih h
theorem zdH {env : Env} : ∀ {names : List (Str × NameKind)} {x : Str} {k' : NameKind}, (names.map fun (n, k) => if (k == NameKind.free && env.scope.kind == .function && env.kindOf n == some .cell) then (n, NameKind.cell) else (n, k)).lookup x = some k' → k' = .cell ∨ k' = .free →
  (∀ y ∈ names, y.2 ≠ .cell) → (x, NameKind.free) ∈ names
 | [], _, _, h, _, _ => by simp at h
 | (n, k) :: r, x, k', h, hk, hc => by
  have ih := @zdH env r x k'
  have h' : List.lookup x ((if (k == NameKind.free && env.scope.kind == .function && env.kindOf n == some .cell) = true then (n, NameKind.cell) else (n, k)) :: r.map fun (n, k) => if (k == NameKind.free && env.scope.kind == .function && env.kindOf n == some .cell) then (n, NameKind.cell) else (n, k)) = some k' := h
  cases hx : x == n with
  | true =>
   have e := eq_of_beq hx
   subst e
   by_cases hf : k = .free
   ·subst hf; exact List.mem_cons_self
   ·have hb : (k == NameKind.free) = false := by simpa using hf
    rw [if_neg (by rw [hb]; simp), List.lookup_cons, hx] at h'
    cases h'
    rcases hk with z | z
    ·exact absurd z (hc (x, k) List.mem_cons_self)
    ·exact absurd z hf
  | false =>
   refine List.mem_cons_of_mem _ (ih ?_ hk fun y hy => hc y (List.mem_cons_of_mem _ hy))
   by_cases hcd : (k == NameKind.free && env.scope.kind == .function && env.kindOf n == some .cell) = true
   ·rw [if_pos hcd, List.lookup_cons, hx] at h'; exact h'
   ·rw [if_neg hcd, List.lookup_cons, hx] at h'; exact h'
def zeo (own : Nat) (cap : List Nat) (σ : St) : St := List.replicate own none ++ cap.map fun i => (σ[i]?).getD none
structure ziL (X : Cx) (scope : Scope) (N : List Str) (own : Nat) (cap : List Nat) : Prop where
 kind : scope.kind = .function
 nocell : (scope.names.all fun y => y.2 != .cell) = true
 locs : (scope.names.all fun y => y.2 != .local || scope.names.lookup y.1 == some .local) = true
 frees : (scope.names.all fun y => y.2 != .free || (X.env.kindOf y.1 == some .cell || X.env.kindOf y.1 == some .free)) = true
 len : N.length = own + cap.length
 caps : ((List.range cap.length).all fun j => (N[own + j]? == X.N[cap[j]!]?) && (match N[own + j]? with | some x => scope.names.lookup x == some .free && (X.env.kindOf x == some .cell || X.env.kindOf x == some .free) | none => false)) = true
section
variable {prog : Program} {w : World} {A : Around} {R : Result → Shared → Prop} {s : Shared}
theorem zhL {elt target iter : Expr} {ifs : List Expr} {scope : Scope} {pos : Pos} {it acc : Value} {env : Env} (I : Nat → Shared → Prop)
  (turn : ∀ n s, I n s → wpAny (model prog w) A (pyNext it) (fun r s₁ => match r with
   | none => R (.ok .next) s₁
   | some v => wpAny (model prog w) A (letOwnedTupleGo target it v) (fun _ s₁' => wpAny (model prog w) A (assign target env v) (fun _ s₂ =>
     wpAny (model prog w) A (forIn ifs true fun c r => if r = true then do let ok ← isTrue c env (eval c env); pure (ForInStep.yield ok) else pure (ForInStep.yield r)) (fun ok s₃ =>
      if ok = true then wpAny (model prog w) A (eval elt env) (fun x s₄ =>
       wpAny (model prog w) A (call (.builtin "list.append") [acc, x]) (fun _ s₅ => ∃ m, m < n ∧ I m s₅) (fun _ _ => False) s₄) (fun _ _ => False) s₃
      else ∃ m, m < n ∧ I m s₃) (fun _ _ => False) s₂) (fun _ _ => False) s₁') (fun _ _ => False) s₁) (fun _ _ => False) s)
  (n : Nat) (h : I n s) :
  codeAny (model prog w) A (.compLoop (.ListComp elt [⟨target, iter, ifs, 0⟩] scope pos) 0 it acc env) R s := by
 refine codeAny_loop rfl I (fun n s hI => ?_) n h
 show wpAny _ A ((compTurn (.ListComp elt [⟨target, iter, ifs, 0⟩] scope pos) 0 it acc env).onRaise (fun x => do noteFrame x env; theTreesLotGoes x)) _ _ s
 refine wpAny_noted ?_
 rw [compTurn_list]
 refine wpAny_bind (wpAny_standAt (wpAny_bind (wpAny_mono (turn n s hI) (fun r s₁ h₁ => ?_) fun _ _ h' => h'.elim)))
 cases r with
 | none => exact wpAny_pure h₁
 | some v =>
  refine wpAny_bind (wpAny_mono h₁ (fun _ s₁' h₁' => ?_) fun _ _ h' => h'.elim)
  refine wpAny_bind (wpAny_mono h₁' (fun _ s₂ h₂ => wpAny_bind (wpAny_mono h₂ (fun ok s₃ h₃ => ?_) fun _ _ h' => h'.elim)) fun _ _ h' => h'.elim)
  cases ok with
  | true =>
   simp only [if_true] at h₃ ⊢
   exact wpAny_bind (wpAny_bind (wpAny_mono h₃ (fun x s₄ h₄ => wpAny_bind (wpAny_mono h₄ (fun _ s₅ h₅ => wpAny_pure (wpAny_pure ⟨rfl, h₅⟩)) fun _ _ h' => h'.elim)) fun _ _ h' => h'.elim))
  | false =>
   simp only [Bool.false_eq_true, if_false] at h₃ ⊢
   exact wpAny_pure ⟨rfl, h₃⟩
end
section
variable {X : Cx}
def PTs (X : Cx) (ifs : List Expr) (t : TT) : Prop :=
 ∀ (pins : List (Addr × Obj)) (s : Shared) (σ : St) (H : Hp) (Q : Bool → Hp → Prop), Inv X pins σ H s → t σ H Q →
  wpAny (model X.prog X.w) X.A (forIn ifs true fun c r => if r = true then do let ok ← isTrue c X.env (eval c X.env); pure (ForInStep.yield ok) else pure (ForInStep.yield r)) (TP X pins σ Q) X.xe s
def tYes : TT := fun _ H Q => Q true H
theorem zdI : PTs X [] tYes := fun _ _ _ H _ I h => wpAny_tests_nil ⟨H, I, h⟩
theorem zeJ {c : Expr} {t : TT} (h : PT X c t) : PTs X [c] t := fun pins s σ H Q I q => wpAny_tests_one (h pins s σ H Q I q)
theorem zl0 {pins : List (Addr × Obj)} {σ : St} {H : Hp} {s : Shared} {N : List Str} {own : Nat} {cap : List Nat} {scope : Scope} {cl : List (Str × Addr)} {C : Addr} {fp : List Addr} {h₁ : Heap} {tk : Nat} {D : Addr}
  (I : Inv X pins σ H s) (c : ziL X scope N own cap) (hcl : zg6 scope X.env cl) (f : ∀ b ∈ fp, FpOk X pins H b) (hD : s.heap.objs.size ≤ D) (hC : s.heap.objs.size ≤ C) (hCD : D ≠ C)
  (kp : ∀ b o, s.heap.get? b = some o → h₁.get? b = some o) (hnew : h₁.get? D = some { cls := .type "list", data := .seq #[] }) (hns : ∃ m, h₁.Ns C m) (hfp : ∀ b ∈ fp, b < s.heap.objs.size) (hcalm : X.calm = true) :
  Inv (zbK X N scope cl C s H fp) pins (zeo own cap σ) (upd H D (.lst [])) { s with heap := h₁, toks := tk } := by
 have hfr : H D = none := I.hok.fresh hD
 have hfrC : H C = none := I.hok.fresh hC
 have sz : ∀ b o, s.heap.get? b = some o → b ≠ D ∧ b ≠ C := fun b o e => ⟨Nat.ne_of_lt (Nat.lt_of_lt_of_le (Heap.lt_size e) hD), Nat.ne_of_lt (Nat.lt_of_lt_of_le (Heap.lt_size e) hC)⟩
 have cells : ∀ x cc, cl.lookup x = some cc → ∃ v, s.heap.IsCell cc v := fun x cc e => I.cell x cc (hcl.sub x cc e)
 have cellne : ∀ x cc, cl.lookup x = some cc → cc ≠ D ∧ cc ≠ C := fun x cc e => by
  obtain ⟨v, o, ho, _⟩ := cells x cc e
  exact sz cc o ho
 have ok : (zbK X N scope cl C s H fp).Ok := by
  refine ⟨I.ok.mod, c.kind, I.ok.glob, I.ok.blt, hC, fun x y cc e1 e2 => I.ok.inj x y cc (hcl.sub x cc e1) (hcl.sub y cc e2), fun x hx => ?_, (fun x cc z _ => nomatch z), I.ok.hd, I.ok.frames, .inl rfl, fun b hb => ?_, fun b o e => I.bs b o e, ?_, fun b o e hb => ?_, fun b hb z => ?_, I.stack, fun b hb => I.stkFree b hb⟩
  ·have hm : (x, NameKind.free) ∈ scope.names := by
    rcases hx with z | z
    ·exact zdH (env := X.env) (names := scope.names) (x := x) (k' := .cell) z (.inl rfl) fun y hy q => by
      have := List.all_eq_true.mp c.nocell y hy
      rw [q] at this
      exact absurd this (by decide)
    ·exact zdH (env := X.env) (names := scope.names) (x := x) (k' := .free) z (.inr rfl) fun y hy q => by
      have := List.all_eq_true.mp c.nocell y hy
      rw [q] at this
      exact absurd this (by decide)
   exact hcl.has x hm
  ·exact ⟨Nat.ne_of_lt (Nat.lt_of_lt_of_le (hfp b hb) hC), fun x cc e z => (f b hb).2.2.2.2.1 x cc (hcl.sub x cc e) z⟩
  ·exact Nat.le_trans I.ok.bsz I.sz
  ·obtain ⟨_, _, _, h4, _⟩ := f b hb
   rcases h4 with z | z
   ·exact I.ok.noex b o e z
   ·exact absurd (Nat.lt_of_lt_of_le (Heap.lt_size e) (Nat.le_trans I.ok.bsz z)) (Nat.lt_irrefl _)
  ·obtain ⟨_, h2, h3, _⟩ := f b hb
   rcases List.mem_cons.mp (I.stkSub b z) with q | q
   ·exact h2 q
   ·exact h3 q
 have hokN : zbT X.prog X.w (upd H D (.lst [])) h₁ D (.lst []) := ⟨Nat.zero_le _, [], 0, .nil, hnew⟩
 refine ⟨ok, I.os.symm ▸ rfl, I.bare, Un.laid kp hD hfr, ?_, fun x cc e => ?_, ?_, fun x cc e => ?_, fun p hp => ?_, I.hok.laid kp hD hokN, ?_⟩
 ·obtain ⟨m, hm⟩ := hns
  refine ⟨m, hm, fun i x v e1 e2 e3 => ?_⟩
  have hi : own ≤ i := by
   false_or_by_contra
   rename_i z
   unfold zeo at e2
   rw [List.getElem?_append_left (by rw [List.length_replicate]; omega), List.getElem?_replicate] at e2
   split at e2 <;> cases e2
  obtain ⟨j, rfl⟩ : ∃ j, i = own + j := ⟨i - own, by omega⟩
  have hj : j < cap.length := by
   have := (List.getElem?_eq_some_iff.mp e1).1
   have z := c.len
   have this' : own + j < N.length := this
   omega
  have hc := List.all_eq_true.mp c.caps j (List.mem_range.mpr hj)
  have e1' : N[own + j]? = some x := e1
  rw [e1'] at hc
  simp only [Bool.and_eq_true, beq_iff_eq, Bool.or_eq_true] at hc
  obtain ⟨hN, hf, hk⟩ := hc
  have e2' : σ[cap[j]!]? = some (some v) := by
   unfold zeo at e2
   rw [List.getElem?_append_right (by rw [List.length_replicate]; omega), List.length_replicate, show own + j - own = j by omega, List.getElem?_map] at e2
   have g : cap[j]! = cap[j] := by simp [hj]
   rw [List.getElem?_eq_getElem hj, Option.map_some] at e2
   rw [g]
   have e2 := Option.some.inj e2
   cases q : σ[cap[j]]? with
   | none => rw [q] at e2; cases e2
   | some z => rw [q] at e2; exact congrArg some e2
  obtain ⟨m0, _, hl⟩ := I.loc
  obtain ⟨u, ru, lk⟩ := hl (cap[j]!) x v hN.symm e2' (by
   rcases hk with z | z
   ·exact .inr (.inl z)
   ·exact .inr (.inr z))
  refine ⟨u, ru, .inr ⟨zcl (env := X.env) hf, ?_⟩⟩
  rcases lk with ⟨z, _⟩ | ⟨_, cc, ec, ic⟩
  ·rcases hk with q | q
   ·rw [q] at z; cases z
   ·rw [q] at z; cases z
  ·obtain ⟨c', hc'⟩ := hcl.has x (by
    have : (x, NameKind.free) ∈ scope.names := by
     have hlk := hf
     obtain ⟨l1, l2, hs, hno⟩ := List.lookup_eq_some_iff.mp hlk
     rw [hs]
     exact List.mem_append_right _ List.mem_cons_self
    exact this)
   have := hcl.sub x c' hc'
   rw [ec] at this
   cases this
   obtain ⟨o, ho, hd⟩ := ic
   exact ⟨cc, hc', o, kp cc o ho, hd⟩
 ·obtain ⟨v, o, ho, hd⟩ := cells x cc e
  exact ⟨v, o, kp cc o ho, hd⟩
 ·show upd H D (.lst []) C = none
  rw [zah (Ne.symm hCD)]
  exact hfrC
 ·show upd H D (.lst []) cc = none
  rw [zah (cellne x cc e).1]
  exact I.freeC x cc (hcl.sub x cc e)
 ·obtain ⟨e, n, ne, nf, d⟩ := I.pin p hp
  refine ⟨kp _ _ e, ?_, (sz _ _ e).2, fun z => ?_, d⟩
  ·show upd H D (.lst []) p.1 = none
   rw [zah (sz _ _ e).1]
   exact n
  ·rcases List.mem_cons.mp (I.stkSub p.1 z) with q | q
   ·exact ne q
   ·exact nf q
 ·show (zeo own cap σ).length = N.length
  unfold zeo
  rw [List.length_append, List.length_replicate, List.length_map, c.len]
def zn0 (own : Nat) (cap : List Nat) (wi : TI) (g : TG) (ts : TT) (te : TE) : TE := fun σ H Q => wi σ H fun J H1 => ∀ D, H1 D = none → ∃ W : Nat → Nat → St → Hp → Prop, (∃ m, W 0 m (zeo own cap σ) (upd H1 D (.lst []))) ∧ ∀ i m σ H, W i m σ H →
 (J.stop i H ∧ Q (.ref D) H) ∨ (J.go i H ∧ ∀ x H', J.yld i H x H' → g x σ H' fun σ2 H2 => ts σ2 H2 fun b H3 => if b = true then te σ2 H3 fun y H4 => ∃ xs, H4 D = some (.lst xs) ∧ xs.length < sizeLine ∧ ∃ m', m' < m ∧ W (i + 1) m' σ2 (upd H4 D (.lst (xs ++ [y]))) else ∃ m', m' < m ∧ W (i + 1) m' σ2 H3)
theorem zgU {pins : List (Addr × Obj)} {σ : St} {H2 : Hp} {s2 : Shared} {N : List Str} {own : Nat} {cap : List Nat} {scope : Scope} {cl : List (Str × Addr)} {fp : List Addr} {tg elt iter : Expr} {ifs : List Expr} {pos : Pos} {J : It} {it : Addr} {tn : Nat → Heap → Prop} {g : TG} {ts : TT} {te : TE} {Q : VK}
  {E : Value → Shared → Prop} {RR : Value → Addr → Result → Shared → Prop}
  (hcalm : X.calm = true) (c : ziL X scope N own cap) (hcl : zg6 scope X.env cl)
  (hg : ∀ cl C s₂ H₂ fp, PG (zbK X N scope cl C s₂ H₂ fp) tg g) (hts : ∀ cl C s₂ H₂ fp, PTs (zbK X N scope cl C s₂ H₂ fp) ifs ts) (he : ∀ cl C s₂ H₂ fp, PE (zbK X N scope cl C s₂ H₂ fp) elt te)
  (I2 : Inv X pins σ H2 s2) (T : Turn X.prog X.w X.K tg J fp it tn) (st2 : tn 0 s2.heap) (f2 : ∀ b ∈ fp, FpOk X pins H2 b)
  (rd : ∀ D, H2 D = none → ∃ W : Nat → Nat → St → Hp → Prop, (∃ m, W 0 m (zeo own cap σ) (upd H2 D (.lst []))) ∧ ∀ i m σ H, W i m σ H →
   (J.stop i H ∧ Q (.ref D) H) ∨ (J.go i H ∧ ∀ x H', J.yld i H x H' → g x σ H' fun σ2 H2 => ts σ2 H2 fun b H3 => if b = true then te σ2 H3 fun y H4 => ∃ xs, H4 D = some (.lst xs) ∧ xs.length < sizeLine ∧ ∃ m', m' < m ∧ W (i + 1) m' σ2 (upd H4 D (.lst (xs ++ [y]))) else ∃ m', m' < m ∧ W (i + 1) m' σ2 H3))
  (hRR : ∀ D C s' H', Inv X pins σ H' s' → (∃ m, s'.heap.Ns C m) → FpOk X pins H' C → Q (.ref D) H' → RR (.ref D) C (.ok .next) s') :
  wpAny (model X.prog X.w) X.A (newList []) (fun acc s₃ => wpAny (model X.prog X.w) X.A (newFunctionEnv scope X.env.globals cl [] X.env.qual none .none (some X.env)) (fun cenv s₄ =>
   codeAny (model X.prog X.w) X.A (.compStart (.ListComp elt [⟨tg, iter, ifs, 0⟩] scope pos) 0 (.ref it) acc { cenv with scope := relabel scope X.env }) (RR acc cenv.locals) s₄) E s₃) E s2 := by
 have hcell : ∀ y ∈ scope.names, y.2 ≠ .cell := fun y hy q => by
  have := List.all_eq_true.mp c.nocell y hy
  rw [q] at this
  exact absurd this (by decide)
 have hfp : ∀ b ∈ fp, b < s2.heap.objs.size := fun b hb => by
  obtain ⟨o, e, _⟩ := T.obj 0 _ st2 b hb
  exact Heap.lt_size e
 refine wpAny_newObj_type (wpAny_newFunctionEnv hcell (by intro y hy; simp at hy) (fun h₁ hns₁ hsb₁ => ?_) c.kind)
 dsimp only at hns₁ hsb₁ ⊢
 generalize hHH : s2.heap.push { cls := .type "list", dict := none, data := .seq ([] : List Value).toArray } = HH at hns₁ hsb₁ ⊢
 have hC : HH.objs.size = s2.heap.objs.size + 1 := by rw [← hHH, Heap.size_push]
 have hDC : s2.heap.objs.size ≠ HH.objs.size := by rw [hC]; exact Nat.ne_of_lt (Nat.lt_succ_self _)
 have hCle : s2.heap.objs.size ≤ HH.objs.size := by rw [hC]; exact Nat.le_succ _
 have old : ∀ b o, s2.heap.get? b = some o → h₁.get? b = some o := fun b o e => hsb₁.extBut b o (Nat.ne_of_lt (by rw [hC]; exact Nat.lt_succ_of_lt (Heap.lt_size e))) (Heap.get?_push_of_some _ (hHH ▸ Heap.get?_push_of_some _ e))
 have hnew : h₁.get? s2.heap.objs.size = some { cls := .type "list", data := .seq #[] } := hsb₁.extBut _ _ hDC (Heap.get?_push_of_some _ (hHH ▸ Heap.get?_push_size _ rfl))
 have I3 : ∀ tk, Inv (zbK X N scope cl HH.objs.size s2 H2 fp) pins (zeo own cap σ) (upd H2 s2.heap.objs.size (.lst [])) { s2 with heap := h₁, toks := tk } := fun tk =>
  zl0 I2 c hcl f2 (Nat.le_refl _) hCle hDC old hnew ⟨_, hns₁⟩ hfp hcalm
 obtain ⟨W, ⟨m0, w0⟩, turn⟩ := rd s2.heap.objs.size (I2.hok.fresh (Nat.le_refl _))
 have st3 : tn 0 h₁ := T.keep _ _ _ st2 fun b _ o e => old b o e
 have fr3 : ∀ b ∈ fp, upd H2 s2.heap.objs.size (.lst []) b = none := fun b hb => by rw [zah (Nat.ne_of_lt (hfp b hb))]; exact (f2 b hb).1
 have stat : ∀ {H' : Hp}, (∀ b ∈ fp, H' b = none) → ∀ b ∈ fp, FpOk (zbK X N scope cl HH.objs.size s2 H2 fp) pins H' b := fun hn b hb => by
  obtain ⟨_, h2, h3, _, h5, h6⟩ := f2 b hb
  refine ⟨hn b hb, Nat.ne_of_lt (Nat.lt_of_lt_of_le (hfp b hb) hCle), fun z => ?_, .inl hb, fun x cc e => h5 x cc (hcl.sub x cc e), h6⟩
  rcases List.mem_cons.mp (I2.stkSub b z) with q | q
  ·exact h2 q
  ·exact h3 q
 have loop : ∀ s₃ : Shared, s₃ = { s2 with heap := h₁, toks := s2.toks + ([] : List (Str × Value)).length } →
   codeAny (model X.prog X.w) X.A (.compLoop (.ListComp elt [⟨tg, iter, ifs, 0⟩] scope pos) 0 (.ref it) (.ref s2.heap.objs.size) (compEnvC scope cl HH.objs.size X.env)) (RR (.ref s2.heap.objs.size) HH.objs.size) s₃ := by
  rintro s₃ rfl
  refine zhL (fun n s' => ∃ i σ' H', Inv (zbK X N scope cl HH.objs.size s2 H2 fp) pins σ' H' s' ∧ tn i s'.heap ∧ (∀ b ∈ fp, H' b = none) ∧ W i n σ' H') ?_ m0 ⟨0, _, _, I3 _, st3, fr3, w0⟩
  rintro n s3 ⟨i, σ3, H3, J3, t3, fr, w3⟩
  rcases turn i n σ3 H3 w3 with ⟨stop, qn⟩ | ⟨go, step⟩
  ·refine thn (T.done (zbK X N scope cl HH.objs.size s2 H2 fp) rfl rfl rfl hcalm i pins s3 σ3 H3 (fun _ _ => False) J3 (stat fr) t3 stop) fun r s4 ⟨hr, I4⟩ => ?_
   subst hr
   obtain ⟨mm, hmm, _⟩ := I4.loc
   refine hRR _ _ s4 H3 (I2.call' I4.os I4.base I4.hok I4.bare fun b hb => ?_) ⟨mm, hmm⟩ (I2.fpOk hCle I4.free) qn
   obtain ⟨_, h2, _, h4, h5, h6⟩ := f2 b hb
   exact ⟨h4, h2, h5, h6⟩
  ·refine thn (T.item (zbK X N scope cl HH.objs.size s2 H2 fp) rfl rfl rfl hcalm i pins s3 σ3 H3 (fun _ _ => False) J3 (stat fr) t3 go) fun r s4 ⟨u, hr, h4⟩ => ?_
   subst hr
   refine thn h4 fun _ s5 ⟨x, H5, I5, r5, y5, st5, fr5⟩ => ?_
   have I5' := I5.pinned (stat fr5) (T.obj _ _ st5)
   have back : ∀ {σ7 : St} {H7 : Hp} {s7 : Shared} {m' : Nat}, Inv (zbK X N scope cl HH.objs.size s2 H2 fp) (pins ++ zgz fp s5.heap) σ7 H7 s7 → W (i + 1) m' σ7 H7 → ∃ i σ' H', Inv (zbK X N scope cl HH.objs.size s2 H2 fp) pins σ' H' s7 ∧ tn i s7.heap ∧ (∀ b ∈ fp, H' b = none) ∧ W i m' σ' H' := fun {σ7 H7 s7 m'} I7 w7 => by
    refine ⟨i + 1, σ7, H7, I7.unpinned, T.keep _ _ _ st5 fun b hb o e => (I7.pin (b, o) (List.mem_append_right _ (List.mem_append_right _ (zdo hb e)))).1, fun b hb => ?_, w7⟩
    obtain ⟨o, e, d⟩ := T.obj _ _ st5 b hb
    exact (I7.pin (b, o) (List.mem_append_right _ (List.mem_append_right _ (zdo hb e)))).2.1
   refine thn (hg cl HH.objs.size s2 H2 fp _ s5 σ3 H5 x u _ I5' r5 (step x H5 y5)) fun _ s6 ⟨σ6, H6, I6, q6⟩ => ?_
   refine thn (hts cl HH.objs.size s2 H2 fp _ s6 σ6 H6 _ I6 q6) fun b s7 ⟨H7, I7, q7⟩ => ?_
   cases b with
   | false =>
    rw [if_neg Bool.false_ne_true] at q7 ⊢
    obtain ⟨m', hm, w7⟩ := q7
    exact ⟨m', hm, back I7 w7⟩
   | true =>
    rw [if_pos rfl] at q7 ⊢
    refine thn (he cl HH.objs.size s2 H2 fp _ s7 σ6 H7 _ I7 q7) fun v s8 ⟨y, H8, I8, r8, q8⟩ => ?_
    obtain ⟨xs, hx, hz, m', hm, w8⟩ := q8
    refine thn (zbl (X := zbK X N scope cl HH.objs.size s2 H2 fp) _ s8 σ6 H8 (.ref s2.heap.objs.size) [y] (.ref s2.heap.objs.size) [v] (fun _ H9 => H9 = upd H8 s2.heap.objs.size (.lst (xs ++ [y]))) I8 rfl (.cons r8 .nil) ⟨_, xs, y, rfl, rfl, hx, hz, rfl⟩) fun _ s9 ⟨_, H9, I9, _, e9⟩ => ?_
    subst e9
    exact ⟨m', hm, back I9 w8⟩
 refine codeAny_compStart_list (loop _ rfl) ?_
 exact T.self _ 0 _ _ _ st3 (loop _ rfl)
theorem zdJ {N : List Str} {own : Nat} {cap : List Nat} {scope : Scope} {tg elt iter : Expr} {ifs : List Expr} {pos : Pos} {wi : TI} {g : TG} {ts : TT} {te : TE} (hcalm : X.calm = true) (hi : PI X tg iter wi) (c : ziL X scope N own cap)
  (hg : ∀ cl C s₂ H₂ fp, PG (zbK X N scope cl C s₂ H₂ fp) tg g) (hts : ∀ cl C s₂ H₂ fp, PTs (zbK X N scope cl C s₂ H₂ fp) ifs ts) (he : ∀ cl C s₂ H₂ fp, PE (zbK X N scope cl C s₂ H₂ fp) elt te)
  (hs : ∀ x, foldedSetIterable iter X.env x = pure x := by intro _; rfl) : PE X (.ListComp elt [⟨tg, iter, ifs, 0⟩] scope pos) (zn0 own cap wi g ts te) := by
 intro pins s σ H Q I h
 obtain ⟨cl, hcl⟩ := ze6 (scope := scope) (env := X.env) fun x hx => I.ok.has x (by
  have := List.all_eq_true.mp c.frees _ hx
  simpa using this)
 rw [eval_ListComp]
 refine wpAny_comprehension_free (use := none) rfl hs hcl.eq c.kind (fun x hx hl => by
  have := List.all_eq_true.mp c.locs x hx
  rw [hl] at this
  simpa using this) (thn (hi pins s σ H _ I h) fun v s1 h1 => thn h1 fun itv s2 h2 => ?_)
 obtain ⟨it, fp, tn, J, H2, e, I2, T, st2, f2, rd⟩ := h2
 subst e
 refine zgU (RR := fun acc C => compPost (model X.prog X.w) X.A X.xe none (EP X pins σ Q) acc C) hcalm c hcl hg hts he I2 T st2 f2 rd ?_
 intro D C s' H' I' hm fC q
 obtain ⟨m, hm⟩ := hm
 obtain ⟨f0, f1, f2, f3, f4, f5⟩ := fC
 exact ⟨m, hm, fun h' hsb => ⟨.ref D, H', I'.turned (t' := s'.toks) (fun b o hb e => (hsb.2 b hb).trans e) f0 f1 f3 f4 f5, rfl, q⟩⟩
theorem zeK {i : Nat} {x : Str} {N : List Str} {own : Nat} {cap : List Nat} {scope : Scope} {tg elt iter : Expr} {ifs : List Expr} {pos pos' spos : Pos} {wi : TI} {g : TG} {ts : TT} {te : TE} (hN : X.N.Nodup) (hxi : X.N[i]? = some x) (hx : X.env.scope.names.lookup x = some .local) (hcalm : X.calm = true) (hi : PI X tg iter wi) (c : ziL X scope N own cap)
  (hg : ∀ cl C s₂ H₂ fp, PG (zbK X N scope cl C s₂ H₂ fp) tg g) (hts : ∀ cl C s₂ H₂ fp, PTs (zbK X N scope cl C s₂ H₂ fp) ifs ts) (he : ∀ cl C s₂ H₂ fp, PE (zbK X N scope cl C s₂ H₂ fp) elt te)
  (hsw : swapsWith (.ListComp elt [⟨tg, iter, ifs, 0⟩] scope pos) (some (.Name x pos')) spos.line X.env = pure true := by rfl)
  (hs : ∀ x, foldedSetIterable iter X.env x = pure x := by intro _; rfl) : PS X (.Assign [.Name x pos'] (.ListComp elt [⟨tg, iter, ifs, 0⟩] scope pos) spos) (tAsg (zn0 own cap wi g ts te) (zkP i)) := by
 intro pins s σ H D I h
 obtain ⟨cl, hcl⟩ := ze6 (scope := scope) (env := X.env) fun x hx => I.ok.has x (by
  have := List.all_eq_true.mp c.frees _ hx
  simpa using this)
 rw [exec_Assign_Name_used _ _ _ _ hsw]
 refine wpAny_bind (wpAny_standAt (wpAny_bind ?_))
 show wpAny _ X.A (do let _ ← comprehension (.ListComp elt [⟨tg, iter, ifs, 0⟩] scope pos) scope X.env _ (newList []) false (eval iter X.env) (some (assign (.Name x pos') X.env))) _ _ s
 refine wpAny_bind (wpAny_mono (wpAny_comprehension_free (use := some (assign (.Name x pos') X.env)) (Q := fun _ s' => SP X pins D .next s') rfl hs hcl.eq c.kind (fun x hx hl => by
  have := List.all_eq_true.mp c.locs x hx
  rw [hl] at this
  simpa using this) (thn (hi pins s σ H _ I h) fun v s1 h1 => thn h1 fun itv s2 h2 => ?_)) (fun _ s' hq => wpAny_pure (wpAny_pure hq)) fun _ _ e => e)
 obtain ⟨it, fp, tn, J, H2, e, I2, T, st2, f2, rd⟩ := h2
 subst e
 refine zgU (RR := fun acc C => compPost (model X.prog X.w) X.A X.xe (some (assign (.Name x pos') X.env)) (fun _ s' => SP X pins D .next s') acc C) (Q := fun x H1 => zkP i x σ H1 D.nx) hcalm c hcl hg hts he I2 T st2 f2 rd ?_
 intro Dd C s' H' I' hm fC q
 obtain ⟨m, hm⟩ := hm
 have hne : ∀ a, (a = X.env.locals ∨ X.env.cells.lookup x = some a) → a ≠ C := fun a z => by
  obtain ⟨f0, f1, f2, f3, f4, f5⟩ := fC
  rcases z with z | z
  ·rw [z]; exact Ne.symm f1
  ·exact f4 x a z
 show wpAny _ X.A (assign (.Name x pos') X.env (.ref Dd)) _ _ _
 refine wpAny_assign_Name (zgq I' hN hxi (.inl hx) (v := .ref Dd) rfl (fun s'' I'' hch => ?_) (.inr hx))
 obtain ⟨a, hsb, ha⟩ := hch
 refine ⟨m, hm.sameBut hsb (Ne.symm (hne a ha)), fun h' hs' => ?_⟩
 obtain ⟨f0, f1, f2, f3, f4, f5⟩ := fC
 exact ⟨_, H', I''.turned (t' := s''.toks) (fun b o hb e => (hs'.2 b hb).trans e) f0 f1 f3 f4 f5, q⟩
end
end L2
namespace L2
open PySem PySem.Spec PyProof.Rows PySem.SeqAt
theorem Paired.right {α β : Type} {F : α → β → Prop} : ∀ {l : List α} {m : List β} {b : β}, Paired F l m → b ∈ m → ∃ a, a ∈ l ∧ F a b
 | _, _, _, .nil, h => nomatch h
 | _, _, _, .cons r t, h => by
  rcases List.mem_cons.mp h with z | z
  ·subst z
   exact ⟨_, List.mem_cons_self, r⟩
  ·obtain ⟨a, h1, h2⟩ := Paired.right t z
   exact ⟨a, List.mem_cons_of_mem _ h1, h2⟩
class Srt (α : Type) [Rep α] where
 blt : α → α → Bool
 irrefl : ∀ a, blt a a = false
 trans : ∀ a b c, blt a b = true → blt b c = true → blt a c = true
 negTrans : ∀ a b c, blt a c = true → blt a b = true ∨ blt b c = true
 total : ∀ a b, blt a b = false → blt b a = false → a = b
 kd : SortKind
 one : α
 lt : ∀ {X : Cx} {pins : List (Addr × Obj)} {σ : St} {H : Hp} {s : Shared} {A : Around} {a b : α} {x y : V} {u v : Value} {Q : Bool → Shared → Prop} {E : Value → Shared → Prop}, Inv X pins σ H s → Rep.has X.K H a x → Rep.has X.K H b y → RelV x u → RelV y v → Q (blt a b) s → wpAny (model X.prog X.w) A (keyLt' kd u v) Q E s
 kind : ∀ {X : Cx} {pins : List (Addr × Obj)} {σ : St} {H : Hp} {s : Shared} {A : Around} {as : List α} {xs : List V} {us : List Value} {Q : SortKind → Shared → Prop} {E : Value → Shared → Prop}, Inv X pins σ H s → zaj X.K H as xs → Vals xs us → 2 ≤ us.length → Q kd s → wpAny (model X.prog X.w) A (keyKind' us.toArray) Q E s
section
variable {α : Type} [Rep α] [Srt α]
noncomputable def srtKind (α : Type) [Rep α] [Srt α] (K : PySem.W.Frag) (H : Hp) : PyProof.Rows.KeyKind where
 α := α
 blt := Srt.blt
 irrefl := Srt.irrefl
 trans := Srt.trans
 negTrans := Srt.negTrans
 total := Srt.total
 keyOf := fun u => open Classical in if h : ∃ a : α, ∃ x, RelV x u ∧ Rep.has K H a x then some (Classical.choose h) else none
 dflt := Srt.one
theorem zlY {X : Cx} {pins : List (Addr × Obj)} {σ : St} {H : Hp} {s : Shared} {a : α} {x : V} {u : Value} (I : Inv X pins σ H s) (r : RelV x u) (h : Rep.has X.K H a x) : (srtKind α X.K H).keyOf u = some a := by
 have e : ∃ a : α, ∃ x, RelV x u ∧ Rep.has X.K H a x := ⟨a, x, r, h⟩
 unfold srtKind
 dsimp only
 rw [dif_pos e]
 obtain ⟨y, ry, hy⟩ := Classical.choose_spec e
 have z := ry.inj r
 subst z
 exact congrArg some (Rep.inj I hy h)
theorem zdq {K : PySem.W.Frag} {H : Hp} {a : α} {u : Value} (h : (srtKind α K H).keyOf u = some a) : ∃ x, RelV x u ∧ Rep.has K H a x := by
 unfold srtKind at h
 dsimp only at h
 split at h
 ·rename_i e
  cases h
  exact Classical.choose_spec e
 ·cases h
def zcp (as : List α) : List α := as.mergeSort fun a b => !Srt.blt b a
theorem zb6 (as : List α) : (zcp as).Perm as := List.mergeSort_perm _ _
theorem zeG {as : List α} {a : α} : a ∈ zcp as ↔ a ∈ as := (zb6 as).mem_iff
theorem zc9 (as : List α) : (zcp as).length = as.length := (zb6 as).length_eq
theorem zlc {a b : α} (h : Srt.blt a b = true) : Srt.blt b a = false := by
 cases e : Srt.blt b a with
 | false => rfl
 | true =>
  have := Srt.trans _ _ _ h e
  rw [Srt.irrefl] at this
  cases this
theorem zh7 (as : List α) : (zcp as).Pairwise fun a b => Srt.blt b a = false := by
 have h := List.pairwise_mergeSort (le := fun a b : α => !Srt.blt b a) (fun a b c h1 h2 => by
  simp only [Bool.not_eq_true'] at h1 h2 ⊢
  cases e : Srt.blt c a with
  | false => rfl
  | true =>
   rcases Srt.negTrans c b a e with z | z
   ·rw [h2] at z; cases z
   ·rw [h1] at z; cases z) (fun a b => by
  cases e : Srt.blt b a with
  | false => rfl
  | true => rw [zlc e]; rfl) as
 exact h.imp fun {a b} z => by simpa using z
theorem zh8 {as bs : List α} (hp : bs.Perm as) (hs : bs.Pairwise fun a b => Srt.blt b a = false) : bs = zcp as :=
 List.Perm.eq_of_pairwise (fun a b _ _ h1 h2 => Srt.total a b h2 h1) hs (zh7 as) (hp.trans (zb6 as).symm)
theorem zfp {as : List α} (hn : as.Nodup) : (zcp as).Pairwise fun a b => Srt.blt a b = true := by
 have h1 := zh7 as
 have h2 : (zcp as).Nodup := (zb6 as).nodup_iff.mpr hn
 refine (h1.and h2).imp fun {a b} z => ?_
 cases e : Srt.blt a b with
 | true => rfl
 | false => exact absurd (Srt.total a b e z.1) z.2
theorem zeU {K : PySem.W.Frag} {H : Hp} : ∀ {out : List Value}, (∀ v ∈ out, ∃ a : α, ∃ x, RelV x v ∧ Rep.has K H a x ∧ (srtKind α K H).keyOf v = some a) →
  ∃ (ws : List V) (bs : List α), Vals ws out ∧ zaj K H bs ws ∧ bs = out.map (Tim.keyV (srtKind α K H))
 | [], _ => ⟨[], [], .nil, .nil, rfl⟩
 | v :: out, h => by
  obtain ⟨ws, bs, h1, h2, h3⟩ := zeU (out := out) fun u hu => h u (List.mem_cons_of_mem _ hu)
  obtain ⟨a, x, r, e, k⟩ := h v List.mem_cons_self
  refine ⟨x :: ws, a :: bs, .cons r h1, .cons e h2, ?_⟩
  rw [List.map_cons, ← h3]
  have z : Tim.keyV (srtKind α K H) v = a := by
   unfold Tim.keyV
   rw [k]
   rfl
  rw [z]
  rfl
theorem zhx {X : Cx} {pins : List (Addr × Obj)} {σ : St} {H : Hp} {s : Shared} (I : Inv X pins σ H s) : ∀ {as : List α} {xs : List V} {us : List Value}, zaj X.K H as xs → Vals xs us → us.map (Tim.keyV (srtKind α X.K H)) = as ∧ ∀ v ∈ us, ∃ a : α, ∃ x, RelV x v ∧ Rep.has X.K H a x ∧ (srtKind α X.K H).keyOf v = some a
 | _, _, _, .nil, .nil => ⟨rfl, fun _ z => nomatch z⟩
 | _, _, _, .cons e t, .cons r q => by
  obtain ⟨h1, h2⟩ := zhx I t q
  have k := zlY I r e
  refine ⟨?_, fun v hv => ?_⟩
  ·rw [List.map_cons, h1]
   unfold Tim.keyV
   rw [k]
   rfl
  ·rcases List.mem_cons.mp hv with z | z
   ·subst z
    exact ⟨_, _, r, e, k⟩
   ·exact h2 v z
end
def zoe (α : Type) [Rep α] [Srt α] (K : PySem.W.Frag) : List V → Hp → VK → Prop := fun xs H Q => ∃ (p : Addr) (vs : List V) (as : List α), xs = [.ref p] ∧ SqL K H p vs ∧ zaj K H as vs ∧
 ∀ l ws, H l = none → zaj K H (zcp as) ws → Q (.ref l) (upd H l (.lst ws))
section
variable {X : Cx}
theorem zfG (α : Type) [Rep α] [Srt α] : zd6 X (.builtin "sorted") (zoe α X.K) := by
 intro pins s σ H xs us Q I r h
 obtain ⟨p, vs, as, rfl, hq, ha, q⟩ := h
 obtain ⟨u, rfl, rx⟩ := zfd r
 cases rx
 obtain ⟨its, rv, pl, hz⟩ := I.list hq
 have hlen := rv.length
 obtain ⟨km, kk⟩ := zhx I ha rv
 refine Tim.zlA (κ := srtKind α X.K H) (kd := Srt.kd α) pl.isList (by omega) (fun v hv => ?_) (fun h' k E x y a b Q hx hy q => ?_) (fun h' E Q k h2 q => Srt.kind (Inv.kept (t' := s.toks) I k) ha rv h2 q) fun out h' c p1 p2 k hc => ?_
 ·obtain ⟨a, _, _, _, e⟩ := kk v hv
  exact ⟨a, e⟩
 ·obtain ⟨x1, r1, e1⟩ := zdq hx
  obtain ⟨y1, r2, e2⟩ := zdq hy
  exact Srt.lt (Inv.kept (t' := s.toks) I k) e1 e2 r1 r2 q
 ·obtain ⟨ws, bs, w1, w2, w3⟩ := zeU (α := α) (K := X.K) (H := H) (out := out) fun v hv => kk v (p1.mem_iff.mp hv)
  have eb : bs = zcp as := by
   refine zh8 ?_ ?_
   ·rw [w3, ← km]
    exact p1.map _
   ·rw [w3]
    exact List.pairwise_map.mpr p2
  rw [eb] at w2
  have hw : ws.length ≤ sizeLine := by
   have := w1.length
   have := p1.length_eq
   omega
  exact ⟨.ref (s.heap.objs.size + 1), _, I.laid (a := s.heap.objs.size + 1) (o := .lst ws) (t' := s.toks) k (Nat.le_succ _) ⟨hw, out, c, w1, hc⟩, rfl, q _ ws (I.hok.fresh (Nat.le_succ _)) w2⟩
end
instance : Srt Int where
 blt := fun a b => decide (a < b)
 irrefl := fun a => by simp
 trans := fun a b c h1 h2 => by
  simp only [decide_eq_true_eq] at *
  omega
 negTrans := fun a b c h => by
  simp only [decide_eq_true_eq] at *
  omega
 total := fun a b h1 h2 => by
  simp only [decide_eq_false_iff_not] at *
  omega
 kd := oneType'
 one := 0
 lt := fun {X pins σ H s A a b x y u v Q E} _ h1 h2 r1 r2 q => by
  have h1 : x = .int a := h1
  have h2 : y = .int b := h2
  subst h1 h2
  obtain ⟨t, rfl⟩ := r1
  obtain ⟨t', rfl⟩ := r2
  exact PySem.W.kat_lt_int q
 kind := fun {X pins σ H s A as xs us Q E} _ h r hl q => by
  have e := zaj.toInts h
  subst e
  have hi : IntsAre us as := by
   clear q hl
   induction as generalizing us with
   | nil => cases r; exact .nil
   | cons a as ih =>
    cases r with
    | cons r1 r2 =>
     obtain ⟨t, rfl⟩ := r1
     exact .cons a t (ih (by first | exact zaj.ints | assumption) r2)
  match us, hl, hi with
  | v₁ :: v₂ :: rest, _, hi =>
   rw [keyKind_ints hi]
   exact wpAny_pure q
def pLt (a b : Int × Int) : Bool := decide (a.1 < b.1) || (decide (a.1 = b.1) && decide (a.2 < b.2))
theorem zcX {a b : Int × Int} : pLt a b = true ↔ a.1 < b.1 ∨ (a.1 = b.1 ∧ a.2 < b.2) := by
 unfold pLt
 simp
theorem zhj {a b : Int × Int} : pLt a b = false ↔ ¬ (a.1 < b.1 ∨ (a.1 = b.1 ∧ a.2 < b.2)) := by
 rw [← zcX]
 simp
theorem zf1 {X : Cx} {pins : List (Addr × Obj)} {σ : St} {H : Hp} {s : Shared} {a : Int × Int} {x : V} {u : Value} (I : Inv X pins σ H s) (h : Rep.has X.K H a x) (r : RelV x u) :
  ∃ (p : Addr) (o : Obj) (n : Nat) (t t' : Tok), u = .ref p ∧ s.heap.get? p = some o ∧ o.cls = .type "tuple" ∧ o.data = .seq #[.int a.1 t, .int a.2 t'] n := by
 obtain ⟨p, x1, x2, rfl, q, e1, e2⟩ := (show hasP X.K H a x from h)
 have e1 : x1 = .int a.1 := e1
 have e2 : x2 = .int a.2 := e2
 subst e1 e2
 cases r
 obtain ⟨us, ru, pu, _⟩ := I.tuple (SqT.of q)
 obtain ⟨u1, u2, rfl, ⟨t, rfl⟩, ⟨t', rfl⟩⟩ := zhc ru
 obtain ⟨o, ho, hc, n, hd⟩ := pu
 exact ⟨p, o, n, t, t', rfl, ho, hc, hd⟩
theorem zmJ {prog : Program} {w : World} {A : Around} {E : Value → Shared → Prop} {s : Shared} {x y : Int} {t u : Tok} {Q : Bool → Shared → Prop} (b : Bool) (h : Q (decide (x < y)) s) : wpAny (model prog w) A (oneLt' b (.int x t) (.int y u)) Q E s := by
 cases b with
 | true =>
  rw [← keyLt'_oneType]
  exact PySem.W.kat_lt_int h
 | false => exact PySem.W.kat_one _ _ (lt_int h)
instance : Srt (Int × Int) where
 blt := pLt
 irrefl := fun a => by rw [zhj]; omega
 trans := fun a b c h1 h2 => by
  rw [zcX] at *
  omega
 negTrans := fun a b c h => by
  rw [zcX] at *
  rw [zcX]
  omega
 total := fun a b h1 h2 => by
  rw [zhj] at *
  obtain ⟨a1, a2⟩ := a
  obtain ⟨b1, b2⟩ := b
  have : a1 = b1 ∧ a2 = b2 := by dsimp only at *; omega
  rw [this.1, this.2]
 kd := tuples' true
 one := (0, 0)
 lt := fun {X pins σ H s A a b x y u v Q E} I h1 h2 r1 r2 q => by
  obtain ⟨p, o, n, t1, t2, rfl, ho, hc, hd⟩ := zf1 I h1 r1
  obtain ⟨p', o', n', t3, t4, rfl, ho', hc', hd'⟩ := zf1 I h2 r2
  refine PySem.W.kat_lt ho hd ho' hd' ?_
  show PySem.W.KatLex X.prog X.w A true _ Q [(.int a.1 t1, .int b.1 t3), (.int a.2 t2, .int b.2 t4)] 0 s
  refine PySem.W.kat_cons (EqAt.int_int a.1 t1 b.1 t3 _ _ _ _ (PySem.W.kat_go (fun e => PySem.W.kat_yes ?_) (fun e => PySem.W.kat_no ?_)))
  ·have e1 : a.1 = b.1 := eq_of_beq e
   refine PySem.W.kat_cons (EqAt.int_int a.2 t2 b.2 t4 _ _ _ _ (PySem.W.kat_go (fun e => PySem.W.kat_yes (PySem.W.kat_nil ?_)) (fun e => PySem.W.kat_no (zmJ _ ?_))))
   ·have e2 : a.2 = b.2 := eq_of_beq e
    have z : pLt a b = false := by rw [zhj]; omega
    rw [z] at q
    exact q
   ·have z : pLt a b = decide (a.2 < b.2) := by
     unfold pLt
     rw [decide_eq_false (by omega : ¬ a.1 < b.1), decide_eq_true e1]
     rfl
    rw [z] at q
    exact q
  ·have e1 : ¬ a.1 = b.1 := fun z => by rw [z] at e; simp at e
   refine zmJ _ ?_
   have z : pLt a b = decide (a.1 < b.1) := by
    unfold pLt
    rw [decide_eq_false e1]
    simp
   rw [z] at q
   exact q
 kind := fun {X pins σ H s A as xs us Q E} I h r hl q => by
  have go : ∀ {as : List (Int × Int)} {xs : List V} {us : List Value}, zaj X.K H as xs → Vals xs us → ∃ fs, PySem.W.KatTups s.heap us fs ∧ fs.length = us.length ∧ ∀ v ∈ fs, ∃ i t, v = Value.int i t := by
   intro as
   induction as with
   | nil =>
    intro xs us h r
    cases h
    cases r
    exact ⟨[], .nil, rfl, fun _ z => nomatch z⟩
   | cons a as ih =>
    intro xs us h r
    cases h with
    | cons h1 h2 =>
     cases r with
     | cons r1 r2 =>
      obtain ⟨fs, f1, f2, f3⟩ := ih h2 r2
      obtain ⟨p, o, n, t, t', rfl, ho, hc, hd⟩ := zf1 I h1 r1
      refine ⟨.int a.1 t :: fs, PySem.W.KatTups.cons ho hc hd rfl f1, by rw [List.length_cons, List.length_cons, f2], fun v hv => ?_⟩
      rcases List.mem_cons.mp hv with z | z
      ·exact ⟨_, _, z⟩
      ·exact f3 v z
  obtain ⟨fs, f1, f2, f3⟩ := go h r
  refine PySem.W.kat_kind (T := .type "int") f1 (by omega) (fun v hv => ?_) (by decide) ?_
  ·obtain ⟨i, t, rfl⟩ := f3 v hv
   exact PySem.W.Looks.of_pure rfl
  ·exact q
def rListD (K : PySem.W.Frag) : List V → Hp → VK → Prop := fun xs H Q => ∃ (p : Addr) (kvs : List (List Key × V)), xs = [.ref p] ∧ Rd H p (.dT kvs) ∧
 ∀ l bs, H l = none → Paired (fun (kv : List Key × V) (b : Addr) => H b = some (.tup (kv.1.map kV))) kvs bs → Q (.ref l) (upd H l (.lst (bs.map V.ref)))
section
variable {X : Cx}
end
end L2
namespace L2
open PySem PySem.Spec PyProof.Rows
section
variable {X : Cx}
theorem zie {x : Str} {i : Int} {pos : Pos} (hg : Gl X x) (hm : ∃ t, X.mg x = some (.int i t)) (hd : (x == ("__debug__" : Str)) = false := by decide) : PE X (.Name x pos) (tC (.int i)) := by
 obtain ⟨t, e⟩ := hm
 exact znc hg e ⟨t, rfl⟩ hd
end
theorem zcO {K : PySem.W.Frag} {a D : Addr} {xs : List V} {g : TG} {ts : TT} {te : TE} {σ : St} {H : Hp} {Q : Hp → Prop} (Pv : Nat → St → Hp → Prop) (h0 : Pv 0 σ H) (hl : ∀ i σ H, i ≤ xs.length → Pv i σ H → SqL K H a xs)
  (hs : ∀ i m x σ H, xs[i]? = some x → i + m = xs.length → Pv i σ H → g x σ H fun σ2 H2 => ts σ2 H2 fun b H3 => if b = true then te σ2 H3 fun y H4 => ∃ zs, H4 D = some (.lst zs) ∧ zs.length < sizeLine ∧ ∃ m', m' < m ∧ (i + 1 + m' = xs.length ∧ Pv (i + 1) σ2 (upd H4 D (.lst (zs ++ [y])))) else ∃ m', m' < m ∧ (i + 1 + m' = xs.length ∧ Pv (i + 1) σ2 H3))
  (hd : ∀ σ H, Pv xs.length σ H → Q H) :
  ∃ W : Nat → Nat → St → Hp → Prop, (∃ m, W 0 m σ H) ∧ ∀ i m σ H, W i m σ H → ((Itl K a).stop i H ∧ Q H) ∨ ((Itl K a).go i H ∧ ∀ x H', (Itl K a).yld i H x H' → g x σ H' fun σ2 H2 => ts σ2 H2 fun b H3 => if b = true then te σ2 H3 fun y H4 => ∃ xs, H4 D = some (.lst xs) ∧ xs.length < sizeLine ∧ ∃ m', m' < m ∧ W (i + 1) m' σ2 (upd H4 D (.lst (xs ++ [y]))) else ∃ m', m' < m ∧ W (i + 1) m' σ2 H3) := by
 refine ⟨fun i m σ H => i + m = xs.length ∧ Pv i σ H, ⟨xs.length, by omega, h0⟩, fun i m σ H ⟨e, pv⟩ => ?_⟩
 have hS := hl i σ H (by omega) pv
 by_cases hi : i < xs.length
 ·refine .inr ⟨⟨xs, xs[i], hS, List.getElem?_eq_getElem hi⟩, fun x H' y => ?_⟩
  obtain ⟨e1, y⟩ := y
  subst e1
  exact hs i m x σ _ (y xs hS) e pv
 ·have : i = xs.length := by omega
  subst this
  exact .inl ⟨⟨xs, hS, Nat.le_refl _⟩, hd σ H pv⟩
theorem zfE {lo : Int} {n : Nat} {D : Addr} {g : TG} {ts : TT} {te : TE} {σ : St} {H : Hp} {Q : Hp → Prop} (Pv : Nat → St → Hp → Prop) (h0 : Pv 0 σ H)
  (hs : ∀ i m σ H, i + m = n → i < n → Pv i σ H → g (.int (lo + i)) σ H fun σ2 H2 => ts σ2 H2 fun b H3 => if b = true then te σ2 H3 fun y H4 => ∃ zs, H4 D = some (.lst zs) ∧ zs.length < sizeLine ∧ ∃ m', m' < m ∧ (i + 1 + m' = n ∧ Pv (i + 1) σ2 (upd H4 D (.lst (zs ++ [y])))) else ∃ m', m' < m ∧ (i + 1 + m' = n ∧ Pv (i + 1) σ2 H3))
  (hd : ∀ σ H, Pv n σ H → Q H) :
  ∃ W : Nat → Nat → St → Hp → Prop, (∃ m, W 0 m σ H) ∧ ∀ i m σ H, W i m σ H → ((Itr lo n).stop i H ∧ Q H) ∨ ((Itr lo n).go i H ∧ ∀ x H', (Itr lo n).yld i H x H' → g x σ H' fun σ2 H2 => ts σ2 H2 fun b H3 => if b = true then te σ2 H3 fun y H4 => ∃ xs, H4 D = some (.lst xs) ∧ xs.length < sizeLine ∧ ∃ m', m' < m ∧ W (i + 1) m' σ2 (upd H4 D (.lst (xs ++ [y]))) else ∃ m', m' < m ∧ W (i + 1) m' σ2 H3) := by
 refine ⟨fun i m σ H => i + m = n ∧ Pv i σ H, ⟨n, by omega, h0⟩, fun i m σ H ⟨e, pv⟩ => ?_⟩
 by_cases hi : i < n
 ·refine .inr ⟨hi, fun x H' y => ?_⟩
  obtain ⟨e1, y⟩ := y
  subst e1 y
  exact hs i m σ _ e hi pv
 ·have : i = n := by omega
  subst this
  exact .inl ⟨Nat.le_refl _, hd σ H pv⟩
end L2
namespace L2
open PySem PySem.Spec PyProof.Rows
def metI (ns : List Int) : List Int := firstMet (fun i => ns.getD i 0) ns.length
theorem zc8 : ∀ {ns : List Int} {us : List Value}, Vals (ns.map V.int) us → IntsAre us ns
 | [], _, .nil => .nil
 | n :: _, _, .cons ⟨t, e⟩ q => by
  subst e
  exact .cons n t (zc8 q)
def rSetI (K : PySem.W.Frag) : List V → Hp → VK → Prop := fun xs H Q => ∃ (p : Addr) (ns : List Int), xs = [.ref p] ∧ SqL K H p (ns.map V.int) ∧ ns.length ≤ 1000 ∧
 ∀ l, H l = none → Q (.ref l) (upd H l (.set (fun k => (metI ns).any (· == k)) (metI ns).length))
section
variable {X : Cx}
end
end L2
namespace L2
open PySem PySem.Spec PyProof.Rows
section
variable {X : Cx}
end
end L2
namespace L2
theorem zeX {i : Nat} {x : V} {σ : St} {H : Hp} {A B : St → Hp → Prop} (h : A (σ.set i (some x)) H) : zkP i x σ H fun σ2 H2 => tYes σ2 H2 fun b H3 => if b = true then A σ2 H3 else B σ2 H3 := by
 show (if true = true then A (σ.set i (some x)) H else B (σ.set i (some x)) H)
 rw [if_pos rfl]
 exact h
end L2
namespace L2
open PySem PySem.Spec PyProof.Rows
section
variable {X : Cx}
def tRev (K : PySem.W.Frag) (te : TE) (th : TO) : TE := fun σ H Q => te σ H fun x H1 => th σ H1 fun u H2 => ∃ a xs, x = .ref a ∧ u = some (-1) ∧ SqL K H2 a xs ∧ ∀ p, H2 p = none → Q (.ref p) (upd H2 p (.lst xs.reverse))
theorem Vals.rev : ∀ {xs : List V} {us : List Value}, Vals xs us → Vals xs.reverse us.reverse
 | _, _, .nil => .nil
 | _, _, .cons r t => by
  rw [List.reverse_cons, List.reverse_cons]
  exact Vals.append (Vals.rev t) (.cons r .nil)
end
end L2
namespace L2
open PySem PySem.Spec PyProof.Rows
section
variable {X : Cx} {K : PySem.W.Frag}
theorem ziu (h : X.K = K := by rfl) : IxR X (rIxL K) := by
 subst h
 exact zaK
theorem zhA (h : X.K = K := by rfl) : IxR X (rIxT K) := by
 subst h
 exact zcm
end
end L2
namespace L2
open PySem PySem.Spec PyProof.Rows
section
variable {X : Cx}
def rInsert : V → List V → Hp → VK → Prop := fun x vs H Q => ∃ l xs i y, x = .ref l ∧ vs = [.int i, y] ∧ H l = some (.lst xs) ∧ 0 ≤ i ∧ i < 2 ^ 63 ∧ xs.length < sizeLine ∧ Q .non (upd H l (.lst (xs.take i.toNat ++ y :: xs.drop i.toNat)))
end
theorem zjC {c : TT} {tb : TS} {D : Ends} {σ : St} {H : Hp} (Pv Pe : St → Hp → Prop) (μ : St → Hp → Nat) (h0 : Pv σ H)
  (hs : ∀ σ H, Pv σ H → c σ H fun b H1 => if b = true then tb { D with nx := fun σ' H' => Pv σ' H' ∧ μ σ' H' < μ σ H, ct := fun σ' H' => Pv σ' H' ∧ μ σ' H' < μ σ H, bk := D.nx } σ H1 else Pe σ H1)
  (mono : ∀ σ H Q Q', (∀ b H1, Q b H1 → Q' b H1) → c σ H Q → c σ H Q') (he : ∀ σ H, Pe σ H → D.nx σ H) : zjP c tb D σ H := by
 refine zlq Pv μ h0 (fun σ H p => mono σ H _ _ (fun b H1 q => ?_) (hs σ H p)) mono
 cases b with
 | true => exact q
 | false => exact he _ _ q
def MonoT (c : TT) : Prop := ∀ σ H Q Q', (∀ b H1, Q b H1 → Q' b H1) → c σ H Q → c σ H Q'
section
variable {X : Cx} {K : PySem.W.Frag}
theorem zf3 (h : X.K = K := by rfl) : OpR X (compareOp .NotIn) (rIn K true) := by
 subst h
 exact zep
theorem znb {es : List Expr} {k : Nat} {t : TGs} {n : Nat} {pos : Pos} (hc : X.calm = true) (h : PGs X es t) (hK : X.K = K := by rfl)
  (hn : (assignEach es X.env).length = n := by rfl) (hst : (assignEach es X.env).findIdx? (·.1) = none := by rfl) : PG X (.Tuple es k pos) (gTup K n t) := by
 subst hK
 exact zgA hc h hn hst
end
theorem zmc {K : PySem.W.Frag} {a b D : Addr} {xs ys : List V} {g : TG} {ts : TT} {te : TE} {σ : St} {H : Hp} {Q : Hp → Prop} (hlen : xs.length = ys.length) (Pv : Nat → St → Hp → Prop) (h0 : Pv 0 σ H) (hl : ∀ i σ H, i ≤ xs.length → Pv i σ H → SqL K H a xs ∧ SqL K H b ys)
  (hs : ∀ i m x y σ H r, xs[i]? = some x → ys[i]? = some y → i + m = xs.length → Pv i σ H → H r = none → g (.ref r) σ (upd H r (.tup [x, y])) fun σ2 H2 => ts σ2 H2 fun b H3 => if b = true then te σ2 H3 fun y H4 => ∃ zs, H4 D = some (.lst zs) ∧ zs.length < sizeLine ∧ ∃ m', m' < m ∧ (i + 1 + m' = xs.length ∧ Pv (i + 1) σ2 (upd H4 D (.lst (zs ++ [y])))) else ∃ m', m' < m ∧ (i + 1 + m' = xs.length ∧ Pv (i + 1) σ2 H3))
  (hd : ∀ σ H, Pv xs.length σ H → Q H) :
  ∃ W : Nat → Nat → St → Hp → Prop, (∃ m, W 0 m σ H) ∧ ∀ i m σ H, W i m σ H → ((Itz K a b).stop i H ∧ Q H) ∨ ((Itz K a b).go i H ∧ ∀ x H', (Itz K a b).yld i H x H' → g x σ H' fun σ2 H2 => ts σ2 H2 fun b H3 => if b = true then te σ2 H3 fun y H4 => ∃ xs, H4 D = some (.lst xs) ∧ xs.length < sizeLine ∧ ∃ m', m' < m ∧ W (i + 1) m' σ2 (upd H4 D (.lst (xs ++ [y]))) else ∃ m', m' < m ∧ W (i + 1) m' σ2 H3) := by
 refine ⟨fun i m σ H => i + m = xs.length ∧ Pv i σ H, ⟨xs.length, by omega, h0⟩, fun i m σ H ⟨e, pv⟩ => ?_⟩
 obtain ⟨hS, hS'⟩ := hl i σ H (by omega) pv
 by_cases hi : i < xs.length
 ·refine .inr ⟨⟨xs, ys, xs[i], ys[i]'(by omega), hS, hS', List.getElem?_eq_getElem hi, List.getElem?_eq_getElem (by omega)⟩, fun x H' y => ?_⟩
  obtain ⟨p, z, z', rfl, hp, hz, hz', rfl⟩ := y
  exact hs i m z z' σ H p (hz xs hS) (hz' ys hS') e pv hp
 ·have : i = xs.length := by omega
  subst this
  exact .inl ⟨⟨xs, ys, hS, hS', .inl (Nat.le_refl _)⟩, hd σ H pv⟩
end L2
namespace L2
open PySem PySem.Spec PyProof.Rows
section
variable {X : Cx}
theorem zla (hc : X.calm = true) : zd6 X (.builtin "min") (fun xs H Q => ∃ (p : Addr) (ns : List Int), xs = [.ref p] ∧ SqL X.K H p (ns.map V.int) ∧ 0 < ns.length ∧ ∀ M, M ∈ ns → (∀ a, a ∈ ns → M ≤ a) → Q (.int M) H) := by
 intro pins s σ H xs us Q I r h
 obtain ⟨p, ns, rfl, hq, hne, q⟩ := h
 obtain ⟨u, rfl, rx⟩ := zfd r
 cases rx
 obtain ⟨its, rv, pl, _⟩ := I.list hq
 have hi := zc8 rv
 obtain ⟨xs, hx⟩ := hi.allInts.items
 have hl' : s.heap.IsList p (intItems xs) := hx ▸ pl.isList
 have e1 : ns = xs.toList.map (·.1) := by
  rw [← nums_intItems, ← hx]
  exact (show numsOf its.toArray.toList = ns from hi.numsOf).symm
 have hsz : 0 < xs.size := by
  rw [e1, List.length_map, Array.length_toList] at hne
  exact hne
 refine min_intList (I.ok.hd hc) hl' hsz fun v h' tk hv hk => ?_
 obtain ⟨t, rfl⟩ := intItems_at hv
 obtain ⟨h1, h2⟩ := argBest_lt (numAt xs) (xs.size - 1)
 refine ⟨.int _, H, Inv.kept (t' := tk) I hk, ⟨t, rfl⟩, q _ ?_ fun a ha => ?_⟩
 ·rw [e1, numAt_eq]
  rw [List.getD_eq_getElem?_getD, List.getElem?_eq_getElem (by rw [List.length_map, Array.length_toList]; omega)]
  exact List.getElem_mem _
 ·rw [e1] at ha
  obtain ⟨j, hj, rfl⟩ := mem_getD ha
  rw [List.length_map, Array.length_toList] at hj
  rw [← numAt_eq]
  exact h2 j (by omega)
end
theorem zgh {K : PySem.W.Frag} {a D : Addr} {xs : List V} {g : TG} {ts : TT} {te : TE} {σ : St} {H : Hp} {Q : Hp → Prop} (Pv : Nat → St → Hp → Prop) (h0 : Pv 0 σ H) (hl : ∀ i σ H, i ≤ xs.length → Pv i σ H → SqT K H a xs)
  (hs : ∀ i m x σ H, xs[i]? = some x → i + m = xs.length → Pv i σ H → g x σ H fun σ2 H2 => ts σ2 H2 fun b H3 => if b = true then te σ2 H3 fun y H4 => ∃ zs, H4 D = some (.lst zs) ∧ zs.length < sizeLine ∧ ∃ m', m' < m ∧ (i + 1 + m' = xs.length ∧ Pv (i + 1) σ2 (upd H4 D (.lst (zs ++ [y])))) else ∃ m', m' < m ∧ (i + 1 + m' = xs.length ∧ Pv (i + 1) σ2 H3))
  (hd : ∀ σ H, Pv xs.length σ H → Q H) :
  ∃ W : Nat → Nat → St → Hp → Prop, (∃ m, W 0 m σ H) ∧ ∀ i m σ H, W i m σ H → ((Itt K a).stop i H ∧ Q H) ∨ ((Itt K a).go i H ∧ ∀ x H', (Itt K a).yld i H x H' → g x σ H' fun σ2 H2 => ts σ2 H2 fun b H3 => if b = true then te σ2 H3 fun y H4 => ∃ xs, H4 D = some (.lst xs) ∧ xs.length < sizeLine ∧ ∃ m', m' < m ∧ W (i + 1) m' σ2 (upd H4 D (.lst (xs ++ [y]))) else ∃ m', m' < m ∧ W (i + 1) m' σ2 H3) := by
 refine ⟨fun i m σ H => i + m = xs.length ∧ Pv i σ H, ⟨xs.length, by omega, h0⟩, fun i m σ H ⟨e, pv⟩ => ?_⟩
 have hS := hl i σ H (by omega) pv
 by_cases hi : i < xs.length
 ·refine .inr ⟨⟨xs, xs[i], hS, List.getElem?_eq_getElem hi⟩, fun x H' y => ?_⟩
  obtain ⟨e1, y⟩ := y
  subst e1
  exact hs i m x σ _ (y xs hS) e pv
 ·have : i = xs.length := by omega
  subst this
  exact .inl ⟨⟨xs, hS, Nat.le_refl _⟩, hd σ H pv⟩
end L2
namespace L2
open PySem PySem.Spec PyProof.Rows
def Itv (K : PySem.W.Frag) (a : Addr) (n : Nat) : It :=
 ⟨fun i H => i < n ∧ ∃ xs, SqL K H a xs ∧ xs.length = n, fun i H x H' => H' = H ∧ ∀ xs, SqL K H a xs → xs.length = n → xs.reverse[i]? = some x, fun i _ => i = n⟩
theorem zlv {P : Program} {w : World} {K : PySem.W.Frag} {tg : Expr} (a it : Addr) (n : Nat) : Turn P w K tg (Itv K a n) [it] it (fun i h => h.IsRevIter it a ((n : Int) - 1 - (i : Int))) where
 mem := by simp
 obj := fun i h st b hb => by
  have e : b = it := by simpa using hb
  subst e
  obtain ⟨o, e, c, d⟩ := st
  exact ⟨o, e, fun v z => by rw [d] at z; cases z⟩
 keep := fun i h h' st k => st.at fun o e => k it (by simp) o e
 item := by
  intro X hP hw hK hc i pins s σ H E I hf st hg
  subst hP hw hK
  obtain ⟨hi, xs, hq, hn⟩ := hg
  obtain ⟨its, rv, p, hz⟩ := I.list hq
  have hx : xs[n - 1 - i]? = some (xs[n - 1 - i]'(by omega)) := List.getElem?_eq_getElem (by omega)
  obtain ⟨u, hu, ru⟩ := rv.get hx
  obtain ⟨f0, f1, f2, f3, f4, f5⟩ := hf it (by simp)
  have e1 : (n : Int) - 1 - (i : Int) = ((n - 1 - i : Nat) : Int) := by omega
  rw [e1] at st
  refine wpAny_pyNext_rev_item st p.isList (x := u) (by simpa using hu) fun h' st' sb => ?_
  have e2 : ((n - 1 - i : Nat) : Int) - 1 = (n : Int) - 1 - ((i + 1 : Nat) : Int) := by omega
  rw [e2] at st'
  have I1 : Inv X pins σ H { s with heap := h' } := I.turned (t' := s.toks) (fun b o hb e => (sb.2 b hb).trans e) f0 f1 f3 f4 f5
  obtain ⟨o, e, c, d⟩ := id st'
  refine ⟨u, rfl, zl8 (s := { s with heap := h' }) e c d (by decide) ⟨xs[n - 1 - i]'(by omega), H, I1, ru, ⟨rfl, fun ys hy hyn => ?_⟩, st', fun b hb => (hf b hb).1⟩⟩
  rw [I.list_inj hy hq, List.getElem?_reverse (by omega), show xs.length - 1 - i = n - 1 - i by omega]
  exact hx
 done := by
  intro X hP hw hK hc i pins s σ H E I hf st hg
  subst hP hw hK
  have hi : i = n := hg
  subst hi
  obtain ⟨f0, f1, f2, f3, f4, f5⟩ := hf it (by simp)
  have e1 : (i : Int) - 1 - (i : Int) = -1 := by omega
  rw [e1] at st
  exact wpAny_pyNext_rev_end (I.ok.hd hc) st fun h' eb => ⟨rfl, I.turned (t' := s.toks) (fun b o hb e => eb b o hb e) f0 f1 f3 f4 f5⟩
 self := fun _ _ _ _ _ st h => wpAny_pyIter_revIter st h
def iRev (K : PySem.W.Frag) (ta : TA) : TI := fun σ H R => ta σ H fun vs H1 => ∃ a xs, vs = [.ref a] ∧ SqL K H1 a xs ∧ R (Itv K a xs.length) H1
section
variable {X : Cx}
theorem zhf {tg : Expr} {a : Expr} {ta : TA} {p pos : Pos} (hg : Gl X "reversed") (hm : X.mg "reversed" = none) (ha : PA X [a] ta) (hs : starEach [a] X.env = [(false, eval a X.env)] := by rfl) : PI X tg (.Call (.Name "reversed" p) [a] [] pos) (iRev X.K ta) := by
 intro pins s σ H R I h
 refine Call_ (zeV I hg hm boot_reversed (PyProof.Rows.callWith_type1 (thn (ha pos pins s σ H _ I h) fun us s1 ⟨vs, H1, I1, r1, q1⟩ => ?_) hs rfl))
 obtain ⟨l, xs, e, hq, q⟩ := q1
 subst e
 cases r1 with
 | cons r rr =>
  cases rr
  cases r
  obtain ⟨its, rv, pl, hz⟩ := I1.list hq
  have hl := rv.length
  refine call_reversed_list pl.isList ?_
  have I2 : Inv X pins σ H1 { s1 with heap := s1.heap.push (revObj l ((its.toArray.size : Int) - 1)) } := I1.kept (t' := s1.toks) fun b o e => Heap.get?_push_of_some _ e
  have hr : (s1.heap.push (revObj l ((its.toArray.size : Int) - 1))).IsRevIter s1.heap.objs.size l (((xs.length : Nat) : Int) - 1 - ((0 : Nat) : Int)) := by
   refine ⟨_, Heap.get?_push_size _ rfl, rfl, ?_⟩
   have : (its.toArray.size : Int) - 1 = ((xs.length : Nat) : Int) - 1 - ((0 : Nat) : Int) := by
    rw [List.size_toArray, hl]
    omega
   rw [this]
   rfl
  refine wpAny_pyIter_revIter (s := { s1 with heap := s1.heap.push (revObj l ((its.toArray.size : Int) - 1)) }) hr ⟨_, [s1.heap.objs.size], _, _, H1, rfl, I2, zlv l s1.heap.objs.size xs.length, hr, fun b hb => ?_, q⟩
  have e : b = s1.heap.objs.size := by simpa using hb
  subst e
  exact I1.fpOk (Nat.le_refl _) (I1.hok.fresh (Nat.le_refl _))
end
theorem znC {K : PySem.W.Frag} {a : Addr} {xs : List V} {g : TG} {tb : TS} {D : Ends} {σ : St} {H : Hp} (Pv : Nat → St → Hp → Prop) (h0 : Pv 0 σ H) (hl : ∀ i σ H, i ≤ xs.length → Pv i σ H → SqL K H a xs)
  (hs : ∀ i x σ H, xs.reverse[i]? = some x → Pv i σ H → g x σ H fun σ2 H2 => tb { D with nx := Pv (i + 1), ct := Pv (i + 1), bk := D.nx } σ2 H2) (hd : ∀ σ H, Pv xs.length σ H → D.nx σ H) :
  ∃ W : Nat → Nat → St → Hp → Prop, (∃ m, W 0 m σ H) ∧ ∀ i m σ H, W i m σ H → ((Itv K a xs.length).stop i H ∧ D.nx σ H) ∨ ((Itv K a xs.length).go i H ∧ ∃ N : St → Hp → Prop, (∀ σ' H', N σ' H' → ∃ m', m' < m ∧ W (i + 1) m' σ' H') ∧ ∀ x H', (Itv K a xs.length).yld i H x H' → g x σ H' fun σ2 H2 => tb { D with nx := N, ct := N, bk := D.nx } σ2 H2) := by
 refine ⟨fun i m σ H => i + m = xs.length ∧ Pv i σ H, ⟨xs.length, by omega, h0⟩, fun i m σ H ⟨e, pv⟩ => ?_⟩
 have hS := hl i σ H (by omega) pv
 by_cases hi : i < xs.length
 ·refine .inr ⟨⟨hi, xs, hS, rfl⟩, Pv (i + 1), fun σ' H' q => ⟨m - 1, by omega, by omega, q⟩, fun x H' y => ?_⟩
  obtain ⟨e1, y⟩ := y
  subst e1
  exact hs i x σ _ (y xs hS rfl) pv
 ·have : i = xs.length := by omega
  subst this
  exact .inl ⟨rfl, hd σ H pv⟩
section
variable {prog : Program} {w : World} {A : Around} {E : Value → Shared → Prop} {s : Shared}
end
def tListRev (K : PySem.W.Frag) (ta : TA) : TE := fun σ H Q => ta σ H fun vs H1 => ∃ l xs, vs = [.ref l] ∧ SqL K H1 l xs ∧ ∀ p, H1 p = none → Q (.ref p) (upd H1 p (.lst xs.reverse))
section
variable {X : Cx}
def znR (ta : TA) : TE := fun σ H Q => ta σ H fun vs H1 => ∃ n : Nat, vs = [.int n] ∧ n ≤ 1000 ∧ ∀ p, H1 p = none → Q (.ref p) (upd H1 p (.lst ((List.range n).map fun i : Nat => V.int i)))
end
end L2
namespace L2
open PySem PySem.Spec PyProof.Rows
theorem zj3 {P : Program} {w : World} {k : Key} {u : Value} (h : (zaA P w).is k u = true) : RelV (kV k) u := by
 rw [zja] at h
 rcases zaW h with ⟨i, t, rfl, rfl⟩ | ⟨x, t, rfl, rfl⟩
 ·exact ⟨t, rfl⟩
 ·exact ⟨t, rfl⟩
section
variable {X : Cx}
theorem zju (hc : X.calm = true) : zd6 X (.type "list") (fun xs H Q => ∃ (p : Addr) (kvs : List (Key × V)), xs = [.ref p] ∧ H p = some (.dK kvs) ∧ ∀ l, H l = none → Q (.ref l) (upd H l (.lst (kvs.map fun kv => kV kv.1)))) := by
 intro pins s σ H xs us Q I r h
 obtain ⟨p, kvs, rfl, hq, q⟩ := h
 obtain ⟨u, rfl, rx⟩ := zfd r
 cases rx
 obtain ⟨hz, hne, vs, rel, o, es, ep, h1, h2, h3, h4, h5, h6⟩ := znG I.hok hq
 have hlen : kvs.length = vs.length := rel.length
 refine PySem.W.kdl_call (PySem.W.kdl_dict (knd := zaA X.prog X.w) (kvs := vs) (ep := ep) hne) (I.ok.hd hc) ⟨o, es, h1, h2, h3, h4, h5, h6⟩ (by omega) fun h' tk acc c k e hi => ?_
 have hv : Vals (kvs.map fun kv => kV kv.1) acc.toList := by
  obtain ⟨g1, g2⟩ := hi
  have key : ∀ (m : Nat) (kvs : List (Key × V)) (vs : List (Key × Value)) (us : List Value), KV kvs vs → us.length = vs.length → (∀ (i : Nat) (v : Value), us[i]? = some v → ∃ k x, vs[i]? = some (k, x) ∧ (zaA X.prog X.w).is k v = true) → Vals (kvs.map fun kv => kV kv.1) us := by
   intro m kvs
   induction kvs with
   | nil =>
    intro vs us r hl _
    cases r
    have : us = [] := List.eq_nil_of_length_eq_zero hl
    subst this
    exact .nil
   | cons kv kvs ih =>
    intro vs us r hl hh
    cases r with
    | cons a b =>
     cases us with
     | nil => cases hl
     | cons v us =>
      refine .cons ?_ (ih _ us b (Nat.succ.inj hl) fun i v e => ?_)
      ·obtain ⟨k, x, e1, e2⟩ := hh 0 v rfl
       cases e1
       have h9 := zj3 e2
       have a1 : kv.1 = k := a.1
       rw [← a1] at h9
       exact h9
      ·have := hh (i + 1) v (by simpa using e)
       simpa using this
  refine key 0 kvs vs acc.toList rel (by rw [Array.length_toList]; exact g1) fun i v e => ?_
  exact g2 i v (by rw [← Array.getElem?_toList]; exact e)
 refine ⟨.ref s.heap.objs.size, _, I.laid (a := s.heap.objs.size) (o := .lst (kvs.map fun kv => kV kv.1)) (t' := tk) k (Nat.le_refl _) ⟨?_, acc.toList, c, hv, by rw [Array.toArray_toList]; exact e⟩, rfl, q _ (I.hok.fresh (Nat.le_refl _))⟩
 rw [List.length_map]
 omega
end
def Itd (a : Addr) : It :=
 ⟨fun i H => ∃ kvs, H a = some (.dK kvs) ∧ i < kvs.length, fun i H x H' => H' = H ∧ ∀ kvs, H a = some (.dK kvs) → (kvs.map fun kv => kV kv.1)[i]? = some x, fun i H => ∃ kvs, H a = some (.dK kvs) ∧ i = kvs.length⟩
end L2
namespace L2
open PySem PySem.Spec PyProof.Rows
def iSeq (K : PySem.W.Frag) (tl : TE) : TI := fun σ H R => tl σ H fun x H1 => ∃ a, x = .ref a ∧ ((∃ xs, SqL K H1 a xs) ∧ R (Itl K a) H1 ∨ (∃ xs, SqT K H1 a xs) ∧ R (Itt K a) H1)
section
variable {X : Cx} {tg : Expr}
end
section
variable {prog : Program} {w : World} {A : Around} {E : Value → Shared → Prop} {s : Shared}
end
end L2
namespace Tim
open PySem PyProof.Rows
section
variable {prog : Program} {w : World} {A : Around} {E : Value → Shared → Prop} {s : Shared} {κ : KeyKind} {kd : SortKind}
end
end Tim
namespace L2
open PySem PySem.Spec PyProof.Rows
section
variable {X : Cx}
def rSortT (α : Type) [Rep α] [Srt α] (K : PySem.W.Frag) : List V → Hp → VK → Prop := fun xs H Q => ∃ (p : Addr) (vs : List V) (as : List α), xs = [.ref p] ∧ SqT K H p vs ∧ zaj K H as vs ∧
 ∀ l ws, H l = none → zaj K H (zcp as) ws → Q (.ref l) (upd H l (.lst ws))
end
section
variable {prog : Program} {w : World} {A : Around} {E : Value → Shared → Prop} {s : Shared}
abbrev nuSet (led : Bool) : Obj := { cls := .type "set", dict := none, data := .set #[] 0 (.fresh 0 0 led) }
end
section
variable {X : Cx}
def rSetT (K : PySem.W.Frag) : List V → Hp → VK → Prop := fun xs H Q => ∃ (p : Addr) (ns : List Int), xs = [.ref p] ∧ SqT K H p (ns.map V.int) ∧ ns.length ≤ 1000 ∧
 ∀ l, H l = none → Q (.ref l) (upd H l (.set (fun k => (metI ns).any (· == k)) (metI ns).length))
end
def Itf (a : Addr) (o : Obj) (kvs : List (Key × V)) : It :=
 ⟨fun i H => H a = some (.frz o (.dK kvs)) ∧ i < kvs.length, fun i H x H' => H' = H ∧ (kvs.map fun kv => kV kv.1)[i]? = some x, fun i H => H a = some (.frz o (.dK kvs)) ∧ i = kvs.length⟩
def iDict (tl : TE) : TI := fun σ H R => tl σ H fun x H1 => ∃ a kvs, x = .ref a ∧ ((H1 a = some (.dK kvs) ∧ ∀ o, R (Itf a o kvs) (upd H1 a (.frz o (.dK kvs)))) ∨ ∃ o, H1 a = some (.frz o (.dK kvs)) ∧ R (Itf a o kvs) H1)
section
variable {X : Cx} {tg : Expr}
end
end L2
namespace HT
open PySem PySem.Spec PyProof.Rows
section
variable {prog : Program} {w : World} {A : Around} {E : Value → Shared → Prop} {s : Shared}
end
end HT
namespace L2
open PySem PySem.Spec PyProof.Rows
section
variable {X : Cx}
def rSlX (K : PySem.W.Frag) : V → Option Int → Option Int → Hp → VK → Prop := fun x lo hi H Q => ∃ a xs, x = .ref a ∧ SqT K H a xs ∧
 ((HT.sIx xs.length 0 lo = 0 ∧ HT.sIx xs.length xs.length hi = xs.length) → Q (.ref a) H) ∧ (¬ (HT.sIx xs.length 0 lo = 0 ∧ HT.sIx xs.length xs.length hi = xs.length) → ∀ p, H p = none → Q (.ref p) (upd H p (.tup (cutV xs lo hi))))
def rCatX (K : PySem.W.Frag) : R2 := fun x y H Q => ∃ a b xs ys, x = .ref a ∧ y = .ref b ∧ SqT K H a xs ∧ SqT K H b ys ∧ ys ≠ [] ∧ xs.length + ys.length ≤ sizeLine ∧
 (xs = [] → Q (.ref b) H) ∧ (xs ≠ [] → ∀ p, H p = none → Q (.ref p) (upd H p (.tup (xs ++ ys))))
end
end L2
namespace L2
open PySem PySem.Spec PyProof.Rows PySem.SeqAt
def hasO (o : Option Int) (v : V) : Prop := match o with
 | none => v = .non
 | some i => v = .int i
instance : Rep (Option Int) where
 dec := inferInstance
 depth := 0
 has := fun _ _ o v => hasO o v
 mono := fun _ h => h
 inj := fun {_ _ _ _ _ a b v} _ h1 h2 => by
  cases a <;> cases b
  ·rfl
  ·have h1 : v = .non := h1
   have h2 : v = .int _ := h2
   rw [h1] at h2
   cases h2
  ·have h1 : v = .int _ := h1
   have h2 : v = .non := h2
   rw [h1] at h2
   cases h2
  ·have h1 : v = .int _ := h1
   have h2 : v = .int _ := h2
   rw [V.int.inj (h1.symm.trans h2)]
 rc := fun {_ _ _ _ _ _ a b x y u v} _ _ h1 h2 r1 r2 => by
  cases a with
  | none =>
   have h1 : x = .non := h1
   subst h1
   obtain rfl : u = .none := r1
   cases b with
   | none =>
    have h2 : y = .non := h2
    subst h2
    obtain rfl : v = .none := r2
    exact RcAt.none_none
   | some j =>
    have h2 : y = .int j := h2
    subst h2
    obtain ⟨t, rfl⟩ := r2
    exact RcAt.none_int _ _
  | some i =>
   have h1 : x = .int i := h1
   subst h1
   obtain ⟨t, rfl⟩ := r1
   cases b with
   | none =>
    have h2 : y = .non := h2
    subst h2
    obtain rfl : v = .none := r2
    exact RcAt.int_none _ _
   | some j =>
    have h2 : y = .int j := h2
    subst h2
    obtain ⟨t', rfl⟩ := r2
    have e : decide (some i = some j) = (i == j) := by
     by_cases z : i = j
     ·subst z; simp
     ·rw [decide_eq_false (fun q => z (Option.some.inj q)), beq_eq_false_iff_ne.mpr z]
    have := RcAt.int_int (A := ‹Around›) (s := ‹Shared›) i t j t'
    rw [← e] at this
    exact this
 rn := fun {_ _ _ _ _ _ a b x y u v} _ _ h1 h2 r1 r2 => by
  cases a with
  | none =>
   have h1 : x = .non := h1
   subst h1
   obtain rfl : u = .none := r1
   cases b with
   | none =>
    have h2 : y = .non := h2
    subst h2
    obtain rfl : v = .none := r2
    exact RcNeAt.none_none
   | some j =>
    have h2 : y = .int j := h2
    subst h2
    obtain ⟨t, rfl⟩ := r2
    exact RcNeAt.none_int _ _
  | some i =>
   have h1 : x = .int i := h1
   subst h1
   obtain ⟨t, rfl⟩ := r1
   cases b with
   | none =>
    have h2 : y = .non := h2
    subst h2
    obtain rfl : v = .none := r2
    exact RcNeAt.int_none _ _
   | some j =>
    have h2 : y = .int j := h2
    subst h2
    obtain ⟨t', rfl⟩ := r2
    have e : decide (some i = some j) = (i == j) := by
     by_cases z : i = j
     ·subst z; simp
     ·rw [decide_eq_false (fun q => z (Option.some.inj q)), beq_eq_false_iff_ne.mpr z]
    have := RcNeAt.int_int (A := ‹Around›) (s := ‹Shared›) i t j t'
    rw [← e] at this
    exact this
 eq := fun {_ _ _ _ _ _ a b x y u v} _ _ h1 h2 r1 r2 => by
  cases a with
  | none =>
   have h1 : x = .non := h1
   subst h1
   obtain rfl : u = .none := r1
   cases b with
   | none =>
    have h2 : y = .non := h2
    subst h2
    obtain rfl : v = .none := r2
    exact EqAt.same _
   | some j =>
    have h2 : y = .int j := h2
    subst h2
    obtain ⟨t, rfl⟩ := r2
    exact EqAt.none_int _ _
  | some i =>
   have h1 : x = .int i := h1
   subst h1
   obtain ⟨t, rfl⟩ := r1
   cases b with
   | none =>
    have h2 : y = .non := h2
    subst h2
    obtain rfl : v = .none := r2
    exact EqAt.int_none _ _
   | some j =>
    have h2 : y = .int j := h2
    subst h2
    obtain ⟨t', rfl⟩ := r2
    have e : decide (some i = some j) = (i == j) := by
     by_cases z : i = j
     ·subst z; simp
     ·rw [decide_eq_false (fun q => z (Option.some.inj q)), beq_eq_false_iff_ne.mpr z]
    have := EqAt.int_int (A := ‹Around›) (s := ‹Shared›) i t j t'
    rw [← e] at this
    exact this
structure Tup (α : Type) where
 l : List α
theorem Tup.ext' {α : Type} {a b : Tup α} (h : a.l = b.l) : a = b := by
 cases a
 cases b
 cases h
 rfl
instance {α : Type} [DecidableEq α] : DecidableEq (Tup α) := fun a b => if h : a.l = b.l then .isTrue (Tup.ext' h) else .isFalse fun z => h (by rw [z])
def hasT {α : Type} [Rep α] (K : PySem.W.Frag) (H : Hp) (t : Tup α) (v : V) : Prop := ∃ a xs, v = .ref a ∧ SqT K H a xs ∧ zaj K H t.l xs
section
variable {α : Type} [r : Rep α] {X : Cx} {pins : List (Addr × Obj)} {σ : St} {H : Hp} {s : Shared} {A : Around} {as bs : Tup α} {x y : V} {u v : Value}
theorem zix (I : Inv X pins σ H s) (h1 : hasT X.K H as x) (h2 : hasT X.K H bs x) : as = bs := by
 obtain ⟨a, xs, rfl, q1, h1⟩ := h1
 obtain ⟨b, ys, e, q2, h2⟩ := h2
 cases e
 rw [I.tuple_inj q2 q1] at h2
 exact Tup.ext' (h1.inj I h2)
theorem zjL {as bs : List α} (n m : Nat) (hn : as.length = n) (hm : bs.length = m) : ((List.range (min n m)).all (fun j => decide (as[j]? = bs[j]?)) && n == m) = decide (as = bs) := by
 by_cases hl : as.length = bs.length
 ·have e := zen as bs hl
  have z : min n m = as.length := by omega
  rw [z, e, beq_iff_eq.mpr (by omega : n = m), Bool.and_true]
 ·rw [decide_eq_false (fun z => hl (by rw [z])), beq_eq_false_iff_ne.mpr (by omega : n ≠ m), Bool.and_false]
theorem zkY : decide (as = bs) = decide (as.l = bs.l) := by
 by_cases h : as.l = bs.l
 ·rw [decide_eq_true h, decide_eq_true (Tup.ext' h)]
 ·rw [decide_eq_false h, decide_eq_false (fun z => h (by rw [z]))]
theorem zkL (I : Inv X pins σ H s) (hu : A.units + (Rep.depth α + 1) < cLine) (h1 : hasT X.K H as x) (h2 : hasT X.K H bs y) (r1 : RelV x u) (r2 : RelV y v) : RcAt A s u v (decide (as = bs)) := by
 obtain ⟨a, xs, rfl, q1, h1⟩ := h1
 obtain ⟨b, ys, rfl, q2, h2⟩ := h2
 cases r1
 cases r2
 obtain ⟨us, ru, pu, _⟩ := I.tuple q1
 obtain ⟨vs, rv, pv, _⟩ := I.tuple q2
 have l1 := ru.length
 have l2 := rv.length
 have m1 := h1.length
 have m2 := h2.length
 have hin : A.in1.units + Rep.depth α < cLine := Nat.lt_of_le_of_lt (Nat.add_le_add_right zcn _) (by omega)
 have := RcAt.tuples (A := A) (s := s) (l := a) (b := b) (items := us.toArray) (items2 := vs.toArray) (e := fun j => decide (as.l[j]? = bs.l[j]?)) pu pv (by omega) (zeB I hin h1 h2 ru rv)
 rw [zjL (as := as.l) (bs := bs.l) us.toArray.size vs.toArray.size (by simp; omega) (by simp; omega), ← zkY] at this
 exact this
theorem znu (I : Inv X pins σ H s) (hu : A.units + (Rep.depth α + 1) < cLine) (h1 : hasT X.K H as x) (h2 : hasT X.K H bs y) (r1 : RelV x u) (r2 : RelV y v) : RcNeAt A s u v (!decide (as = bs)) := by
 obtain ⟨a, xs, rfl, q1, h1⟩ := h1
 obtain ⟨b, ys, rfl, q2, h2⟩ := h2
 cases r1
 cases r2
 obtain ⟨us, ru, pu, _⟩ := I.tuple q1
 obtain ⟨vs, rv, pv, _⟩ := I.tuple q2
 have l1 := ru.length
 have l2 := rv.length
 have m1 := h1.length
 have m2 := h2.length
 have hin : A.in1.units + Rep.depth α < cLine := Nat.lt_of_le_of_lt (Nat.add_le_add_right zcn _) (by omega)
 have := RcNeAt.tuples (A := A) (s := s) (l := a) (b := b) (items := us.toArray) (items2 := vs.toArray) (e := fun j => decide (as.l[j]? = bs.l[j]?)) pu pv (by omega) (zeB I hin h1 h2 ru rv)
 rw [zjL (as := as.l) (bs := bs.l) us.toArray.size vs.toArray.size (by simp; omega) (by simp; omega), ← zkY] at this
 exact this
theorem znv (I : Inv X pins σ H s) (hu : A.units + (Rep.depth α + 1) < cLine) (h1 : hasT X.K H as x) (h2 : hasT X.K H bs y) (r1 : RelV x u) (r2 : RelV y v) : EqAt A s u v (decide (as = bs)) := by
 have rc := zkL (A := A) I hu h1 h2 r1 r2
 have h1' := id h1
 have h2' := id h2
 obtain ⟨a, xs, rfl, q1, h1⟩ := h1
 obtain ⟨b, ys, rfl, q2, h2⟩ := h2
 cases r1
 cases r2
 by_cases hab : a = b
 ·subst hab
  rw [decide_eq_true (zix I h1' h2')]
  exact EqAt.same _
 ·exact EqAt.of_refs hab rc
end
instance {α : Type} [Rep α] : Rep (Tup α) where
 dec := inferInstance
 depth := Rep.depth α + 1
 has := hasT
 mono := fun e ⟨a, xs, h1, h2, h3⟩ => ⟨a, xs, h1, h2.ext e, h3.mono e⟩
 inj := fun I h1 h2 => zix I h1 h2
 rc := fun I hu h1 h2 r1 r2 => zkL I hu h1 h2 r1 r2
 rn := fun I hu h1 h2 r1 r2 => znu I hu h1 h2 r1 r2
 eq := fun I hu h1 h2 r1 r2 => znv I hu h1 h2 r1 r2
end L2
namespace L2
open PySem PySem.Spec PyProof.Rows
section
variable {X : Cx}
end
end L2
namespace L2
open PySem PySem.Spec PyProof.Rows
section
variable {X : Cx} {K : PySem.W.Frag}
end
end L2
namespace L2
open PySem PySem.Spec PyProof.Rows
section
variable {X : Cx} {K : PySem.W.Frag} {tg : Expr}
end
end L2
namespace L2
open PySem PySem.Spec PyProof.Rows PySem.SeqAt
theorem RelV.uniq {x y : V} {u : Value} (h : RelV x u) (g : RelV y u) : x = y := by
 cases x <;> cases y <;> (unfold RelV at h g) <;> (first | (obtain ⟨_, rfl⟩ := h) | subst h) <;> (first | (obtain ⟨_, g⟩ := g; cases g <;> rfl) | (cases g <;> rfl) | rfl)
theorem zll (its : List Value) (e : Value → Bool) : its.toArray.any e = its.any e := by simp
def rInD (α : Type) [Rep α] (K : PySem.W.Frag) (neg : Bool) : R2 := fun x y H Q => ∃ (p : Addr) (xs : List V) (a : α) (as : List α), y = .ref p ∧ (SqL K H p xs ∨ SqT K H p xs) ∧ Rep.has K H a x ∧ zaj K H as xs ∧ ∀ b : Bool, (b = true ↔ a ∈ as) → Q (.bl (if neg then !b else b)) H
section
variable {X : Cx} {α : Type} [Rep α]
theorem znL {pins : List (Addr × Obj)} {σ : St} {H : Hp} {s : Shared} (I : Inv X pins σ H s) {a : α} {e : Value → Bool} (he : ∀ u, e u = true ↔ ∃ y, RelV y u ∧ Rep.has X.K H a y) : ∀ {as : List α} {xs : List V} {us : List Value}, zaj X.K H as xs → Vals xs us → us.any e = decide (a ∈ as)
 | _, _, _, .nil, .nil => rfl
 | b :: as, x :: xs, u :: us, .cons h t, .cons r t2 => by
  rw [List.any_cons, znL I he t t2]
  by_cases z : a = b
  ·subst z
   rw [(he u).mpr ⟨x, r, h⟩, decide_eq_true List.mem_cons_self]
   rfl
  ·have e1 : e u = false := by
    cases c : e u with
    | false => rfl
    | true =>
     obtain ⟨y, r2, h2⟩ := (he u).mp c
     rw [RelV.uniq r2 r] at h2
     exact absurd (Rep.inj I h2 h) z
   rw [e1, Bool.false_or]
   by_cases m : a ∈ as
   ·rw [decide_eq_true m, decide_eq_true (List.mem_cons_of_mem _ m)]
   ·rw [decide_eq_false m, decide_eq_false (fun q => (List.mem_cons.mp q).elim z m)]
theorem znn {pins : List (Addr × Obj)} {σ : St} {H : Hp} {s : Shared} {A : Around} (I : Inv X pins σ H s) (hu : A.units + Rep.depth α < cLine) {a : α} {x0 : V} {v : Value} (ha : Rep.has X.K H a x0) (rv : RelV x0 v) {e : Value → Bool} (he : ∀ u, e u = true ↔ ∃ y, RelV y u ∧ Rep.has X.K H a y) : ∀ {as : List α} {xs : List V} {us : List Value}, zaj X.K H as xs → Vals xs us → ∀ u ∈ us, EqAt A s u v (e u)
 | _, _, _, .nil, .nil => fun u hu => by cases hu
 | b :: as, x :: xs, u :: us, .cons h t, .cons r t2 => fun u' hm => by
  rcases List.mem_cons.mp hm with z | z
  ·subst z
   have q := Rep.eq (A := A) I hu h ha r rv
   have e2 : e u' = (Rep.dec b a).decide := by
    by_cases c : b = a
    ·have e3 : (Rep.dec b a).decide = true := decide_eq_true c
     rw [e3]
     exact (he u').mpr ⟨x, r, c ▸ h⟩
    ·have e3 : (Rep.dec b a).decide = false := decide_eq_false c
     rw [e3]
     cases k : e u' with
     | false => rfl
     | true =>
      obtain ⟨y, r2, h2⟩ := (he u').mp k
      rw [RelV.uniq r2 r] at h2
      exact absurd (Rep.inj I h h2) c
   rw [e2]
   exact q
  ·exact znn I hu ha rv he t t2 u' z
theorem zmG (α : Type) [Rep α] (hu : X.A.units + Rep.depth (List α) < cLine) : OpR X (compareOp .In) (rInD α X.K false) := by
 intro pins s σ H x y v u Q I rx ry h
 obtain ⟨p, xs, a, as, rfl, hq, ha, hs, q⟩ := h
 cases ry
 have hin : X.A.in1.units + Rep.depth α < cLine := Nat.lt_of_le_of_lt (Nat.add_le_add_right zcn _) (by have e : Rep.depth (List α) = Rep.depth α + 1 := rfl; omega)
 have he : ∀ u, (@decide (∃ y, RelV y u ∧ Rep.has X.K H a y) (Classical.propDecidable _)) = true ↔ ∃ y, RelV y u ∧ Rep.has X.K H a y := fun u => by
  exact @decide_eq_true_iff _ (Classical.propDecidable _)
 rcases hq with hq | hq
 ·obtain ⟨its, r, pl, hz⟩ := I.list hq
  refine SeqAt.in_listAt _ pl.isList (fun w hw => znn I hin ha rx he hs r w (by simpa using hw)) ⟨.bl _, H, I, rfl, ?_⟩
  rw [zll, znL I he hs r]
  exact q _ decide_eq_true_iff
 ·obtain ⟨its, r, pl, hz⟩ := I.tuple hq
  refine SeqAt.in_tupleAt _ pl (fun w hw => znn I hin ha rx he hs r w (by simpa using hw)) ⟨.bl _, H, I, rfl, ?_⟩
  rw [zll, znL I he hs r]
  exact q _ decide_eq_true_iff
end
end L2
namespace SetW
open PySem PySem.Spec PyProof.Rows
set_option autoImplicit false
abbrev Up1 (l : List Nat) : Prop := l.Pairwise (· < ·)
structure Good (t : SetTable) : Prop where
 up : Up1 t.place.toList
 no : t.dummies = #[]
theorem zjH {xs : Array Nat} (h : Up1 xs.toList) {i k : Nat} (hi : i < k) (hk : k < xs.size) : xs[i]'(by omega) < xs[k] := by
 have := List.pairwise_iff_getElem.mp h i k (by simpa using (by omega : i < xs.size)) (by simpa using hk) hi
 simpa using this
theorem znA (xs : Array Nat) (j : Nat) (hs : Up1 xs.toList) : ∀ (f lo hi : Nat), hi - lo ≤ f → lo ≤ hi → hi ≤ xs.size → (∀ i (h : i < xs.size), i < lo → xs[i] < j) → (∀ i (h : i < xs.size), hi ≤ i → j ≤ xs[i]) →
  SetTable.below.go xs j f lo hi ≤ xs.size ∧ (∀ i (h : i < xs.size), i < SetTable.below.go xs j f lo hi → xs[i] < j) ∧ (∀ i (h : i < xs.size), SetTable.below.go xs j f lo hi ≤ i → j ≤ xs[i])
 | 0, lo, hi, h1, h2, h3, h4, h5 => by
  unfold SetTable.below.go
  exact ⟨by omega, h4, fun i h k => h5 i h (by omega)⟩
 | f + 1, lo, hi, h1, h2, h3, h4, h5 => by
  unfold SetTable.below.go
  by_cases c : lo < hi
  ·have hm : (lo + hi) / 2 < xs.size := by omega
   have hg : xs.getD ((lo + hi) / 2) j = xs[(lo + hi) / 2] := by simp [Array.getD, hm]
   simp only [c, if_true, hg]
   by_cases d : xs[(lo + hi) / 2] < j
   ·simp only [d, if_true]
    refine znA xs j hs f _ _ (by omega) (by omega) h3 (fun i h k => ?_) h5
    rcases Nat.lt_or_ge i ((lo + hi) / 2) with z | z
    ·exact Nat.lt_trans (zjH hs z hm) d
    ·have : i = (lo + hi) / 2 := by omega
     subst this
     exact d
   ·simp only [d, if_false]
    refine znA xs j hs f _ _ (by omega) (by omega) (by omega) h4 (fun i h k => ?_)
    rcases Nat.lt_or_ge ((lo + hi) / 2) i with z | z
    ·exact Nat.le_trans (Nat.le_of_not_lt d) (Nat.le_of_lt (zjH hs z h))
    ·have : i = (lo + hi) / 2 := by omega
     subst this
     exact Nat.le_of_not_lt d
  ·simp only [c, if_false]
   exact ⟨by omega, h4, fun i h k => h5 i h (by omega)⟩
theorem ziJ (xs : Array Nat) (j : Nat) (hs : Up1 xs.toList) : SetTable.below xs j ≤ xs.size ∧ (∀ i (h : i < xs.size), i < SetTable.below xs j → xs[i] < j) ∧ (∀ i (h : i < xs.size), SetTable.below xs j ≤ i → j ≤ xs[i]) :=
 znA xs j hs xs.size 0 xs.size (by omega) (by omega) (Nat.le_refl _) (fun i h k => by omega) (fun i h k => by omega)
def spot (xs : Array Nat) (i : Nat) : Nat := if i = 0 then 0 else xs.getD (i - 1) 0 + 1
theorem zfH {xs : Array Nat} (hs : Up1 xs.toList) {i : Nat} (hi : i ≤ xs.size) : SetTable.below xs (spot xs i) = i := by
 obtain ⟨r1, r2, r3⟩ := ziJ xs (spot xs i) hs
 generalize SetTable.below xs (spot xs i) = r at r1 r2 r3
 rcases Nat.lt_trichotomy r i with z | z | z
 ·have h0 : r < xs.size := by omega
  have q := r3 r h0 (Nat.le_refl _)
  have hp : i - 1 < xs.size := by omega
  have e : spot xs i = xs[i - 1] + 1 := by
   unfold spot
   rw [if_neg (by omega)]
   simp [Array.getD, hp]
  rw [e] at q
  rcases Nat.lt_or_ge r (i - 1) with y | y
  ·have := zjH hs y hp
   omega
  ·have : r = i - 1 := by omega
   subst this
   omega
 ·exact z
 ·have h0 : i < xs.size := by omega
  have q := r2 i h0 z
  by_cases y : i = 0
  ·subst y
   simp [spot] at q
  ·have hp : i - 1 < xs.size := by omega
   have e : spot xs i = xs[i - 1] + 1 := by
    unfold spot
    rw [if_neg y]
    simp [Array.getD, hp]
   rw [e] at q
   have := zjH hs (show i - 1 < i by omega) h0
   omega
theorem zjG {xs : Array Nat} {j : Nat} (hs : Up1 xs.toList) (hn : xs[SetTable.below xs j]? ≠ some j) : Up1 (SetTable.insertAt xs (SetTable.below xs j) j).toList := by
 obtain ⟨r1, r2, r3⟩ := ziJ xs j hs
 generalize SetTable.below xs j = r at r1 r2 r3 hn ⊢
 rw [SetTable.toList_insertAt]
 have hs' := hs
 rw [← List.take_append_drop r xs.toList] at hs'
 obtain ⟨p1, p2, p3⟩ := List.pairwise_append.mp hs'
 have gt : ∀ i (h : i < xs.size), r ≤ i → j < xs[i] := fun i h k => by
  have q := r3 i h k
  rcases Nat.lt_or_eq_of_le q with z | z
  ·exact z
  ·rcases Nat.lt_or_eq_of_le k with y | y
   ·have h1 := r3 r (by omega) (Nat.le_refl _)
    have := zjH hs y h
    omega
   ·subst y
    exact absurd (by rw [Array.getElem?_eq_getElem h, ← z]) hn
 have lo : ∀ a ∈ xs.toList.take r, a < j := fun a ha => by
  obtain ⟨i, hi, e⟩ := List.mem_take_iff_getElem.mp ha
  have : i < xs.size := by simpa using (by omega : i < xs.toList.length)
  rw [← e]
  simpa using r2 i this (by omega)
 have hi : ∀ a ∈ xs.toList.drop r, j < a := fun a ha => by
  obtain ⟨i, hi, e⟩ := List.mem_drop_iff_getElem.mp ha
  have : r + i < xs.size := by simpa [Nat.add_comm] using hi
  rw [← e]
  simpa [Nat.add_comm] using gt (r + i) this (by omega)
 refine List.pairwise_append.mpr ⟨p1, List.pairwise_cons.mpr ⟨hi, p2⟩, fun a ha b hb => ?_⟩
 rcases List.mem_cons.mp hb with e | hb
 ·rw [e]
  exact lo a ha
 ·exact p3 a ha b hb
theorem ziw (j : Nat) : SetTable.has #[] j = false := by
 simp [SetTable.has]
theorem zjY {t : SetTable} (g : Good t) (j : Nat) : t.slot j ≠ .dummy ∧ (t.slot j = .empty → t.place[SetTable.below t.place j]? ≠ some j) := by
 unfold SetTable.slot
 rw [g.no, ziw]
 by_cases c : (t.place[SetTable.below t.place j]? == some j) = true
 ·simp only [c, if_true]
  refine ⟨?_, ?_⟩ <;> intro z <;> cases z
 ·rw [if_neg c]
  refine ⟨by simp, fun _ z => c ?_⟩
  rw [z]
  simp
theorem zlm (t : SetTable) (p : SetTable.Probe) : (t.advance p).dummy = p.dummy := by
 unfold SetTable.advance
 split <;> rfl
theorem zeL {t : SetTable} (g : Good t) {f : Nat → Int} {h : Int} : ∀ (n : Nat) (p : SetTable.Probe) (j : Nat) (d : Option Nat), p.dummy = none → SetTable.probe.go t f h n p = some (.empty j d) → d = none ∧ t.slot j = .empty
 | 0, p, j, d, _, e => by simp [SetTable.probe.go] at e
 | n + 1, p, j, d, hp, e => by
  unfold SetTable.probe.go at e
  cases z : t.slot p.j with
  | empty =>
   rw [z] at e
   simp only [Option.some.injEq, SetTable.Met.empty.injEq] at e
   obtain ⟨e1, e2⟩ := e
   subst e1
   exact ⟨by rw [← e2, hp], z⟩
  | dummy => exact absurd z (zjY g _).1
  | live i =>
   rw [z] at e
   dsimp only at e
   split at e
   ·simp at e
   ·exact zeL g n _ j d (by rw [zlm]; exact hp) e
theorem znB {t : SetTable} (g : Good t) {h : Int} {j : Nat} {b : Bool} (e : t.freeSlot h = some (j, b)) : t.place[SetTable.below t.place j]? ≠ some j := by
 unfold SetTable.freeSlot SetTable.probe at e
 split at e
 ·rename_i j' d hm
  obtain ⟨e1, e2⟩ := zeL g _ _ _ _ rfl hm
  subst e1
  simp only [Option.getD_none, Option.isSome_none, Option.some.injEq, Prod.mk.injEq] at e
  rw [← e.1]
  exact (zjY g _).2 e2
 ·simp at e
theorem zls (n : Nat) : Up1 (Array.range n).toList := by
 rw [Array.toList_range]
 exact List.pairwise_lt_range
theorem zdr (t : SetTable) (n : Nat) : Good (t.standIn n) := ⟨zls n, rfl⟩
theorem zkO {t : SetTable} (g : Good t) (n : Nat) : Good (t.orStandIn n) ∧ (t.orStandIn n).led = t.led := by
 unfold SetTable.orStandIn
 split
 ·exact ⟨g, rfl⟩
 ·exact ⟨zdr t n, rfl⟩
theorem ziz {t : SetTable} (g : Good t) (es : Array (Int × Value)) (h : Int) (x : Value) : Good (layNew t es h x).2.1 ∧ (layNew t es h x).2.1.led = t.led := by
 unfold layNew
 cases z : t.freeSlot h with
 | none => exact ⟨zdr t _, rfl⟩
 | some q =>
  obtain ⟨j, b⟩ := q
  have hn := znB g z
  have gp : Good (t.put j).1 := by
   refine ⟨zjG g.up hn, ?_⟩
   show (if SetTable.has t.dummies j then _ else t.dummies) = #[]
   rw [g.no, ziw]
   rfl
  exact ⟨(zkO gp _).1, (zkO gp _).2⟩
theorem zfA {t : SetTable} (es : Array (Int × Value)) (n : Nat) : Good (relayAll t es n).2.1 ∧ (relayAll t es n).2.1.led = t.led := by
 unfold relayAll
 cases z : t.relaid (es.map (·.1)) n with
 | none => exact ⟨zdr t _, rfl⟩
 | some q =>
  obtain ⟨t', order⟩ := q
  dsimp only
  split
  ·unfold SetTable.relaid SetTable.laid at z
   cases y : SetTable.layClean (SetTable.sizeAbove n - 1) (es.map (·.1)) with
   | none => rw [y] at z; cases z
   | some owner =>
    rw [y] at z
    simp only [Option.bind_eq_bind, Option.bind_some, Option.pure_def, Option.some.injEq, Prod.mk.injEq] at z
    obtain ⟨z1, _⟩ := z
    subst z1
    refine ⟨⟨?_, rfl⟩, rfl⟩
    dsimp only
    refine List.pairwise_map.mpr (List.pairwise_filterMap.mpr (List.pairwise_lt_range.imp fun {a b} hab x hx y hy => ?_))
    obtain ⟨_, _, rfl⟩ := Option.map_eq_some_iff.mp hx
    obtain ⟨_, _, rfl⟩ := Option.map_eq_some_iff.mp hy
    exact hab
  ·exact ⟨zdr t _, rfl⟩
end SetW
namespace SetW
open PySem PySem.Spec PyProof.Rows
set_option autoImplicit false
section
variable {prog : Program} {w : World} {A : Around} {E : Value → Shared → Prop} {s : Shared} {a : Addr} {σ : List Int} {L : Bool}
def ent (e : Int × Value) : Int := match e.2 with | .int k _ => k | _ => 0
structure Body (es : Array (Int × Value)) (σ : List Int) (t : SetTable) (L : Bool) : Prop where
 are : ∀ e ∈ es.toList, ∃ k tk, e = (hashInt k, .int k tk)
 perm : (es.toList.map ent).Perm σ
 fits : t.fits es.size = true
 good : Good t
 led : t.led = L
def SetR (h : Heap) (a : Addr) (σ : List Int) (L : Bool) : Prop := ∃ o es ep t, h.get? a = some o ∧ o.ExactSet ∧ o.data = .set es ep t ∧ Body es σ t L
theorem Body.size {es : Array (Int × Value)} {t : SetTable} (b : Body es σ t L) : es.size = σ.length := by
 rw [← b.perm.length_eq, List.length_map, Array.length_toList]
theorem Body.elems {es : Array (Int × Value)} {t : SetTable} (b : Body es σ t L) : ElemsOf (intKind prog w) es.toList := fun e he => by
 obtain ⟨k, tk, rfl⟩ := b.are e he
 exact ⟨⟨k, intKind_is _ _ _ _, rfl⟩, rfl⟩
theorem Body.mem {es : Array (Int × Value)} {t : SetTable} (b : Body es σ t L) (k : Int) : k ∈ σ ↔ ∃ e ∈ es.toList, (intKind prog w).is k e.2 = true := by
 rw [← b.perm.mem_iff, List.mem_map]
 constructor
 ·rintro ⟨e, he, z⟩
  obtain ⟨k', tk, rfl⟩ := b.are e he
  have : k' = k := z
  subst this
  exact ⟨_, he, intKind_is _ _ _ _⟩
 ·rintro ⟨e, he, z⟩
  obtain ⟨k', tk, rfl⟩ := b.are e he
  exact ⟨_, he, ((intKind prog w).inj _ _ _ (intKind_is _ _ _ _) z)⟩
theorem SetR.keep {h h' : Heap} (x : SetR h a σ L) (k : ∀ o, h.get? a = some o → h'.get? a = some o) : SetR h' a σ L := by
 obtain ⟨o, es, ep, t, ho, r⟩ := x
 exact ⟨o, es, ep, t, k o ho, r⟩
theorem SetR.put {h : Heap} {o : Obj} {es es' : Array (Int × Value)} {ep : Nat} {t t' : SetTable} (ho : h.get? a = some o) (hx : o.ExactSet) (hd : o.data = .set es ep t) (b : Body es' σ t' L) :
  (h.update a (Obj.putSet es' t')).get? a = some { o with data := .set es' (ep + 1) t' } ∧ SetR (h.update a (Obj.putSet es' t')) a σ L := by
 have g := Heap.get?_update_self (Obj.putSet es' t') ho (by rw [putSet_of es' t' hd]; rfl)
 rw [putSet_of es' t' hd] at g
 exact ⟨g, _, es', ep + 1, t', g, hx, rfl, b⟩
theorem zhC (b : Bool) {Q : Unit → Shared → Prop} (q : Q () s) : wpAny (model prog w) A (match b with | true => rule "set.scan.the-table-gave-way" | false => pure ()) Q E s := by
 cases b
 ·exact wpAny_pure q
 ·exact wpAny_rule q
theorem zjO {g : Bool → Sem Unit} (hg : ∀ (b : Bool) (s₁ : Shared) (Q' : Unit → Shared → Prop), Q' () s₁ → wpAny (model prog w) A (g b) Q' E s₁)
  {o : Obj} {es : Array (Int × Value)} {ep : Nat} {t : SetTable} (ho : s.heap.get? a = some o) (hx : o.ExactSet) (hd : o.data = .set es ep t)
  {es1 : Array (Int × Value)} {t2 : SetTable} (b : Body es1 σ t2 L) (hb : σ.length < scanBound) {was : Bool} {R : Option Bool → Shared → Prop}
  (q : ∀ h', Heap.SameBut a s.heap h' → SetR h' a σ L → R (some true) { s with heap := h' }) :
  wpAny (model prog w) A (do
    storeSet a es1 t2
    if (!was && t2.tooFull) = true then do
      g (relayAll t2 es1 (SetTable.grown es1.size)).2.2
      storeSet a (relayAll t2 es1 (SetTable.grown es1.size)).1 (relayAll t2 es1 (SetTable.grown es1.size)).2.1
      pure (some true)
     else pure (some true)) R E s := by
 have z1 := b.size
 refine wpAny_bind (wpAny_storeSet_of ho hd ?_ (fits_of_scanBound (by omega)))
 obtain ⟨g1, r1⟩ := SetR.put ho hx hd b
 have sb := Heap.SameBut.update s.heap a (Obj.putSet es1 t2)
 split
 ·have hp := relayAll_perm t2 es1 (SetTable.grown es1.size)
  have b2 : Body (relayAll t2 es1 (SetTable.grown es1.size)).1 σ (relayAll t2 es1 (SetTable.grown es1.size)).2.1 L :=
   ⟨fun e he => b.are e (hp.mem_iff.mp he), (hp.map _).trans b.perm, relayAll_fits .., (zfA ..).1, (zfA ..).2.trans b.led⟩
  generalize relayAll t2 es1 (SetTable.grown es1.size) = Rl at b2 ⊢
  have z2 := b2.size
  refine wpAny_bind (hg _ _ _ (wpAny_bind (wpAny_storeSet_of g1 rfl ?_ (fits_of_scanBound (by omega)))))
  exact wpAny_pure (q _ (sb.trans (Heap.SameBut.update _ a _)) (SetR.put g1 hx rfl b2).2)
 ·exact wpAny_pure (q _ sb r1)
theorem add_ok {k : Int} {tk : Nat} {Q : Bool → Shared → Prop} (hS : SetR s.heap a σ L) (hb : σ.length + 1 < scanBound)
  (q : ∀ h' b, Heap.SameBut a s.heap h' → SetR h' a (step_dedup σ k) L → Q b { s with heap := h' }) :
  wpAny (model prog w) A (setAddHashed a (.int k tk) (hashInt k)) Q E s := by
 obtain ⟨o, es, ep, t, ho, hx, hd, b⟩ := hS
 have zs := b.size
 have hkey : (intKind prog w).is k (.int k tk) = true := intKind_is _ _ _ _
 have hel : ElemsOf (intKind prog w) es.toList := b.elems
 unfold setAddHashed setAddHashedIn
 refine wpAny_holding (wpAny_bind (wpAny_setState_of ho hd b.fits ?_))
 dsimp only
 rw [byScan_of (knd := intKind prog w) rfl (by omega) hel]
 simp only [↓reduceIte]
 unfold setAddByScan
 refine wpAny_bind (wpAny_bind (wpAny_rule (wpAny_bind (wpAny_setScan_of (knd := intKind prog w) hkey ho hd b.fits hel ?_))))
 have mm := b.mem (prog := prog) (w := w) k
 cases hr : List.findIdx? (fun e => (intKind prog w).is k e.2) es.toList with
 | some j =>
  dsimp only
  obtain ⟨hj, hpj, _⟩ := List.findIdx?_eq_some_iff_getElem.mp hr
  have hm : k ∈ σ := mm.mpr ⟨_, List.getElem_mem hj, hpj⟩
  have es' : step_dedup σ k = σ := by
   unfold step_dedup
   have : (σ.any (· == k)) = true := List.any_eq_true.mpr ⟨k, hm, by simp⟩
   rw [if_pos this]
  have := q s.heap false (Heap.SameBut.refl a s.heap) (by rw [es']; exact ⟨o, es, ep, t, ho, hx, hd, b⟩)
  exact wpAny_pure (wpAny_pure this)
 | none =>
  dsimp only
  have hm : k ∉ σ := fun z => by
   obtain ⟨e, he, hp⟩ := mm.mp z
   have := List.findIdx?_eq_none_iff.mp hr e he
   rw [hp] at this
   exact absurd this (by decide)
  have es' : step_dedup σ k = σ ++ [k] := by
   unfold step_dedup
   rw [if_neg fun z => ?_]
   obtain ⟨y, hy, e⟩ := List.any_eq_true.mp z
   exact hm (by rw [← (beq_iff_eq.mp e)]; exact hy)
  rw [es'] at q
  have hperm := layNew_perm t es (hashInt k) (.int k tk)
  rw [Array.toList_push] at hperm
  have b1 : Body (layNew t es (hashInt k) (.int k tk)).1 (σ ++ [k]) (layNew t es (hashInt k) (.int k tk)).2.1 L := by
   refine ⟨fun e he => ?_, ?_, layNew_fits .., (ziz b.good ..).1, (ziz b.good ..).2.trans b.led⟩
   ·rcases List.mem_append.mp (hperm.mem_iff.mp he) with z | z
    ·exact b.are e z
    ·rw [List.mem_singleton.mp z]
     exact ⟨k, tk, rfl⟩
   ·refine (hperm.map ent).trans ?_
    rw [List.map_append]
    exact b.perm.append (List.Perm.refl _)
  generalize layNew t es (hashInt k) (.int k tk) = Ly at b1 ⊢
  obtain ⟨es1, t1, was, gave⟩ := Ly
  dsimp only at b1 ⊢
  refine wpAny_bind (zhC gave ?_)
  have hb1 : (σ ++ [k]).length < scanBound := by
   rw [List.length_append]
   exact hb
  split
  ·refine wpAny_bind ?_
   rw [hashByValue_scannable 8 (show (Value.int k tk).scannable = true from rfl)]
   refine wpAny_pure (zjO (fun b s₁ Q' h => zhC b h) ho hx hd (σ := σ ++ [k]) (L := L) b1 hb1 fun h' sb r => ?_)
   exact wpAny_pure (q h' true sb r)
  ·refine wpAny_bind (wpAny_pure ?_)
   simp only [↓reduceIte]
   refine zjO (fun b s₁ Q' h => zhC b h) ho hx hd b1 hb1 fun h' sb r => ?_
   exact wpAny_pure (q h' true sb r)
end
section
variable {prog : Program} {w : World} {A : Around} {R : Result → Shared → Prop} {I : Addr} {fp wr : List Addr} {G : Array GenState → Array GenState → Prop} {n : Nat} {P : Nat → Value → Prop} {St : Nat → Shared → Prop} {L : Bool}
theorem znr (W : WalksS prog w A.in1 I fp wr G n P St) (S : Addr) (hSf : S ∉ fp) (val : Nat → Int) (hval : ∀ i v, P i v → ∃ t, v = .int (val i) t) (hb : n + 1 < scanBound) :
  ∀ (k i : Nat) (s : Shared), n - i = k → i ≤ n → St i s → SetR s.heap S (firstMet val i) L →
   (∀ s', Moved (S :: wr) G s s' → SetR s'.heap S (firstMet val n) L → R (.ok (.ret .none)) s') → codeAny (model prog w) A (.builtin "set.update.loop" ⟨[.ref S, .ref I], []⟩) R s := by
 have hSw : S ∉ wr := fun h => hSf (W.sub _ h)
 have up : ∀ b ∈ wr, b ∈ S :: wr := fun b hb => List.mem_cons_of_mem _ hb
 intro k
 induction k with
 | zero =>
  intro i s hk hi st x q
  have e : i = n := by omega
  subst e
  refine codeAny_builtin F.entry_set_update_loop ?_
  rw [Around.under_plainId F.plain_set_update_loop _]
  show wpAny _ A.in1 (pyNext (.ref I) >>= _) _ _ s
  refine wpAny_bind (W.done s _ _ st fun s' hm => ?_)
  show wpAny _ A.in1 (ret Value.none) _ _ s'
  exact wpAny_pure (q s' (hm.mono up) (x.keep fun o e => hm.heap S o hSw e))
 | succ k ih =>
  intro i s hk hi st x q
  have hlt : i < n := by omega
  refine codeAny_builtin F.entry_set_update_loop ?_
  rw [Around.under_plainId F.plain_set_update_loop _]
  show wpAny _ A.in1 (pyNext (.ref I) >>= _) _ _ s
  refine wpAny_bind (W.item i s _ _ hlt st fun v s' hP st' hm => ?_)
  obtain ⟨t, rfl⟩ := hval i v hP
  have x' := x.keep (h' := s'.heap) fun o e => hm.heap S o hSw e
  show wpAny _ A.in1 (holding [Value.int (val i) t] (setAdd S (.int (val i) t)) >>= _) _ _ s'
  refine wpAny_bind (wpAny_holding ?_)
  unfold setAdd
  refine wpAny_holding (wpAny_bind ((intKind prog w).pyHash (k := val i) (intKind_is _ _ _ _) ?_))
  have room : (firstMet val i).length + 1 < scanBound := by
   have := firstMet_length_le val i
   omega
  refine add_ok (s := { s' with toks := s'.toks + 1 }) x' room fun h' _ sb x2 => ?_
  rw [← firstMet_succ] at x2
  refine wpAny_pure ⟨plainId_quiet F.plain_set_update_loop _, ih (i + 1) _ (by omega) hlt (W.frame _ s' _ _ st' (Nat.le_succ _) fun b hb o e => ?_) x2 fun s'' hm'' x3 => ?_⟩
  ·rw [sb.2 b (fun h : b = S => hSf (by rw [← h]; exact hb))]
   exact e
  ·refine q s'' (Moved.trans W.gtrans ((hm.mono up).then_heap (Nat.le_succ _) fun b o hb e => ?_) hm'') x3
   rw [sb.2 b (fun h : b = S => hb (by rw [h]; exact List.mem_cons_self))]
   exact e
end
end SetW
namespace SetW
open PySem PySem.Spec PyProof.Rows
set_option autoImplicit false
set_option maxRecDepth 100000
theorem zax : Slot "set_iterator" "__next__" "set_iterator.__next__" :=
 .of (owner := "set_iterator") (n := "__next__") (by rw [typeLookup_type, builtinLookup_eq_fast]; kernel_rfl) (by decide +kernel) (by decide +kernel) (by decide +kernel)
  (by first | exact .inl (by decide +kernel) | exact .inr (by decide +kernel)) (by rw [isSubtype_type]; kernel_rfl)
theorem zbJ : entryFor table "set_iterator.__next__" = some Builtin.«set_iterator.__next__» := entryFor_of_tree (by kernel_rfl)
theorem zft : Manifest.owners.lookup (String.ofList ['r', 'o', 't', 'a', 'r', 'e', 't', 'i', '_', 't', 'e', 's'].reverse) = some Manifest.sig_set_iterator := by kernel_rfl
theorem zbQ (a : Value) : argsOk "set_iterator.__next__" ⟨[a], []⟩ := by
 unfold argsOk; rw [signature?_of (id := "set_iterator.__next__") (n := ['_', '_', 't', 'x', 'e', 'n', '_', '_']) (o := ['r', 'o', 't', 'a', 'r', 'e', 't', 'i', '_', 't', 'e', 's']) (by kernel_rfl) zft]; kernel_rfl
theorem zfh : entryFor table "set.__iter__" = some Builtin.«frozenset.__iter__» :=
 entryFor_alias (id' := "frozenset.__iter__") (by kernel_rfl) (by first | rfl | decide +kernel) (by decide +kernel) (by kernel_rfl)
theorem zdA : Slot "set_iterator" "__iter__" "set_iterator.__iter__" :=
 .of (owner := "set_iterator") (n := "__iter__") (by rw [typeLookup_type, builtinLookup_eq_fast]; kernel_rfl) (by decide +kernel) (by decide +kernel) (by decide +kernel)
  (by first | exact .inl (by decide +kernel) | exact .inr (by decide +kernel)) (by rw [isSubtype_type]; kernel_rfl)
theorem ze3 : entryFor table "set_iterator.__iter__" = some Builtin.«dict_keyiterator.__iter__» :=
 entryFor_alias (id' := "dict_keyiterator.__iter__") (by kernel_rfl) (by first | rfl | decide +kernel) (by decide +kernel) (by kernel_rfl)
theorem zfj (a : Value) : argsOk "set_iterator.__iter__" ⟨[a], []⟩ := by
 unfold argsOk; rw [signature?_of (id := "set_iterator.__iter__") (n := ['_', '_', 'r', 'e', 't', 'i', '_', '_']) (o := ['r', 'o', 't', 'a', 'r', 'e', 't', 'i', '_', 't', 'e', 's']) (by kernel_rfl) zft]; kernel_rfl
section
variable {prog : Program} {w : World} {A : Around} {E : Value → Shared → Prop} {s : Shared} {it d : Addr} {es : Array (Int × Value)} {ep : Nat} {t : SetTable}
def SIt (h : Heap) (it d : Addr) (f : Value) (i n ep : Nat) : Prop := ∃ o, h.get? it = some o ∧ o.cls = .type "set_iterator" ∧ o.data = .fields #[f, .int i 0, .ref d, .int n 0, .int ep 0]
def SAt (h : Heap) (d : Addr) (es : Array (Int × Value)) (ep : Nat) (t : SetTable) : Prop := ∃ o, h.get? d = some o ∧ o.ExactSet ∧ o.data = .set es ep t
theorem SIt.ty {f : Value} {i n ep : Nat} (x : SIt s.heap it d f i n ep) : s.TypeIs (.ref it) "set_iterator" := by
 obtain ⟨o, e, c, _⟩ := x
 exact ⟨o, e, c⟩
theorem SIt.keep {h h' : Heap} {f : Value} {i n ep : Nat} (x : SIt h it d f i n ep) (k : ∀ o, h.get? it = some o → h'.get? it = some o) : SIt h' it d f i n ep := by
 obtain ⟨o, e, r⟩ := x
 exact ⟨o, k o e, r⟩
theorem SAt.keep {h h' : Heap} (x : SAt h d es ep t) (k : ∀ o, h.get? d = some o → h'.get? d = some o) : SAt h' d es ep t := by
 obtain ⟨o, e, r⟩ := x
 exact ⟨o, k o e, r⟩
theorem SAt.ty (x : SAt s.heap d es ep t) : s.TypeIs (.ref d) "set" := by
 obtain ⟨o, e, c, _⟩ := x
 exact ⟨o, e, c.1⟩
theorem SAt.state {Q : (Array (Int × Value) × Nat × SetTable) → Shared → Prop} (x : SAt s.heap d es ep t) (hf : t.fits es.size = true) (q : Q (es, ep, t) s) : wpAny (model prog w) A (setState d) Q E s := by
 obtain ⟨o, e, c, z⟩ := x
 exact wpAny_setState_of e z hf q
theorem SAt.entries {Q : Array (Int × Value) → Shared → Prop} (x : SAt s.heap d es ep t) (hf : t.fits es.size = true) (q : Q es s) : wpAny (model prog w) A (setEntries d) Q E s := by
 unfold setEntries
 exact wpAny_bind (x.state hf (wpAny_pure q))
theorem zgG {sl i nx : Nat} {v : Value} {Q : Option Value → Shared → Prop} (ki : SIt s.heap it d (.int sl 0) i es.size ep) (x : SAt s.heap d es ep t) (hf : t.fits es.size = true)
  (hn : ∀ (A : Around) (E : Value → Shared → Prop) (Q : Option (Value × Nat) → Shared → Prop), Q (some (v, nx)) s → wpAny (model prog w) A (setNext d sl i ep) Q E s) (hne : d ≠ it)
  (q : ∀ h', SIt h' it d (.int nx 0) (i + 1) es.size ep → Heap.SameBut it s.heap h' → Q (some v) { s with heap := h' }) : wpAny (model prog w) A (pyNext (.ref it)) Q E s := by
 have ty := ki.ty
 obtain ⟨oi, e1, e2, e3⟩ := id ki
 unfold pyNext
 refine wpAny_bind (wpAny_attempt (wpAny_callSpecial?_slot (name := Str.ofString "__next__") ty zax (wpAny_call_entry zax ty zbJ ?_ (zbQ _))))
 unfold Builtin.«set_iterator.__next__»
 refine wpAny_bind (m := slotArgs "__next__" 0 _) (wpAny_pure ?_)
 refine wpAny_bind (wpAny_fieldsOf e1 e3 ?_)
 dsimp only
 refine wpAny_bind (x.entries hf ?_)
 rw [if_neg (by simp)]
 simp only [Int.toNat_natCast]
 refine wpAny_bind (hn _ _ _ ?_)
 dsimp only
 refine wpAny_bind (wpAny_setField e1 e3 (by simp) ?_)
 have g1 := Heap.get?_update_self (Obj.mapFields (·.setIfInBounds 0 (rawInt nx))) e1 (Obj.isFreed_of_fields (Obj.data_mapFields e3 _))
 have d1 := Obj.data_mapFields e3 (·.setIfInBounds 0 (rawInt nx))
 refine wpAny_bind (wpAny_setField (s := { s with heap := s.heap.update it (Obj.mapFields (·.setIfInBounds 0 (rawInt nx))) }) g1 d1 (by simp) ?_)
 have g2 := Heap.get?_update_self (Obj.mapFields (·.setIfInBounds 1 (rawInt (↑i + 1)))) g1 (Obj.isFreed_of_fields (Obj.data_mapFields d1 _))
 have d2 := Obj.data_mapFields d1 (·.setIfInBounds 1 (rawInt (↑i + 1)))
 refine wpAny_pure ⟨_, rfl, wpAny_pure (q _ ⟨_, g2, ?_, ?_⟩ ((Heap.SameBut.update ..).trans (Heap.SameBut.update ..)))⟩
 ·rw [Obj.cls_mapFields, Obj.cls_mapFields]
  exact e2
 ·rw [d2]
  simp [rawInt]
theorem zjS {h : Heap} {Q : Option Value → Shared → Prop} (hh : A.handled = none) (q : ∀ h', (∀ b o, h.get? b = some o → h'.get? b = some o) → Q none { s with heap := h' }) :
  wpAny (model prog w) A.in1 (do let e ← newExc (.type "StopIteration") []; raiseNew e : Sem Fin) (fun fin s' => ∃ v, fin = Fin.done (Flow.ret v) ∧ wpAny (model prog w) A (pure (some v)) Q E s')
  (fun e s' => wpAny (model prog w) A (do let b ← isInstance e (Value.type "StopIteration"); if b = true then pure none else throw e) Q E s') { s with heap := h } := by
 refine wpAny_bind ?_
 simp only [newExc, newTuple]
 refine wpAny_bind (wpAny_newObj_type ?_ (by size_fits))
 refine wpAny_bind (m := firstArgMember _ _) (wpAny_of_eq (a := Value.none) (by first | rfl | (simp only [firstArgMember]; rfl)) ?_)
 refine wpAny_newObj_type ?_ (by size_fits)
 simp only [raiseNew]
 refine wpAny_bind (wpAny_handled ?_)
 rw [show A.in1.handled = none from hh]
 refine wpAny_bind (wpAny_pure (wpAny_throw ?_))
 refine wpAny_bind (wpAny_isInstance (T := "StopIteration") (b := true) ⟨_, Heap.get?_push_size _ rfl, rfl⟩ isSubtype_stop ?_)
 exact wpAny_pure (q _ fun b o e => Heap.get?_push_of_some _ (Heap.get?_push_of_some _ e))
theorem zij {sl i : Nat} {Q : Option Value → Shared → Prop} (hh : A.handled = none) (ki : SIt s.heap it d (.int sl 0) i es.size ep) (x : SAt s.heap d es ep t) (hf : t.fits es.size = true)
  (hn : ∀ (A : Around) (E : Value → Shared → Prop) (Q : Option (Value × Nat) → Shared → Prop), Q none s → wpAny (model prog w) A (setNext d sl i ep) Q E s)
  (q : ∀ h', Heap.ExtBut it s.heap h' → Q none { s with heap := h' }) : wpAny (model prog w) A (pyNext (.ref it)) Q E s := by
 have ty := ki.ty
 obtain ⟨oi, e1, e2, e3⟩ := id ki
 unfold pyNext
 refine wpAny_bind (wpAny_attempt (wpAny_callSpecial?_slot (name := Str.ofString "__next__") ty zax (wpAny_call_entry zax ty zbJ ?_ (zbQ _))))
 unfold Builtin.«set_iterator.__next__»
 refine wpAny_bind (m := slotArgs "__next__" 0 _) (wpAny_pure ?_)
 refine wpAny_bind (wpAny_fieldsOf e1 e3 ?_)
 dsimp only
 refine wpAny_bind (x.entries hf ?_)
 rw [if_neg (by simp)]
 simp only [Int.toNat_natCast]
 refine wpAny_bind (hn _ _ _ ?_)
 dsimp only
 refine wpAny_bind (wpAny_setField e1 e3 (by simp) ?_)
 exact zjS hh fun h' k => q h' fun b o hb e => k b o ((Heap.SameBut.update ..).extBut b o hb e)
def TAt (h : Heap) (tp : Addr) (js : List Nat) : Prop := h.IsTuple tp (js.map fun (j : Nat) => rawInt j).toArray
theorem TAt.items {tp : Addr} {js : List Nat} {Q : Option (Array Value) → Shared → Prop} (x : TAt s.heap tp js) (q : Q (some (js.map fun (j : Nat) => rawInt j).toArray) s) : wpAny (model prog w) A (seqItems? (.ref tp)) Q E s := by
 obtain ⟨ot, t1, t2, nt, t3⟩ := x
 unfold seqItems?
 refine wpAny_bind (wpAny_load t1 ?_)
 rw [t3]
 exact wpAny_pure q
theorem zkW {tp : Addr} {js : List Nat} {i j : Nat} {e : Int × Value} {Q : Option Value → Shared → Prop} (ki : SIt s.heap it d (.ref tp) i es.size ep) (x : SAt s.heap d es ep t) (hf : t.fits es.size = true)
  (ht : TAt s.heap tp js) (hj : js[i]? = some j) (he : es[j]? = some e)
  (q : ∀ h', SIt h' it d (.ref tp) (i + 1) es.size ep → Heap.SameBut it s.heap h' → Q (some e.2) { s with heap := h' }) : wpAny (model prog w) A (pyNext (.ref it)) Q E s := by
 have ty := ki.ty
 obtain ⟨oi, e1, e2, e3⟩ := id ki
 unfold pyNext
 refine wpAny_bind (wpAny_attempt (wpAny_callSpecial?_slot (name := Str.ofString "__next__") ty zax (wpAny_call_entry zax ty zbJ ?_ (zbQ _))))
 unfold Builtin.«set_iterator.__next__»
 refine wpAny_bind (m := slotArgs "__next__" 0 _) (wpAny_pure ?_)
 refine wpAny_bind (wpAny_fieldsOf e1 e3 ?_)
 dsimp only
 refine wpAny_bind (x.entries hf ?_)
 rw [if_neg (by simp)]
 refine wpAny_bind (ht.items ?_)
 have hp : (js.map fun (j : Nat) => rawInt j).toArray[((i : Int)).toNat]? = some (rawInt j) := by simp [hj]
 simp only [hp]
 show wpAny _ _ (setNextDrawn d ((j : Int)).toNat ((ep : Int)).toNat >>= _) _ _ s
 simp only [Int.toNat_natCast]
 refine wpAny_bind ?_
 unfold setNextDrawn
 refine wpAny_bind (x.state hf ?_)
 dsimp only
 rw [if_neg (by simp), he]
 refine wpAny_pure (wpAny_bind (wpAny_setField e1 e3 (by simp) ?_))
 have g1 := Heap.get?_update_self (Obj.mapFields (·.setIfInBounds 1 (rawInt (↑i + 1)))) e1 (Obj.isFreed_of_fields (Obj.data_mapFields e3 _))
 have d1 := Obj.data_mapFields e3 (·.setIfInBounds 1 (rawInt (↑i + 1)))
 refine wpAny_pure ⟨_, rfl, wpAny_pure (q _ ⟨_, g1, ?_, ?_⟩ (Heap.SameBut.update ..))⟩
 ·rw [Obj.cls_mapFields]
  exact e2
 ·rw [d1]
  simp [rawInt]
theorem zma {tp : Addr} {js : List Nat} {i : Nat} {Q : Option Value → Shared → Prop} (hh : A.handled = none) (ki : SIt s.heap it d (.ref tp) i es.size ep) (x : SAt s.heap d es ep t) (hf : t.fits es.size = true)
  (ht : TAt s.heap tp js) (hj : js[i]? = none) (q : ∀ h', Heap.ExtBut it s.heap h' → Q none { s with heap := h' }) : wpAny (model prog w) A (pyNext (.ref it)) Q E s := by
 have ty := ki.ty
 obtain ⟨oi, e1, e2, e3⟩ := id ki
 unfold pyNext
 refine wpAny_bind (wpAny_attempt (wpAny_callSpecial?_slot (name := Str.ofString "__next__") ty zax (wpAny_call_entry zax ty zbJ ?_ (zbQ _))))
 unfold Builtin.«set_iterator.__next__»
 refine wpAny_bind (m := slotArgs "__next__" 0 _) (wpAny_pure ?_)
 refine wpAny_bind (wpAny_fieldsOf e1 e3 ?_)
 dsimp only
 refine wpAny_bind (x.entries hf ?_)
 rw [if_neg (by simp)]
 refine wpAny_bind (ht.items ?_)
 have hp : (js.map fun (j : Nat) => rawInt j).toArray[((i : Int)).toNat]? = none := by simpa using hj
 simp only [hp]
 refine wpAny_bind (wpAny_setField e1 e3 (by simp) ?_)
 have g1 := Heap.get?_update_self (Obj.mapFields (·.setIfInBounds 0 (rawInt 0))) e1 (Obj.isFreed_of_fields (Obj.data_mapFields e3 _))
 have d1 := Obj.data_mapFields e3 (·.setIfInBounds 0 (rawInt 0))
 refine wpAny_bind (wpAny_setField (s := { s with heap := s.heap.update it (Obj.mapFields (·.setIfInBounds 0 (rawInt 0))) }) g1 d1 (by simp) ?_)
 exact zjS hh fun h' k => q h' fun b o hb e => k b o (((Heap.SameBut.update ..).trans (Heap.SameBut.update ..)).extBut b o hb e)
theorem zeH {f : Value} {i n : Nat} {Q : Value → Shared → Prop} (ki : SIt s.heap it d f i n ep) (q : Q (.ref it) s) : wpAny (model prog w) A (pyIter (.ref it)) Q E s := by
 refine wpAny_pyIter_slot ki.ty zdA (wpAny_call_entry zdA ki.ty ze3 ?_ (zfj _))
 show wpAny _ _ (ret (.ref it)) _ _ s
 exact wpAny_pure ⟨_, rfl, "set_iterator", _, ki.ty, zax.lookup, q⟩
end
end SetW
namespace SetW
open PySem PySem.Spec PyProof.Rows
set_option autoImplicit false
set_option maxRecDepth 100000
theorem zej {α : Type} : ∀ (l : List α) (i : Nat) (h : i < l.length), (l[i] :: l.eraseIdx i).Perm l
 | [], i, h => by simp at h
 | x :: xs, 0, h => List.Perm.refl _
 | x :: xs, i + 1, h => ((List.Perm.swap x _ _).trans ((zej xs i (by simpa using h)).cons x))
theorem zj9 {α : Type} (next : Nat → Nat) : ∀ (f k : Nat) (left : List α) (out : Array α), left.length = f → (pickOrder.go next f k left out).toList.Perm (out.toList ++ left)
 | 0, k, left, out, h => by
  unfold pickOrder.go
  rw [List.length_eq_zero_iff.mp h, List.append_nil]
 | f + 1, k, left, out, h => by
  unfold pickOrder.go
  have hi : next k % left.length < left.length := Nat.mod_lt _ (by omega)
  rw [List.getElem?_eq_getElem hi]
  dsimp only
  refine (zj9 next f (k + 1) _ _ (by rw [List.length_eraseIdx_of_lt hi]; omega)).trans ?_
  rw [Array.toList_push, List.append_assoc]
  exact (List.Perm.refl _).append (zej _ _ hi)
theorem zeM {α : Type} (next : Nat → Nat) (xs : Array α) : (pickOrder next xs).toList.Perm xs.toList := by
 have := zj9 next xs.size 0 xs.toList #[] (by simp)
 simpa [pickOrder] using this
def zeR (es : Array (Int × Value)) (j : Nat) : Value := (es.getD j (0, .none)).2
theorem zjo {es : Array (Int × Value)} {js : List Nat} (hj : js.Perm (List.range es.size)) : (js.map (zeR es)).Perm (es.toList.map (·.2)) := by
 refine (hj.map _).trans (List.Perm.of_eq ?_)
 apply List.ext_getElem
 ·simp
 ·intro i h1 h2
  have : i < es.size := by simpa using h1
  simp [zeR, this]
section
variable {prog : Program} {w : World} {A : Around} {E : Value → Shared → Prop} {s : Shared} {it d : Addr} {es : Array (Int × Value)} {ep : Nat} {t : SetTable}
theorem zk8 {src : Source} {n : Nat} {Q : Nat → Shared → Prop} (hn : n ≠ 0) (q : ∀ i dr, i < n → Q i { s with drawn := dr }) : wpAny (model prog w) A (choose src n) Q E s := fun Γ p hΓ => by
 unfold choose
 rw [Sem.wp_choose]
 exact ⟨hn, q _ _ (Nat.mod_lt _ (Nat.pos_of_ne_zero hn))⟩
theorem zkV {α : Type} : ∀ (n : Nat) (xs : List α) (s : Shared) (Q : List α → Shared → Prop), xs.length = n → (∀ ys dr, ys.Perm xs → Q ys { s with drawn := dr }) → wpAny (model prog w) A (drawOrder n xs) Q E s
 | 0, xs, s, Q, h, q => by
  unfold drawOrder
  have : xs = [] := List.length_eq_zero_iff.mp h
  subst this
  exact wpAny_pure (q [] s.drawn (List.Perm.refl _))
 | n + 1, [], s, Q, h, q => by simp at h
 | n + 1, x :: xs, s, Q, h, q => by
  unfold drawOrder
  refine wpAny_bind (zk8 (by simp) fun i dr hi => ?_)
  rw [List.getElem?_eq_getElem hi]
  dsimp only
  refine wpAny_bind (zkV n _ _ _ (by rw [List.length_eraseIdx_of_lt hi]; omega) fun ys dr' hp => ?_)
  exact wpAny_pure (q _ _ ((hp.cons _).trans (zej _ _ hi)))
theorem zd3 {Q : Bool → Shared → Prop} (q : Q (w.params.followText "set-order") s) : wpAny (model prog w) A setsByText Q E s := by
 unfold setsByText
 exact wpAny_bind (wpAny_askSetting (wpAny_pure q))
theorem zgF {sl i : Nat} {Q : Option (Value × Nat) → Shared → Prop} (hb : w.params.followText "set-order" = true) (x : SAt s.heap d es ep t) (hf : t.fits es.size = true)
  (q : Q (((pickOrder (w.params.setOrder d ep) es)[i]?).map fun e => (e.2, sl)) s) : wpAny (model prog w) A (setNext d sl i ep) Q E s := by
 unfold setNext
 refine wpAny_bind (x.state hf ?_)
 dsimp only
 refine wpAny_bind (zd3 ?_)
 rw [if_pos hb, if_neg (by simp)]
 unfold setWalk
 refine wpAny_bind (wpAny_bind (x.state hf ?_))
 dsimp only
 refine wpAny_bind (zd3 ?_)
 rw [if_pos hb]
 exact wpAny_bind (wpAny_askSetting (wpAny_pure (wpAny_pure q)))
theorem zfv {sl i : Nat} {Q : Option (Value × Nat) → Shared → Prop} (hb : w.params.followText "set-order" = false) (hd : (!t.plain && decide (es.size > 1)) = false) (hl : t.led = true) (x : SAt s.heap d es ep t) (hf : t.fits es.size = true)
  (q : Q (match es[SetTable.below t.place sl]?, t.place[SetTable.below t.place sl]? with | some (_, x), some j => some (x, j + 1) | _, _ => none) s) : wpAny (model prog w) A (setNext d sl i ep) Q E s := by
 unfold setNext
 refine wpAny_bind (x.state hf ?_)
 dsimp only
 refine wpAny_bind (zd3 ?_)
 rw [if_neg (by rw [hb]; decide)]
 refine wpAny_ite_split (fun z => absurd (show (!t.plain && decide (es.size > 1)) = true from z) (by rw [hd]; decide)) (fun _ => ?_)
 refine wpAny_bind (?_ : wpAny _ _ (if (!t.led && !es.isEmpty) = true then unsupported "set:maker-not-led" else pure ()) _ _ s)
 rw [hl]
 exact wpAny_pure (wpAny_pure q)
def wk (es : Array (Int × Value)) (vs : List Value) : Prop := vs.Perm (es.toList.map (·.2))
theorem ziP (hb : w.params.followText "set-order" = true) (hf : t.fits es.size = true) (hh : A.handled = none) (I : Addr) (hne : d ≠ I) : Walks prog w A I [I, d] [I] es.size (fun i v => ((pickOrder (w.params.setOrder d ep) es).toList.map (·.2))[i]? = some v)
  (fun i h => SIt h I d (.int (0 : Nat) 0) i es.size ep ∧ SAt h d es ep t) where
 sub := fun b hb => by
  simp at hb
  simp [hb]
 frame := fun _ _ _ st hk => ⟨st.1.keep fun o e => hk I (by simp) o e, st.2.keep fun o e => hk d (by simp) o e⟩
 item := fun i s Q E hi st hQ => by
  have hz : i < (pickOrder (w.params.setOrder d ep) es).size := by
   have := (zeM (w.params.setOrder d ep) es).length_eq
   simp only [Array.length_toList] at this
   omega
  refine zgG (v := (pickOrder (w.params.setOrder d ep) es)[i].2) st.1 st.2 hf (fun A E Q q => zgF hb st.2 hf ?_) hne fun h' ki sb => hQ _ h' s.toks ?_ ⟨ki, st.2.keep fun o e => sb.extBut d o hne e⟩ fun b o hb e => sb.extBut b o (fun h => hb (by simp [h])) e
  ·rw [Array.getElem?_eq_getElem hz]
   exact q
  ·simp [hz]
 done := fun s Q E st hQ => by
  have hz : (pickOrder (w.params.setOrder d ep) es).size ≤ es.size := by
   have := (zeM (w.params.setOrder d ep) es).length_eq
   simp only [Array.length_toList] at this
   omega
  refine zij hh st.1 st.2 hf (fun A E Q q => zgF hb st.2 hf ?_) fun h' he => hQ h' s.toks fun b o hb e => he b o (fun h => hb (by simp [h])) e
  rw [Array.getElem?_eq_none hz]
  exact q
 self := fun _ _ _ _ st hQ => zeH st.1 hQ
theorem zhb (hb : w.params.followText "set-order" = false) (hd : (!t.plain && decide (es.size > 1)) = false) (hl : t.led = true) (g : Good t) (hf : t.fits es.size = true) (hh : A.handled = none) (I : Addr) (hne : d ≠ I) :
  Walks prog w A I [I, d] [I] es.size (fun i v => (es.toList.map (·.2))[i]? = some v) (fun i h => SIt h I d (.int (spot t.place i) 0) i es.size ep ∧ SAt h d es ep t) where
 sub := fun b hb => by
  simp at hb
  simp [hb]
 frame := fun _ _ _ st hk => ⟨st.1.keep fun o e => hk I (by simp) o e, st.2.keep fun o e => hk d (by simp) o e⟩
 item := fun i s Q E hi st hQ => by
  have hz : t.place.size = es.size := by
   simp only [SetTable.fits, Bool.and_eq_true, beq_iff_eq] at hf
   exact hf.1
  have hi' : i < t.place.size := by omega
  refine zgG (v := es[i].2) (nx := t.place[i] + 1) st.1 st.2 hf (fun A E Q q => zfv hb hd hl st.2 hf ?_) hne fun h' ki sb => hQ _ h' s.toks ?_ ⟨?_, st.2.keep fun o e => sb.extBut d o hne e⟩ fun b o hb e => sb.extBut b o (fun h => hb (by simp [h])) e
  ·rw [zfH g.up (by omega), Array.getElem?_eq_getElem hi, Array.getElem?_eq_getElem hi']
   exact q
  ·simp [hi]
  ·have : spot t.place (i + 1) = t.place[i] + 1 := by simp [spot, Array.getD, hi']
   rw [this]
   exact ki
 done := fun s Q E st hQ => by
  have hz : t.place.size = es.size := by
   simp only [SetTable.fits, Bool.and_eq_true, beq_iff_eq] at hf
   exact hf.1
  refine zij hh st.1 st.2 hf (fun A E Q q => zfv hb hd hl st.2 hf ?_) fun h' he => hQ h' s.toks fun b o hb e => he b o (fun h => hb (by simp [h])) e
  rw [zfH g.up (by omega), Array.getElem?_eq_none (Nat.le_refl _)]
  exact q
 self := fun _ _ _ _ st hQ => zeH st.1 hQ
theorem ziQ {tp : Addr} {js : List Nat} (hj : js.Perm (List.range es.size)) (hf : t.fits es.size = true) (hh : A.handled = none) (I : Addr) (hne : d ≠ I) (hnt : tp ≠ I) :
  Walks prog w A I [I, d, tp] [I] es.size (fun i v => (js.map (zeR es))[i]? = some v) (fun i h => SIt h I d (.ref tp) i es.size ep ∧ SAt h d es ep t ∧ TAt h tp js) where
 sub := fun b hb => by
  simp at hb
  simp [hb]
 frame := fun _ _ _ st hk => ⟨st.1.keep fun o e => hk I (by simp) o e, st.2.1.keep fun o e => hk d (by simp) o e, by
  obtain ⟨o, e, r⟩ := st.2.2
  exact ⟨o, hk tp (by simp) o e, r⟩⟩
 item := fun i s Q E hi st hQ => by
  have hl : i < js.length := by
   rw [hj.length_eq, List.length_range]
   exact hi
  have hm : js[i] < es.size := List.mem_range.mp (hj.mem_iff.mp (List.getElem_mem hl))
  refine zkW (j := js[i]) (e := es[js[i]]) st.1 st.2.1 hf st.2.2 (List.getElem?_eq_getElem hl) (Array.getElem?_eq_getElem hm) fun h' ki sb => hQ _ h' s.toks ?_ ⟨ki, st.2.1.keep fun o e => sb.extBut d o hne e, ?_⟩ fun b o hb e => sb.extBut b o (fun h => hb (by simp [h])) e
  ·rw [List.getElem?_map, List.getElem?_eq_getElem hl]
   simp [zeR, hm]
  ·obtain ⟨o, e, r⟩ := st.2.2
   exact ⟨o, sb.extBut tp o hnt e, r⟩
 done := fun s Q E st hQ => by
  have hl : js.length ≤ es.size := by
   rw [hj.length_eq, List.length_range]
   exact Nat.le_refl _
  exact zma hh st.1 st.2.1 hf st.2.2 (List.getElem?_eq_none hl) fun h' he => hQ h' s.toks fun b o hb e => he b o (fun h => hb (by simp [h])) e
 self := fun _ _ _ _ st hQ => zeH st.1 hQ
end
end SetW
namespace SetW
open PySem PySem.Spec PyProof.Rows
set_option autoImplicit false
set_option maxRecDepth 100000
section
variable {prog : Program} {w : World} {A : Around} {E : Value → Shared → Prop} {s : Shared} {d : Addr} {es : Array (Int × Value)} {ep : Nat} {t : SetTable}
theorem SAt.epoch {Q : Nat → Shared → Prop} (x : SAt s.heap d es ep t) (hf : t.fits es.size = true) (q : Q ep s) : wpAny (model prog w) A (setEpoch d) Q E s := by
 obtain ⟨o, e, c, z⟩ := x
 exact wpAny_setEpoch_of e z hf q
theorem zlB {Q : Value → Shared → Prop} (x : SAt s.heap d es ep t) (hf : t.fits es.size = true) (g : Good t) (hl : t.led = !w.params.followText "set-order") (hz : es.size ≤ sizeLine)
  (q : ∀ (I : Addr) (vs : List Value) (fp : List Addr) (St : Nat → Heap → Prop) (h' : Heap) dr, vs.Perm (es.toList.map (·.2)) → s.heap.objs.size ≤ I → (∀ b ∈ fp, b = d ∨ s.heap.objs.size ≤ b) →
   (∀ A', A'.handled = none → Walks prog w A' I fp [I] es.size (fun i v => vs[i]? = some v) St) → St 0 h' → (∀ b o, s.heap.get? b = some o → h'.get? b = some o) → Q (.ref I) { s with heap := h', drawn := dr }) :
  wpAny (model prog w) A (pyIter (.ref d)) Q E s := by
 have ty := x.ty
 have hdl : d < s.heap.objs.size := by
  obtain ⟨o, e, _⟩ := x
  exact Heap.lt_size e
 refine wpAny_pyIter_slot ty F.slot_set_iter (wpAny_call_entry F.slot_set_iter ty zfh ?_ (F.args_set_iter_1 _))
 unfold Builtin.«frozenset.__iter__» Builtin.Frozenset.slot0
 refine wpAny_bind (wpAny_bind (m := slotArgs "__iter__" 0 _) (wpAny_pure ?_))
 refine (wpAny_pure ?_ : wpAny _ _ (pure d) _ _ s)
 unfold Builtin.Frozenset.sizeOf
 refine wpAny_bind (wpAny_bind (x.entries hf (wpAny_pure ?_)))
 unfold setDrawn
 refine wpAny_bind (wpAny_bind (x.state hf ?_))
 dsimp only
 refine wpAny_bind (zd3 (wpAny_pure ?_))
 refine wpAny_ite_split (fun c => ?_) (fun c => ?_)
 ·refine wpAny_bind (zkV _ _ _ _ (by simp) fun js dr hj => ?_)
  have hlen : js.length = es.size := by
   rw [hj.length_eq, List.length_range]
  simp only [newTuple]
  refine wpAny_bind (wpAny_newObj_type ?_ (by show (js.map fun (i : Nat) => rawInt i).toArray.size ≤ sizeLine; simpa [hlen] using hz))
  have x1 : SAt (s.heap.push { cls := .type "tuple", data := .seq (js.map fun (i : Nat) => rawInt i).toArray }) d es ep t := x.keep fun o e => Heap.get?_push_of_some _ e
  refine wpAny_bind (x1.epoch hf ?_)
  unfold newFields
  refine wpAny_bind (wpAny_newObj_type (wpAny_pure ⟨_, rfl, "set_iterator", _, ⟨_, Heap.get?_push_size _ rfl, rfl⟩, zax.lookup, ?_⟩))
  have z1 : (s.heap.push { cls := .type "tuple", data := .seq (js.map fun (i : Nat) => rawInt i).toArray }).objs.size = s.heap.objs.size + 1 := Heap.size_push ..
  refine q _ (js.map (zeR es)) [_, d, s.heap.objs.size] _ _ dr (zjo hj) (by rw [z1]; exact Nat.le_succ _) (fun b hb => ?_) (fun A' hA => ziQ (t := t) (ep := ep) hj hf hA _ (by rw [z1]; exact Nat.ne_of_lt (Nat.lt_succ_of_lt hdl)) (by rw [z1]; exact Nat.ne_of_lt (Nat.lt_succ_self _))) ⟨?_, ?_, ?_⟩ fun b o e => Heap.get?_push_of_some _ (Heap.get?_push_of_some _ e)
  ·simp only [List.mem_cons, List.not_mem_nil, or_false] at hb
   rcases hb with e | e | e
   ·rw [e, z1]
    exact .inr (Nat.le_succ _)
   ·exact .inl e
   ·exact .inr (by rw [e]; exact Nat.le_refl _)
  ·exact ⟨_, Heap.get?_push_size _ rfl, rfl, by simp [rawInt]⟩
  ·exact x1.keep fun o e => Heap.get?_push_of_some _ e
  ·exact ⟨_, Heap.get?_push_of_some _ (Heap.get?_push_size _ rfl), rfl, _, rfl⟩
 ·refine wpAny_bind (wpAny_pure ?_)
  refine wpAny_bind (x.epoch hf ?_)
  unfold newFields
  refine wpAny_bind (wpAny_newObj_type (wpAny_pure ⟨_, rfl, "set_iterator", _, ⟨_, Heap.get?_push_size _ rfl, rfl⟩, zax.lookup, ?_⟩))
  have fpk : ∀ b ∈ [s.heap.objs.size, d], b = d ∨ s.heap.objs.size ≤ b := fun b hb => by
   simp only [List.mem_cons, List.not_mem_nil, or_false] at hb
   rcases hb with e | e
   ·exact .inr (by rw [e]; exact Nat.le_refl _)
   ·exact .inl e
  cases hb : w.params.followText "set-order" with
  | true =>
   refine q _ ((pickOrder (w.params.setOrder d ep) es).toList.map (·.2)) [_, d] _ _ s.drawn ((zeM _ es).map _) (Nat.le_refl _) fpk (fun A' hA => ziP (t := t) (ep := ep) hb hf hA _ (Nat.ne_of_lt hdl)) ⟨?_, ?_⟩ fun b o e => Heap.get?_push_of_some _ e
   ·exact ⟨_, Heap.get?_push_size _ rfl, rfl, by simp [rawInt]⟩
   ·exact x.keep fun o e => Heap.get?_push_of_some _ e
  | false =>
   have hd : (!t.plain && decide (es.size > 1)) = false := by
    rw [hb] at c
    cases z : (!t.plain && decide (es.size > 1)) with
    | false => rfl
    | true => exact absurd (show (!false && (!t.plain && decide (es.size > 1))) = true by rw [z]; rfl) c
   have hl' : t.led = true := by
    rw [hl, hb]
    rfl
   refine q _ (es.toList.map (·.2)) [_, d] _ _ s.drawn (List.Perm.refl _) (Nat.le_refl _) fpk (fun A' hA => zhb (t := t) (ep := ep) hb hd hl' g hf hA _ (Nat.ne_of_lt hdl)) ⟨?_, ?_⟩ fun b o e => Heap.get?_push_of_some _ e
   ·exact ⟨_, Heap.get?_push_size _ rfl, rfl, by simp [rawInt, spot]⟩
   ·exact x.keep fun o e => Heap.get?_push_of_some _ e
end
end SetW
namespace SetW
open PySem PySem.Spec PyProof.Rows
set_option autoImplicit false
set_option maxRecDepth 100000
section
variable {prog : Program} {w : World} {A : Around} {E : Value → Shared → Prop} {s : Shared} {d : Addr} {es : Array (Int × Value)} {ep : Nat} {t : SetTable}
theorem zl3 {Q : Bool → Shared → Prop} (hT : s.TypeIs (.ref d) "set") (q : Q false s) : wpAny (model prog w) A (Builtin.List.listLengthHint (.ref d)) Q E s := by
 unfold Builtin.List.listLengthHint
 refine wpAny_bind (wpAny_specialOf hT PySem.F.slot_set_len.lookup ?_)
 generalize hid : ("set.__len__" : String) = id0
 wp_delta
 rw [show splitId id0 = some ("set", "__len__") from by subst hid; decide +kernel]
 subst hid
 refine wpAny_bind (wpAny_isInstance (T := "set") (b := true) hT (by rw [isSubtype_type]; kernel_rfl) ?_)
 refine wpAny_ite_split (fun z => absurd z (by decide)) (fun _ => ?_)
 refine wpAny_ite_split (fun _ => ?_) (fun z => absurd (by decide +kernel) z)
 exact wpAny_bind (wpAny_typeOf hT (wpAny_pure q))
theorem zlO {vs : List Value} {acc : Array Value} (h : ItemsOf (fun i v => vs[i]? = some v) acc vs.length) : acc.toList = vs := by
 obtain ⟨h1, h2⟩ := h
 apply List.ext_getElem?
 intro i
 rw [Array.getElem?_toList]
 cases z : acc[i]? with
 | none =>
  rw [Array.getElem?_eq_none_iff] at z
  exact (List.getElem?_eq_none (by omega)).symm
 | some v => exact (h2 i v z).symm
theorem zjn {R : Result → Shared → Prop} (hh : A.handled = none) (x : SAt s.heap d es ep t) (hf : t.fits es.size = true) (g : Good t) (hl : t.led = !w.params.followText "set-order") (hz : es.size ≤ sizeLine)
  (S : Addr) (hSd : S ≠ d) (res : Value) (c₀ : Nat) (hS : s.heap.get? S = some { cls := .type "list", data := .seq #[] c₀ })
  (q : ∀ h' tk dr acc c, (∀ b o, b ≠ S → s.heap.get? b = some o → h'.get? b = some o) → h'.get? S = some { cls := .type "list", dict := none, data := .seq acc c, slots := #[] } → acc.toList.Perm (es.toList.map (·.2)) → R (.ok (.ret res)) { s with heap := h', toks := tk, drawn := dr }) :
  wpAny (model prog w) A.in1 (Builtin.List.listExtendWith (.ref S) (.ref d) res)
   (fun fin s' => match fin with | .done f => R (.ok f) s' | .again c' => c'.quiet = true ∧ codeAny (model prog w) A c' R s') (fun e s' => R (.error e) s') s := by
 unfold Builtin.List.listExtendWith
 refine wpAny_bind (wpAny_typeOf (T := "set") x.ty ?_)
 have h1 : Builtin.List.listSameRef (.ref S) (.ref d) = false := by simp [Builtin.List.listSameRef, hSd]
 have h2 : (Value.type "set" == Value.type "list") = false := by decide
 have h3 : (Value.type "set" == Value.type "tuple") = false := by decide
 simp only [h1, h2, h3, Bool.or_false, Bool.false_eq_true, if_false]
 refine wpAny_bind (zlB x hf g hl hz fun I vs fp St h' dr hp hI hfp W st kp => ?_)
 have hSs : S < s.heap.objs.size := Heap.lt_size hS
 have hSf : S ∉ fp := fun z => by
  rcases hfp S z with e | e
  ·exact hSd e
  ·exact absurd hSs (Nat.not_lt.mpr e)
 have hSI : S ≠ I := fun e => absurd hSs (Nat.not_lt.mpr (by rw [e]; exact hI))
 have hn : vs.length = es.size := by
  rw [hp.length_eq, List.length_map, Array.length_toList]
 have x1 : SAt h' d es ep t := x.keep fun o e => kp d o e
 have key : ∀ (h : Heap) (c₁ : Nat), St 0 h → (∀ b o, b ≠ S → s.heap.get? b = some o → h.get? b = some o) →
   h.get? S = some { cls := .type "list", data := .seq #[] c₁ } → codeAny (model prog w) A (.builtin "list.extend.loop" ⟨[.ref S, .ref I, res], []⟩) R { s with heap := h, drawn := dr } := by
  intro h c₁ hst hk hS₁
  refine codeAny_extend_loopS (W A.in1 hh).toS hz S hSf res es.size 0 _ #[] c₁ rfl (Nat.zero_le _) hst hS₁ (ItemsOf.nil _) fun s' acc c hm hS' hacc => ?_
  rw [Moved.eq_with hm]
  rw [← hn] at hacc
  refine q s'.heap s'.toks dr acc c (fun b o hb e => hm.heap b o (fun z => ?_) (hk b o hb e)) hS' (by rw [zlO hacc]; exact hp)
  rcases List.mem_cons.mp z with e' | z
  ·exact hb e'
  ·rw [List.mem_singleton.mp z] at e
   exact absurd (Heap.lt_size e) (Nat.not_lt.mpr hI)
 have hS₁ : h'.get? S = some { cls := .type "list", data := .seq #[] c₀ } := kp S _ hS
 refine wpAny_bind (wpAny_holding (zl3 (s := { s with heap := h', drawn := dr }) (SAt.ty (s := { s with heap := h', drawn := dr }) x1) ?_))
 refine wpAny_ite_split (fun _ => ?_) (fun _ => wpAny_pure ⟨plainId_quiet PySem.F.plain_extend_loop _, key _ c₀ st (fun b o _ e => kp b o e) hS₁⟩)
 refine wpAny_bind (wpAny_rule (wpAny_bind ?_))
 show wpAny _ _ (updateSeq S (·.push .none) >>= fun _ => updateSeq S (·.pop)) _ _ _
 refine wpAny_bind (wpAny_updateSeq hS₁ rfl ?_)
 have hS₂ := Heap.get?_update_self (Obj.mapSeq (·.push Value.none)) hS₁ rfl
 refine wpAny_updateSeq (hz := by seq_fits) hS₂ rfl ?_
 have hS₃ := Heap.get?_update_self (Obj.mapSeq (·.pop)) hS₂ rfl
 refine wpAny_pure ⟨plainId_quiet PySem.F.plain_extend_loop _, key _ _ ?_ (fun b o hb e => ?_) hS₃⟩
 ·refine (W A.in1 hh).frame 0 _ _ st fun b hb o e => ?_
  have hbS : b ≠ S := fun h => hSf (h ▸ hb)
  exact (Heap.get?_update_other _ _ (Ne.symm hbS)).trans ((Heap.get?_update_other _ _ (Ne.symm hbS)).trans e)
 ·exact (Heap.get?_update_other _ _ (Ne.symm hb)).trans ((Heap.get?_update_other _ _ (Ne.symm hb)).trans (kp b o e))
theorem collect_set {Q : List Value → Shared → Prop} (hh : A.handled = none) (x : SAt s.heap d es ep t) (hf : t.fits es.size = true) (g : Good t) (hl : t.led = !w.params.followText "set-order") (hz : es.size ≤ sizeLine)
  (q : ∀ (vs : List Value) (h' : Heap) tk dr, vs.Perm (es.toList.map (·.2)) → (∀ b o, s.heap.get? b = some o → h'.get? b = some o) → Q vs { s with heap := h', toks := tk, drawn := dr }) : wpAny (model prog w) A (collect (.ref d)) Q E s := by
 have hdl : d < s.heap.objs.size := by
  obtain ⟨o, e, _⟩ := x
  exact Heap.lt_size e
 unfold collect
 have run : ∀ R : Result → Shared → Prop, (∀ h' tk dr acc c, (∀ b o, s.heap.get? b = some o → h'.get? b = some o) → h'.get? s.heap.objs.size = some { cls := .type "list", dict := none, data := .seq acc c, slots := #[] } →
   acc.toList.Perm (es.toList.map (·.2)) → R (.ok (.ret (.ref s.heap.objs.size))) { s with heap := h', toks := tk, drawn := dr }) → codeAny (model prog w) A (.builtin "proto.collect" ⟨[.ref d], []⟩) R s := by
  intro R hR
  refine codeAny_builtin entry_proto_collect' ?_
  show wpAny _ _ (do again (.builtin "list.__iadd__" ⟨[← newList [], .ref d], []⟩)) _ _ s
  refine wpAny_bind (wpAny_newList (wpAny_pure ⟨Code.quiet_builtin _ (by decide +kernel), codeAny_builtin entry_list_iadd' ?_⟩))
  rw [Around.under_plainId (show plainId "list.__iadd__" = true by decide +kernel) _]
  show wpAny _ _ (Builtin.List.listExtendWith (.ref s.heap.objs.size) (.ref d) (.ref s.heap.objs.size)) _ _ { s with heap := s.heap.push (seqObj "list" #[] 0) }
  refine zjn (A := A) (R := R) (s := { s with heap := s.heap.push (seqObj "list" #[] 0) }) hh (x.keep fun o e => Heap.get?_push_of_some _ e) hf g hl hz _ (Nat.ne_of_gt hdl) _ 0 (Heap.get?_push_size _ rfl) fun h' tk dr acc c k hS hp => ?_
  exact hR h' tk dr acc c (fun b o e => k b o (Nat.ne_of_lt (Heap.lt_size e)) (Heap.get?_push_of_some _ e)) hS hp
 refine wpAny_bind (wpAny_runValue (run _ fun h' tk dr acc c k hS hp => ?_))
 show wpAny (model prog w) A (load s.heap.objs.size >>= fun o => match o.data with | .seq xs _ => pure xs.toList | _ => unsupported "internal:collect") Q E { s with heap := h', toks := tk, drawn := dr }
 exact wpAny_bind (wpAny_load hS (wpAny_pure (q _ h' tk dr hp k)))
end
end SetW
namespace SetW
open PySem PySem.Spec PyProof.Rows
set_option autoImplicit false
section
variable {prog : Program} {w : World} {A : Around} {E : Value → Shared → Prop} {s : Shared}
abbrev nu (w : World) : Obj := { cls := .type "set", dict := none, data := .set #[] 0 (.fresh 0 0 (!w.params.followText "set-order")) }
set_option maxRecDepth 100000 in
theorem zoC (a : Value) {Q₁ : Value → Shared → Prop} (q : Q₁ (.ref s.heap.objs.size) { s with heap := s.heap.push (nu w) }) :
  codeAny (model prog w) A (.call (.builtin "set.__new__") ⟨[.type "set", a], []⟩) (wants Q₁ E) s := by
 refine codeAny_of_tree ?_
 show wpAny _ A.in1 (do checkBuiltinCall "set.__new__" ⟨[.type "set", a], []⟩; again (.builtin "set.__new__" ⟨[.type "set", a], []⟩)) _ _ s
 refine wpAny_bind (wpAny_of_eq (F.newCall_set_1 a) (wpAny_pure ⟨plainId_quiet F.plain_set_new _, codeAny_builtin F.entry_set_new ?_⟩))
 rw [Around.under_plainId F.plain_set_new _]
 unfold Builtin.«set.__new__» Builtin.Frozenset.newClass
 have hsub := sub_set_self
 obtain ⟨hp, g, d, tk, os⟩ := s
 dsimp only
 wp_walk
 refine wpAny_askSetting (wpAny_pure ?_)
 dsimp only
 simp only [newObj]
 exact wpAny_bind (wpAny_alloc (wpAny_pure (wpAny_pure q)))
set_option maxRecDepth 100000 in
set_option maxHeartbeats 3200000 in
theorem of_list {l : Addr} {items : Array Value} {ns : List Int} {Q : Value → Shared → Prop} (hh : A.handled = none) (hl : s.heap.IsList l items) (hi : IntsAre items.toList ns) (hb : items.size + 1 < scanBound)
  (h : ∀ (h' : Heap) (tk : Nat), SetR h' s.heap.objs.size (firstMet (fun i => ns.getD i 0) items.size) (!w.params.followText "set-order") →
   (∀ b o, b < s.heap.objs.size → s.heap.get? b = some o → h'.get? b = some o) → Q (.ref s.heap.objs.size) { s with heap := h', toks := tk }) :
  wpAny (model prog w) A (call (.type "set") [.ref l]) Q E s := by
 obtain ⟨c, tl, hmro⟩ := F.called_set.mro
 have hmade := F.called_set.made
 have hsub := F.called_set.sub
 refine wpAny_call (codeAny_of_tree ?_)
 show wpAny _ _ (callAny (.type "set") _) _ _ _
 refine wpAny_pure ⟨Code.quiet_builtin _ (by decide +kernel), codeAny_builtin F.entry_type_call ?_⟩
 rw [Around.under_plain (weight_type_call_type "set" [.ref l] []) rfl]
 have h1 := F.called_set.notType
 have h2 := F.called_set.canCreate
 have hct := F.typeCall_set_1 (.ref l)
 repeat (any_goals (first | assumption | wp_step))
 refine codeAny_mono (zoC (.ref l) (E := E) (Q₁ := fun obj s₁ => obj = .ref s.heap.objs.size ∧ s₁ = { s with heap := s.heap.push (nu w) }) ⟨rfl, rfl⟩) fun r s₁ hr => ?_
 cases r with
 | error e => exact hr
 | ok fl =>
  cases fl with
  | ret obj =>
   obtain ⟨rfl, rfl⟩ := hr
   have hS : (s.heap.push (nu w)).get? s.heap.objs.size = some (nu w) := Heap.get?_push_size _ rfl
   have hT : Shared.TypeIs { s with heap := s.heap.push (nu w) } (.ref s.heap.objs.size) "set" := ⟨_, hS, rfl⟩
   have hli := F.called_set.init.lookup
   have hbi := F.called_set.init.bind (.ref s.heap.objs.size)
   repeat (any_goals (first | assumption | wp_step))
   refine codeAny_mono (codeAny_call_builtin (R := wants (fun r s₂ => r = .none ∧ ∃ h' tk, s₂ = { s with heap := h', toks := tk } ∧
     SetR h' s.heap.objs.size (firstMet (fun i => ns.getD i 0) items.size) (!w.params.followText "set-order") ∧
     (∀ b o, b < s.heap.objs.size → s.heap.get? b = some o → h'.get? b = some o)) E) F.called_set.init.plain F.entry_set_init (check_set_init_1 hT ?_)) fun r₂ s₂ hr₂ => ?_
   ·obtain ⟨ol, hol, hcl, nl, hdl⟩ := hl
    obtain ⟨ocls, odict, odata, oslots⟩ := ol
    simp only at hcl hdl
    subst hcl; subst hdl
    have there : (s.heap.push (nu w)).get? l = some { cls := .type "list", dict := odict, data := .seq items nl, slots := oslots } := Heap.get?_push_of_some _ hol
    have hsls := F.sub_list_set
    have hslf := F.sub_list_frozenset
    have hne : (Value.type "list" == Value.type "dict") = false := by decide
    have hl1 : (s.heap.push (nu w)).IsList l items := ⟨_, there, rfl, nl, rfl⟩
    unfold Builtin.«set.__init__» noKeywords Builtin.Frozenset.updateFrom
    generalize hPI : pyIter = PI
    wp_walk
    subst hPI
    refine wpAny_pyIter_list hl1 ?_
    refine wpAny_bind (wpAny_runValue ?_)
    have hlS : l < s.heap.objs.size := Heap.lt_size hol
    have h3 : A.in1.in1.in1.handled = none := by simp [hh]
    have hsz : (s.heap.push (nu w)).objs.size = s.heap.objs.size + 1 := Heap.size_push ..
    have hneI : l ≠ (s.heap.push (nu w)).objs.size := by
     rw [hsz]
     exact Nat.ne_of_lt (Nat.lt_succ_of_lt hlS)
    have hSf : s.heap.objs.size ∉ [(s.heap.push (nu w)).objs.size, l] := by
     rw [hsz]
     simp only [List.mem_cons, List.not_mem_nil, or_false, not_or]
     exact ⟨Nat.ne_of_lt (Nat.lt_succ_self _), Nat.ne_of_gt hlS⟩
    have hval : ∀ (i : Nat) (v : Value), items[i]? = some v → ∃ t, v = .int ((fun i => ns.getD i 0) i) t := fun i v hv =>
     IntsAre.int_at hi i v (by rw [Array.getElem?_toList]; exact hv)
    refine znr (L := !w.params.followText "set-order") ((Walks.list h3 _ l hneI items).toS) s.heap.objs.size
     hSf (fun i => ns.getD i 0) hval hb (items.size - 0) 0 _ (by omega) (Nat.zero_le _)
     ⟨⟨_, Heap.get?_push_size _ rfl, rfl, rfl⟩, (hl1.push _)⟩ ?hS0 ?hR
    case hS0 =>
     refine ⟨_, #[], 0, _, Heap.get?_push_of_some _ hS, ⟨rfl, rfl, rfl⟩, rfl, ⟨fun e he => by simp at he, List.Perm.refl _, by rfl, ⟨List.Pairwise.nil, rfl⟩, rfl⟩⟩
    case hR =>
     intro s' hm hS'
     obtain ⟨h', g', d', tk', os'⟩ := s'
     have eg : g' = s.gens := hm.gens
     have ed : d' = s.drawn := hm.drawn
     have eo : os' = s.os := hm.os
     subst eg; subst ed; subst eo
     show wpAny _ _ _ _ _ _
     refine wpAny_pure ?_
     show wpAny _ _ (ret Value.none) _ _ _
     refine wpAny_pure ⟨rfl, h', tk', rfl, hS', fun b o hb e => ?_⟩
     refine hm.heap b o ?_ (Heap.get?_push_of_some _ (Heap.get?_push_of_some _ e))
     rw [hsz]
     simp only [List.mem_cons, List.not_mem_nil, or_false, not_or]
     exact ⟨Nat.ne_of_lt hb, Nat.ne_of_lt (Nat.lt_succ_of_lt hb)⟩
   ·cases r₂ with
    | error e => exact hr₂
    | ok fl₂ =>
     cases fl₂ with
     | ret r =>
      obtain ⟨rfl, h', tk, rfl, hS', hk'⟩ := hr₂
      repeat (any_goals (first | assumption | wp_step))
      exact h _ _ hS' hk'
     | _ => exact hr₂.elim
  | _ => exact hr.elim
end
end SetW
namespace L2
open PySem PySem.Spec PyProof.Rows
def WSet (w : World) (o : Obj) (τ : List Int) : Prop := τ.length < scanBound ∧ o.ExactSet ∧ ∃ es ep t, o.data = .set es ep t ∧ SetW.Body es τ t (!w.params.followText "set-order")
def rSetW (w : World) (K : PySem.W.Frag) : List V → Hp → VK → Prop := fun xs H Q => ∃ (p : Addr) (ns : List Int), xs = [.ref p] ∧ SqL K H p (ns.map V.int) ∧ ns.length ≤ 4000 ∧
 ∀ l o, H l = none → WSet w o (metI ns) → Q (.ref l) (upd H l (.frz o (.set (fun k => (metI ns).any (· == k)) (metI ns).length)))
def zod (w : World) (K : PySem.W.Frag) : List V → Hp → VK → Prop := fun xs H Q => ∃ (p : Addr) (o : Obj) (u : HO) (τ : List Int), xs = [.ref p] ∧ H p = some (.frz o u) ∧ WSet w o τ ∧
 ∀ l, H l = none → Q (.ref l) (upd H l (.lst ((zcp τ).map V.int)))
theorem zkI : ∀ (vs : List Value), (∀ v ∈ vs, ∃ k tk, v = .int k tk) → ∃ zs : List Int, Vals (zs.map V.int) vs ∧ vs.map (fun v => SetW.ent (0, v)) = zs
 | [], _ => ⟨[], .nil, rfl⟩
 | v :: vs, h => by
  obtain ⟨zs, h1, h2⟩ := zkI vs fun u hu => h u (List.mem_cons_of_mem _ hu)
  obtain ⟨k, tk, rfl⟩ := h v List.mem_cons_self
  exact ⟨k :: zs, .cons ⟨tk, rfl⟩ h1, by rw [List.map_cons, h2]; rfl⟩
section
variable {X : Cx}
theorem Inv.drawn {pins : List (Addr × Obj)} {σ : St} {H : Hp} {s : Shared} {dr : Drawn} (I : Inv X pins σ H s) : Inv X pins σ H { s with drawn := dr } := ⟨I.ok, I.os, I.bare, I.base, I.loc, I.cell, I.free, I.freeC, I.pin, I.hok, I.len⟩
theorem zm4 {h : Heap} {a : Addr} {τ : List Int} {L : Bool} (x : SetW.SetR h a τ L) (hb : τ.length < scanBound) (prog : Program) (w : World) : h.SetOf (intKind prog w) a (fun k => τ.any (· == k)) τ.length := by
 obtain ⟨o, es, ep, t, ho, hx, hd, b⟩ := x
 refine ⟨o, es, ep, t, ho, hx, hd, b.elems, fun k => ?_, by rw [b.size]; exact hb, b.fits, b.size⟩
 rw [← b.mem (prog := prog) (w := w) k, List.any_eq_true]
 constructor
 ·rintro ⟨y, hy, e⟩
  rw [← beq_iff_eq.mp e]
  exact hy
 ·intro z
  exact ⟨k, z, beq_self_eq_true k⟩
theorem zk9 (hc : X.calm = true) : zd6 X (.type "set") (rSetW X.w X.K) := by
 intro pins s σ H xs us Q I r h
 obtain ⟨p, ns, rfl, hq, hz, q⟩ := h
 obtain ⟨u, rfl, rx⟩ := zfd r
 cases rx
 obtain ⟨its, rv, pl, _⟩ := I.list hq
 have hl := rv.length
 rw [List.length_map] at hl
 refine SetW.of_list (ns := ns) (I.ok.hd hc) pl.isList (by simpa using zc8 rv) (by unfold scanBound; simp only [List.size_toArray]; omega) fun h' tk hS hk => ?_
 have e : its.toArray.size = ns.length := by simp only [List.size_toArray]; omega
 rw [e] at hS
 have hlen : (metI ns).length < scanBound := by
  have := firstMet_length_le (fun i => ns.getD i 0) ns.length
  unfold metI scanBound
  omega
 have so := zm4 hS hlen X.prog X.w
 obtain ⟨o, es, ep, t, ho, hx, hd, b⟩ := hS
 exact ⟨.ref s.heap.objs.size, _, I.laid (a := s.heap.objs.size) (o := .frz o (.set _ _)) (t' := tk) (fun b o eb => hk b o (Heap.lt_size eb) eb) (Nat.le_refl _) ⟨ho, so⟩, rfl, q _ o (I.hok.fresh (Nat.le_refl _)) ⟨hlen, hx, es, ep, t, hd, b⟩⟩
theorem zjt (hc : X.calm = true) : zd6 X (.builtin "sorted") (zod X.w X.K) := by
 intro pins s σ H xs us Q I r h
 obtain ⟨p, o, u, τ, rfl, hH, hW, q⟩ := h
 obtain ⟨v, rfl, rx⟩ := zfd r
 cases rx
 have ho : s.heap.get? p = some o := (show zbT X.prog X.w H s.heap p (.frz o u) from I.hok p _ hH).1
 obtain ⟨hb, hx, es, ep, t, hd, b⟩ := hW
 have hsz := b.size
 have hsl : es.size ≤ sizeLine := fits_of_scanBound (by omega)
 refine Calls.call_function_entry kind_sorted plain_sorted entry_sorted (args_sorted1 _) ?_
 unfold Builtin.«sorted»
 refine wpAny_bind (m := checkCount "sorted" 1 1 _) (wpAny_pure ?_)
 refine wpAny_bind (SetW.collect_set (I.ok.hd hc) ⟨o, ho, hx, hd⟩ b.fits b.good b.led hsl fun vs h1 tk dr hp k => ?_)
 have I1 : Inv X pins σ H { s with heap := h1, toks := tk, drawn := dr } := Inv.drawn (Inv.kept (t' := tk) I k)
 obtain ⟨zs, rv, ez⟩ := zkI vs fun v hv => by
  obtain ⟨e, he, rfl⟩ := List.mem_map.mp (hp.mem_iff.mp hv)
  obtain ⟨k, tk, rfl⟩ := b.are e he
  exact ⟨k, tk, rfl⟩
 have hzp : zs.Perm τ := by
  rw [← ez]
  refine ((hp.map fun v => SetW.ent (0, v))).trans ?_
  rw [List.map_map]
  exact b.perm
 have ha : zaj X.K H zs (zs.map V.int) := zaj.ints
 have hvl : vs.length ≤ sizeLine := by
  rw [hp.length_eq, List.length_map, Array.length_toList]
  exact hsl
 obtain ⟨km, kk⟩ := zhx I1 ha rv
 refine wpAny_bind (wpAny_newList ?_ (by simpa using hvl))
 have hn : (h1.push (seqObj "list" vs.toArray 0)).get? h1.objs.size = some (seqObj "list" vs.toArray 0) := Heap.get?_push_size _ rfl
 have k2 : ∀ b o, h1.get? b = some o → (h1.push (seqObj "list" vs.toArray 0)).get? b = some o := fun b o e => Heap.get?_push_of_some _ e
 show wpAny _ _ _ _ _ { s with heap := h1.push (seqObj "list" vs.toArray 0), toks := tk, drawn := dr }
 generalize h1.push (seqObj "list" vs.toArray 0) = h2 at hn k2 ⊢
 have up : ∀ h', Tim.zdL h1.objs.size h2 h' → ∀ b o, h1.get? b = some o → h'.get? b = some o := fun h' kb b o e => kb b o (Nat.ne_of_lt (Heap.lt_size e)) (k2 b o e)
 have I2 : ∀ h', Tim.zdL h1.objs.size h2 h' → Inv X pins σ H { s with heap := h', toks := tk, drawn := dr } := fun h' kb => Inv.kept (t' := tk) I1 (up h' kb)
 refine wpAny_bind (wpAny_holding (wpAny_call_entry slot_list_sort ⟨_, hn, rfl⟩ entry_list_sort (Tim.zmx (κ := srtKind Int X.K H) (kd := Srt.kd Int) (s := { s with heap := h2, toks := tk, drawn := dr }) hn hvl (fun v hv => ?_) (fun h' kb E x y a b Q hx hy q => ?_) (fun h' E Q kb h2 q => Srt.kind (I2 h' kb) ha rv h2 q) fun out p1 p2 => ⟨_, rfl, ?_⟩) (args_list_sort _)))
 ·obtain ⟨a, _, _, _, e⟩ := kk v hv
  exact ⟨a, e⟩
 ·obtain ⟨x1, r1, e1⟩ := zdq hx
  obtain ⟨y1, r2, e2⟩ := zdq hy
  exact Srt.lt (I2 h' kb) e1 e2 r1 r2 q
 ·obtain ⟨kb, c, hc'⟩ := Tim.zeW (out := out) hn
  obtain ⟨ws, bs, w1, w2, w3⟩ := zeU (α := Int) (K := X.K) (H := H) (out := out) fun v hv => kk v (p1.mem_iff.mp hv)
  have eb : bs = zcp τ := by
   have pz : bs.Perm zs := by
    rw [w3, ← km]
    exact p1.map _
   refine zh8 (pz.trans hzp) ?_
   ·rw [w3]
    exact List.pairwise_map.mpr p2
  rw [eb] at w2
  have ew := zaj.toInts w2
  have hw : ws.length ≤ sizeLine := by
   have := w1.length
   have := p1.length_eq
   omega
  refine wpAny_pure ⟨_, rfl, .ref h1.objs.size, _, I1.laid (a := h1.objs.size) (o := .lst ws) (t' := tk) (up _ kb) (Nat.le_refl _) ⟨hw, out, c, w1, hc'⟩, rfl, ?_⟩
  rw [ew]
  exact q _ (I1.hok.fresh (Nat.le_refl _))
end
end L2
namespace DictP
open PySem PySem.Spec PyProof.Rows
set_option autoImplicit false
set_option maxRecDepth 100000
theorem zgM : typeLookup (.type "list") "keys" = pure none := by rw [typeLookup_type, builtinLookup_eq_fast]; kernel_rfl
section
variable {prog : Program} {w : World} {A : Around} {E : Value → Shared → Prop} {a : Addr} {o : Obj} {h : Heap} {g : Array GenState} {d : Drawn} {t : Nat} {os : OsState} {xs : Array Value} {n : Nat} {sl : Array (Option Value)}
theorem zjf {tk : Tok} {Q : Fin → Shared → Prop} (hh : A.handled = none) (hx : h.get? a = some { cls := .type "list", dict := none, data := .seq xs n, slots := sl })
  (q : ∀ h' t' e, (∀ b u, h.get? b = some u → h'.get? b = some u) → (⟨h', g, d, t', os⟩ : Shared).TypeIs (.ref e) "AttributeError" → E (.ref e) ⟨h', g, d, t', os⟩) :
  wpAny (model prog w) A (Builtin.«object.__getattribute__» ⟨[.ref a, .str "keys" tk], []⟩) Q E ⟨h, g, d, t, os⟩ := by
 have hT : (⟨h, g, d, t, os⟩ : Shared).TypeIs (.ref a) "list" := ⟨_, hx, rfl⟩
 have f4 := zgM
 repeat (any_goals (first | assumption | wp_step))
 have hm : (Str.ofString (toString "'" ++ toString ((Manifest.find? "list").elim "list" fun x => x.tpName) ++ toString "' object has no attribute '") ++ Str.ofString "keys" ++ Str.ofString "'").length ≤ sizeLine := by decide +kernel
 generalize (Str.ofString (toString "'" ++ toString ((Manifest.find? "list").elim "list" fun x => x.tpName) ++ toString "' object has no attribute '") ++ Str.ofString "keys" ++ Str.ofString "'") = msg at hm ⊢
 unfold raiseAttrError
 refine wpAny_bind (wpAny_mkStr (wpAny_bind ?_) hm)
 unfold newExc newTuple
 refine wpAny_bind (wpAny_newObj_type ?_)
 refine wpAny_bind (m := firstArgMember _ _) (wpAny_of_eq (a := Value.none) (by rfl) ?_)
 refine wpAny_newObj_type ?_
 refine wpAny_bind (wpAny_mkText ?_)
 have hX := Heap.get?_push_size (h.push { cls := .type "tuple", data := .seq #[Value.str msg t] }) (o := { cls := .type "AttributeError", data := .fields (#[.ref h.objs.size, .none, .none, .none, .bool false, .none] ++ #[unsetMember, unsetMember]) }) rfl
 have hk : ∀ b u, h.get? b = some u → ((h.push { cls := .type "tuple", data := .seq #[Value.str msg t] }).push { cls := .type "AttributeError", data := .fields (#[.ref h.objs.size, .none, .none, .none, .bool false, .none] ++ #[unsetMember, unsetMember]) }).get? b = some u := fun b u e => Heap.get?_push_of_some _ (Heap.get?_push_of_some _ e)
 have hne : h.get? (h.push { cls := .type "tuple", data := .seq #[Value.str msg t] }).objs.size = none := Heap.get?_none_of_le (by simp)
 show wpAny (model prog w) A (noteAttr (.ref (h.push { cls := .type "tuple", data := .seq #[Value.str msg t] }).objs.size) (.ref a) (.str "keys" (t + 1)) >>= fun _ => raiseNew (.ref (h.push { cls := .type "tuple", data := .seq #[Value.str msg t] }).objs.size)) Q E ⟨(h.push { cls := .type "tuple", data := .seq #[Value.str msg t] }).push { cls := .type "AttributeError", data := .fields (#[.ref h.objs.size, .none, .none, .none, .bool false, .none] ++ #[unsetMember, unsetMember]) }, g, d, t + 2, os⟩
 generalize (h.push { cls := .type "tuple", data := .seq #[Value.str msg t] }).push { cls := .type "AttributeError", data := .fields (#[.ref h.objs.size, .none, .none, .none, .bool false, .none] ++ #[unsetMember, unsetMember]) } = h2 at hX hk ⊢
 generalize (h.push { cls := .type "tuple", data := .seq #[Value.str msg t] }).objs.size = e at hX hne ⊢
 generalize (Value.ref h.objs.size) = r0 at hX
 unfold noteAttr
 dsimp only
 have hTe : (⟨h2, g, d, t + 2, os⟩ : Shared).TypeIs (.ref e) "AttributeError" := ⟨_, hX, rfl⟩
 refine wpAny_bind (wpAny_bind ?_)
 unfold lacksNameAndObj
 dsimp only
 refine wpAny_bind (wpAny_isInstance (T := "AttributeError") (b := true) hTe (by rw [isSubtype_type]; kernel_rfl) ?_)
 simp only [Bool.not_true, Bool.false_eq_true, if_false]
 refine wpAny_bind (wpAny_load hX ?_)
 dsimp only
 have i6 : (#[r0, Value.none, Value.none, Value.none, Value.bool false, Value.none] ++ #[unsetMember, unsetMember])[6]? = some unsetMember := by simp
 have i7 : (#[r0, Value.none, Value.none, Value.none, Value.bool false, Value.none] ++ #[unsetMember, unsetMember])[7]? = some unsetMember := by simp
 refine wpAny_ite_split (fun z => absurd z (by rw [i6, i7]; decide)) (fun _ => ?_)
 refine wpAny_ite_split (fun z => absurd z (by rw [i6, i7]; decide)) (fun _ => ?_)
 refine wpAny_pure ?_
 rw [if_pos rfl]
 refine wpAny_bind (wpAny_rule (wpAny_bind (wpAny_typeOf hTe ?_)))
 dsimp only
 unfold layMembers
 refine wpAny_bind (wpAny_load hX ?_)
 dsimp only
 refine wpAny_update (s := ⟨h2, g, d, t + 2, os⟩) hX ?_
 unfold raiseNew
 refine wpAny_bind (wpAny_handled ?_)
 rw [hh]
 first
  | refine wpAny_throw ?_
  | refine wpAny_bind (wpAny_pure (wpAny_throw ?_))
 refine q _ _ e (fun b u eb => ?_) ⟨_, Heap.get?_update_self _ hX (Obj.isFreed_of_fields (Obj.data_mapFields rfl _)), rfl⟩
 have nb : b ≠ e := fun z => by
  rw [z, hne] at eb
  cases eb
 exact (Heap.get?_update_other _ _ (Ne.symm nb)).trans (hk b u eb)
theorem zkC {tk : Tok} {R : Result → Shared → Prop} (hh : A.handled = none) (hx : h.get? a = some { cls := .type "list", dict := none, data := .seq xs n, slots := sl })
  (q : ∀ h' t' e, (∀ b u, h.get? b = some u → h'.get? b = some u) → (⟨h', g, d, t', os⟩ : Shared).TypeIs (.ref e) "AttributeError" → R (.error (.ref e)) ⟨h', g, d, t', os⟩) :
  codeAny (model prog w) A (.call (.builtin "list.__getattribute__") ⟨[.ref a, .str "keys" tk], []⟩) R ⟨h, g, d, t, os⟩ :=
 codeAny_call_builtin F.slot_list_getattribute.plain F.entry_list_ga (F.slot_list_getattribute.check _ _ _ _ _ _ _ _ (show (⟨h, g, d, t, os⟩ : Shared).TypeIs (.ref a) "list" from ⟨_, hx, rfl⟩) (F.args_list_getattribute_2 _ _) (zjf (A := A.in1) hh hx q))
theorem zkA {Q : Option Value → Shared → Prop} (hh : A.handled = none) (hx : h.get? a = some { cls := .type "list", dict := none, data := .seq xs n, slots := sl })
  (q : ∀ h' t', (∀ b u, h.get? b = some u → h'.get? b = some u) → Q none ⟨h', g, d, t', os⟩) : wpAny (model prog w) A (getAttr? (.ref a) "keys") Q E ⟨h, g, d, t, os⟩ := by
 have hT : (⟨h, g, d, t, os⟩ : Shared).TypeIs (.ref a) "list" := ⟨_, hx, rfl⟩
 have f2 := F.slot_list_getattribute.lookup
 have f3 := F.slot_list_getattribute.bind (.ref a)
 have f5 : typeLookup (.type "list") "__getattr__" = pure none := by rw [typeLookup_type, builtinLookup_eq_fast]; kernel_rfl
 unfold getAttr? getAttrBy?
 repeat (any_goals (first | assumption | wp_step))
 refine zkC hh hx fun h' t' e k ty => ?_
 have su : isSubtype (.type "AttributeError") (.type "AttributeError") = pure true := by rw [isSubtype_type]; kernel_rfl
 show wpAny (model prog w) A (getattributeRaised (.ref a) (.str "keys" t) (.type "list") (.ref e) none false false) _ _ _
 unfold getattributeRaised
 refine wpAny_bind (wpAny_isInstance ty su ?_)
 rw [if_pos rfl]
 refine wpAny_bind (?_ : wpAny _ _ (typeLookup (.type "list") "__getattr__") _ _ _)
 rw [f5]
 refine wpAny_pure ?_
 show wpAny _ _ (throw (Value.ref e)) _ _ _
 refine wpAny_throw ?_
 show wpAny _ _ (do let b ← isInstance (.ref e) (.type "AttributeError"); if b = true then pure none else throw (Value.ref e)) _ _ _
 refine wpAny_bind (wpAny_isInstance ty su ?_)
 exact wpAny_pure (q h' t' k)
end
end DictP
namespace DictP
open PySem PySem.Spec PyProof.Rows L2
set_option autoImplicit false
set_option maxRecDepth 100000
theorem zgT : entryFor table "dict.update.loop" = some Builtin.«dict.update.loop» := entryFor_of_tree (by kernel_rfl)
theorem zdS : plainId "dict.update.loop" = true := by decide +kernel
theorem ziW {K : Type} [DecidableEq K] {kvs : List (K × Value)} {k : K} {v : Value} (h : k ∉ kvs.map (·.1)) : stored kvs k v = kvs ++ [(k, v)] := by
 unfold stored
 rw [if_neg fun z => ?_]
 obtain ⟨kv, h1, h2⟩ := List.any_eq_true.mp z
 exact h (List.mem_map.mpr ⟨kv, h1, of_decide_eq_true h2⟩)
section
variable {prog : Program} {w : World} {A : Around} {R : Result → Shared → Prop} {I : Addr} {fp wr : List Addr} {G : Array GenState → Array GenState → Prop} {n : Nat} {P : Nat → Value → Prop} {St : Nat → Shared → Prop}
theorem zi2 {h0 : Heap} (W : WalksS prog w A.in1 I fp wr G n P St) (d : Addr) (hdf : d ∉ fp) (res : Value) (kvs : List (Key × Value)) (hn : n = kvs.length) (hnd : (kvs.map (·.1)).Nodup)
  (hP : ∀ i v, P i v → ∃ tp key k val, v = .ref tp ∧ tp ≠ d ∧ tp ∉ wr ∧ h0.IsTuple tp #[key, val] ∧ (zaA prog w).is k key = true ∧ kvs[i]? = some (k, val)) (hz : kvs.length ≤ sizeLine) :
  ∀ (j i : Nat) (s : Shared) (tk : Tok), n - i = j → i ≤ n → St i s → (∀ b o, b ≠ d → b ∉ wr → h0.get? b = some o → s.heap.get? b = some o) → s.heap.DictOf (zaA prog w) d (kvs.take i) →
   (∀ s', Moved (d :: wr) G s s' → s'.heap.DictOf (zaA prog w) d kvs → R (.ok (.ret res)) s') → codeAny (model prog w) A (.builtin "dict.update.loop" ⟨[.ref d, .ref I, .int i tk, res], []⟩) R s := by
 have hdw : d ∉ wr := fun h => hdf (W.sub _ h)
 have up : ∀ b ∈ wr, b ∈ d :: wr := fun b hb => List.mem_cons_of_mem _ hb
 intro j
 induction j with
 | zero =>
  intro i s tk hj hi st hk hd q
  have e : i = n := by omega
  subst e
  refine codeAny_builtin zgT ?_
  rw [Around.under_plainId zdS _]
  show wpAny _ A.in1 (pyNext (.ref I) >>= _) _ _ s
  refine wpAny_bind (W.done s _ _ st fun s' hm => ?_)
  refine wpAny_bind (?_ : wpAny _ A.in1 (Builtin.Dict.addKeywords d []) _ _ s')
  refine wpAny_pure (wpAny_pure (q s' (hm.mono up) ?_))
  obtain ⟨o, es, ep, ho, r⟩ := hd
  rw [hn, List.take_length] at r
  exact ⟨o, es, ep, hm.heap d o hdw ho, r⟩
 | succ j ih =>
  intro i s tk hj hi st hk hd q
  have hlt : i < n := by omega
  refine codeAny_builtin zgT ?_
  rw [Around.under_plainId zdS _]
  show wpAny _ A.in1 (pyNext (.ref I) >>= _) _ _ s
  refine wpAny_bind (W.item i s _ _ hlt st fun v s' hPi st' hm => ?_)
  obtain ⟨tp, key, k, val, rfl, ntd, ntw, ht, hkey, hkv⟩ := hP i v hPi
  obtain ⟨ot, o1, o2, nt, o3⟩ := ht
  have g1 := hm.heap tp ot ntw (hk tp ot ntd ntw o1)
  have hd' : s'.heap.DictOf (zaA prog w) d (kvs.take i) := by
   obtain ⟨o, es, ep, ho, r⟩ := hd
   exact ⟨o, es, ep, hm.heap d o hdw ho, r⟩
  obtain ⟨hik, hek⟩ := List.getElem?_eq_some_iff.mp hkv
  have hnew : k ∉ (kvs.take i).map (·.1) := fun z => by
   rw [List.map_take] at z
   obtain ⟨m, hm1, hm2⟩ := List.mem_take_iff_getElem.mp z
   have h2 : m < (kvs.map (·.1)).length := by omega
   have h3 : i < (kvs.map (·.1)).length := by rw [List.length_map]; exact hik
   have := List.pairwise_iff_getElem.mp hnd m i h2 h3 (by omega)
   apply this
   rw [hm2, List.getElem_map, hek]
  refine wpAny_bind (wpAny_holding (wpAny_bind (wpAny_tryCatch ?_)))
  unfold Builtin.Dict.pairItems
  refine wpAny_bind (wpAny_typeOf (T := "tuple") ⟨_, g1, o2⟩ ?_)
  rw [if_pos (by decide)]
  unfold seqItems?
  refine wpAny_bind (wpAny_bind (wpAny_load g1 ?_))
  rw [o3]
  refine wpAny_pure (wpAny_pure ?_)
  show wpAny _ A.in1 (holding [key, val] (dictSet d key val)) _ _ s'
  refine wpAny_holding (wpAny_dictSet_pairs hkey hd' (fun h' hd2 sb => ?_) (by rw [List.length_take]; omega))
  rw [ziW hnew] at hd2
  have tk1 : kvs.take (i + 1) = kvs.take i ++ [(k, val)] := by
   rw [List.take_succ_eq_append_getElem hik, hek]
  rw [← tk1] at hd2
  refine wpAny_pure ⟨plainId_quiet zdS _, ih (i + 1) _ 0 (by omega) hlt (W.frame _ s' _ _ st' (Nat.le_succ _) fun b hb o e => ?_) (fun b o n1 n2 e => ?_) hd2 fun s'' hm'' x3 => ?_⟩
  ·rw [sb.2 b (fun h : b = d => hdf (by rw [← h]; exact hb))]
   exact e
  ·rw [sb.2 b n1]
   exact hm.heap b o n2 (hk b o n1 n2 e)
  ·refine q s'' (Moved.trans W.gtrans ((hm.mono up).then_heap (Nat.le_succ _) fun b o hb e => ?_) hm'') x3
   rw [sb.2 b (fun h : b = d => hb (by rw [h]; exact List.mem_cons_self))]
   exact e
end
end DictP
namespace DictP
open PySem PySem.Spec PyProof.Rows L2
set_option autoImplicit false
set_option maxRecDepth 100000
section
variable {prog : Program} {w : World} {A : Around} {E : Value → Shared → Prop} {s : Shared}
theorem of_pairs {l : Addr} {items : Array Value} {nl : Nat} {sl : Array (Option Value)} {kvs : List (Key × Value)} {Q : Value → Shared → Prop} (hh : A.handled = none) (hl : s.heap.get? l = some { cls := .type "list", dict := none, data := .seq items nl, slots := sl })
  (hnd : (kvs.map (·.1)).Nodup) (hlen : items.size = kvs.length) (hz : kvs.length ≤ sizeLine)
  (hit : ∀ (i : Nat) v, items[i]? = some v → ∃ tp key k val, v = .ref tp ∧ s.heap.IsTuple tp #[key, val] ∧ (zaA prog w).is k key = true ∧ kvs[i]? = some (k, val))
  (q : ∀ h' tk, h'.DictOf (zaA prog w) s.heap.objs.size kvs → (∀ b o, s.heap.get? b = some o → h'.get? b = some o) → Q (.ref s.heap.objs.size) { s with heap := h', toks := tk }) :
  wpAny (model prog w) A (call (.type "dict") [.ref l]) Q E s := by
 refine callType_codes (Q₁ := fun obj s₁ => obj = .ref s.heap.objs.size ∧ s₁ = { s with heap := s.heap.push { cls := .type "dict", data := .dict #[] } }) F.kt_called_dict (F.kt_typeCall_dict_1 _) F.entry_dict_init (kt_code_dict_new _ ⟨rfl, rfl⟩) ?_
 rintro obj s₁ ⟨rfl, rfl⟩
 have hnew : (s.heap.push { cls := .type "dict", data := .dict #[] }).DictOf (zaA prog w) s.heap.objs.size [] := Heap.DictOf.new s.heap
 have hl1 := Heap.get?_push_of_some { cls := .type "dict", data := .dict #[] } hl
 have hkp : ∀ b o, s.heap.get? b = some o → (s.heap.push { cls := .type "dict", data := .dict #[] }).get? b = some o := fun b o e => Heap.get?_push_of_some _ e
 have hds : s.heap.objs.size < (s.heap.push { cls := .type "dict", data := .dict #[] }).objs.size := by
  rw [Heap.size_push]
  exact Nat.lt_succ_self _
 have hlS : l < s.heap.objs.size := Heap.lt_size hl
 refine ⟨hnew.typeIs, F.args_dict_init_2 _ _, ?_⟩
 generalize s.heap.push { cls := .type "dict", data := .dict #[] } = h1 at hnew hl1 hkp hds ⊢
 unfold Builtin.«dict.__init__»
 refine wpAny_bind ?_
 unfold Builtin.Dict.selfAndRest
 refine wpAny_bind (wpAny_notOrdered_dict hnew.typeIs ?_)
 show wpAny _ _ (pure (s.heap.objs.size, [Value.ref l])) _ _ _
 refine wpAny_pure ?_
 show wpAny _ _ (Builtin.Dict.updateFrom "dict.__init__" s.heap.objs.size (.ref l) [] .none) _ _ _
 unfold Builtin.Dict.updateFrom
 refine wpAny_bind (wpAny_typeOf (T := "list") ⟨_, hl1, rfl⟩ ?_)
 rw [if_pos (by decide)]
 refine wpAny_bind (zkA (A := _) hh hl1 fun h2 t2 k2 => ?_)
 rw [if_pos (show (none : Option Value).isNone = true from rfl)]
 refine wpAny_bind (wpAny_rule (wpAny_bind ?_))
 have hl2 := k2 _ _ hl1
 have hL2 : h2.IsList l items := ⟨_, hl2, rfl, nl, rfl⟩
 refine wpAny_pyIter_list (s := ⟨h2, s.gens, s.drawn, t2, s.os⟩) hL2 ?_
 refine wpAny_pure ⟨plainId_quiet zdS _, ?_⟩
 have hd2 : h2.DictOf (zaA prog w) s.heap.objs.size [] := by
  obtain ⟨o, es, ep, ho, r⟩ := hnew
  exact ⟨o, es, ep, k2 _ _ ho, r⟩
 have hdlt : s.heap.objs.size < h2.objs.size := by
  obtain ⟨o, es, ep, ho, r⟩ := hd2
  exact Heap.lt_size ho
 have hne : l ≠ h2.objs.size := Nat.ne_of_lt (Nat.lt_trans hlS hdlt)
 have h3 : A.in1.in1.handled = none := by simp [hh]
 refine zi2 (h0 := s.heap) ((Walks.list h3 _ l hne items).toS) s.heap.objs.size (fun z => ?_) .none kvs hlen hnd (fun i v hv => ?_) hz items.size 0 _ 0 (by omega) (Nat.zero_le _) ⟨⟨_, Heap.get?_push_size _ rfl, rfl, rfl⟩, hL2.push _⟩ (fun b o n1 n2 e => Heap.get?_push_of_some _ (k2 _ _ (hkp _ _ e))) ?_ fun s' hm hd' => ?_
 ·simp only [List.mem_cons, List.not_mem_nil, or_false] at z
  rcases z with z | z
  ·exact absurd hdlt (by rw [← z]; exact Nat.lt_irrefl _)
  ·exact absurd hlS (by rw [← z]; exact Nat.lt_irrefl _)
 ·obtain ⟨tp, key, k, val, e1, e2, e3, e4⟩ := hit i v hv
  have htp : tp < s.heap.objs.size := by
   obtain ⟨ot, o1, _⟩ := e2
   exact Heap.lt_size o1
  refine ⟨tp, key, k, val, e1, Nat.ne_of_lt htp, fun z => ?_, e2, e3, e4⟩
  rw [List.mem_singleton.mp z] at htp
  exact absurd (Nat.lt_trans htp hdlt) (Nat.lt_irrefl _)
 ·rw [List.take_zero]
  exact hd2.push _
 ·refine ⟨rfl, ?_⟩
  rw [Moved.eq_with hm]
  refine q s'.heap s'.toks hd' fun b o e => hm.heap b o (fun z => ?_) (Heap.get?_push_of_some _ (k2 _ _ (hkp _ _ e)))
  have hb := Heap.lt_size e
  simp only [List.mem_cons, List.not_mem_nil, or_false] at z
  rcases z with z | z
  ·rw [z] at hb
   exact absurd hb (Nat.lt_irrefl _)
  ·rw [z] at hb
   exact absurd (Nat.lt_trans hb hdlt) (Nat.lt_irrefl _)
end
end DictP
namespace L2
open PySem PySem.Spec PyProof.Rows
def zof (K : PySem.W.Frag) : List V → Hp → VK → Prop := fun xs H Q => ∃ (p : Addr) (zs : List V) (kvs : List (Key × V)), xs = [.ref p] ∧ SqL K H p zs ∧ Paired (fun (z : V) (kv : Key × V) => ∃ b, z = .ref b ∧ H b = some (.tup [kV kv.1, kv.2])) zs kvs ∧ (kvs.map (·.1)).Nodup ∧
 ∀ d, H d = none → Q (.ref d) (upd H d (.dK kvs))
section
variable {X : Cx}
theorem zih {pins : List (Addr × Obj)} {σ : St} {H : Hp} {s : Shared} (I : Inv X pins σ H s) : ∀ {zs : List V} {kvs : List (Key × V)} {us : List Value}, Paired (fun (z : V) (kv : Key × V) => ∃ b, z = .ref b ∧ H b = some (.tup [kV kv.1, kv.2])) zs kvs → Vals zs us →
  ∃ ks : List (Key × Value), KV kvs ks ∧ ∀ (i : Nat) v, us[i]? = some v → ∃ tp key k val, v = .ref tp ∧ s.heap.IsTuple tp #[key, val] ∧ (zaA X.prog X.w).is k key = true ∧ ks[i]? = some (k, val)
 | _, _, _, .nil, .nil => ⟨[], .nil, fun i v h => by simp at h⟩
 | _ :: _, kv :: _, _ :: _, .cons ⟨b, e1, e2⟩ t, .cons r q => by
  subst e1
  obtain ⟨ks, h1, h2⟩ := zih I t q
  cases r
  obtain ⟨its, rv, p, _⟩ := I.tuple (SqT.of e2)
  cases rv with
  | cons r1 rv =>
   cases rv with
   | cons r2 rv =>
    cases rv
    refine ⟨(kv.1, _) :: ks, .cons ⟨rfl, r2⟩ h1, fun i v hv => ?_⟩
    cases i with
    | zero =>
     simp only [List.getElem?_cons_zero, Option.some.injEq] at hv
     subst hv
     exact ⟨b, _, kv.1, _, rfl, p, zji r1, rfl⟩
    | succ i =>
     rw [List.getElem?_cons_succ] at hv ⊢
     exact h2 i v hv
theorem zky : ∀ {kvs : List (Key × V)} {ks : List (Key × Value)}, KV kvs ks → ks.map (·.1) = kvs.map (·.1)
 | _, _, .nil => rfl
 | _, _, .cons r t => by
  rw [List.map_cons, List.map_cons, zky t, r.1]
theorem zjv (hc : X.calm = true) : zd6 X (.type "dict") (zof X.K) := by
 intro pins s σ H xs us Q I r h
 obtain ⟨p, zs, kvs, rfl, hq, hp, hn, q⟩ := h
 obtain ⟨u, rfl, rx⟩ := zfd r
 cases rx
 obtain ⟨its, rv, pl, hz⟩ := I.list hq
 obtain ⟨ks, hk, hit⟩ := zih I hp rv
 have l1 := Paired.length hp
 have l2 := rv.length
 have l3 := Paired.length hk
 obtain ⟨⟨oc, od, oda, osl⟩, n, e, e1, e2, e3⟩ := pl
 simp only at e1 e2 e3
 subst e1 e2 e3
 refine DictP.of_pairs (kvs := ks) (I.ok.hd hc) e (by rw [zky hk]; exact hn) (by rw [List.size_toArray]; omega) (by omega) (fun i v hv => hit i v (by simpa using hv)) fun h' tk hd k => ?_
 exact ⟨.ref s.heap.objs.size, _, I.laid (a := s.heap.objs.size) (o := .dK kvs) (t' := tk) k (Nat.le_refl _) ⟨by omega, beq_eq_false_iff_ne.mpr (Ne.symm (Nat.ne_of_lt I.big)), ks, hk, hd⟩, rfl, q _ (I.hok.fresh (Nat.le_refl _))⟩
end
end L2
namespace L2
open PySem PySem.Spec PyProof.Rows
structure zgl (scope : Scope) (ps caps : List Str) : Prop where
 kind : scope.kind = .function
 co : scope.isCoroutine = false
 gen : scope.isGenerator = false
 nocell : ∀ x ∈ scope.names, x.2 ≠ .cell
 par : ∀ x ∈ ps, scope.names.lookup x = some .local
 cap : ∀ x ∈ caps, scope.names.lookup x = some .free
 nd : (ps ++ caps).Nodup
def zmb (P : Program) (w : World) (K : PySem.W.Frag) (mg : Str → Option Value) (base : Heap) (N : List Str) (qual : Str) (scope : Scope) (f : Addr) (cd : Value) (cl : List (Str × Addr)) (A : Around) (outer : List Env) (s : Shared) (H : Hp) : Cx where
 prog := P
 w := w
 K := K
 mg := mg
 base := base
 A := A.deeper (PySem.W.envX qual scope s.heap.objs.size f cd cl)
 N := N
 s₀ := s
 H₀ := H
 env := PySem.W.envX qual scope s.heap.objs.size f cd cl
 outer := outer
 stack := PySem.W.envX qual scope s.heap.objs.size f cd cl :: outer
 ex := []
 calm := true
 fn := fun _ => false
 pn := []
 xe := fun _ _ => False
def zk7 (c : Addr) (q : Str) : Heap → Prop := fun h => h.CodeRec (.ref c) q
def zfK (H : Hp) (c : Addr) (q : Str) : Prop := H c = some (.ext (zk7 c q))
theorem zjs {c : Addr} {q : Str} (h1 h2 : Heap) (x : zk7 c q h1) (k : ∀ o, h1.get? c = some o → h2.get? c = some o) : zk7 c q h2 := by
 obtain ⟨c', o, vs, t, e, ho, r⟩ := x
 cases e
 exact ⟨c, o, vs, t, rfl, k o ho, r⟩
theorem zfK.rec {P : Program} {w : World} {H : Hp} {h : Heap} {c : Addr} {q : Str} (x : zfK H c q) (ok : HOk P w H h) : h.CodeRec (.ref c) q := (ok c _ x).1
theorem zfr {x : Str} {u : Value} : ∀ {ps : List Str} {us : List Value} {i : Nat}, ps.Nodup → ps[i]? = some x → us[i]? = some u → (ps.zip us).reverse.lookup x = some u
 | [], _, _, _, e, _ => by simp at e
 | _ :: _, [], _, _, _, e => by simp at e
 | p :: ps, v :: us, 0, hn, e1, e2 => by
  have e1 : p = x := by simpa using e1
  have e2 : v = u := by simpa using e2
  subst e1 e2
  rw [List.zip_cons_cons, List.reverse_cons, List.lookup_append]
  have z : (ps.zip us).reverse.lookup p = none := by
   rw [List.lookup_eq_none_iff]
   intro y hy
   have := List.of_mem_zip (List.mem_reverse.mp hy)
   simp only [beq_eq_false_iff_ne, ne_eq, bne_iff_ne]
   intro q
   rw [List.nodup_cons] at hn
   first
    | exact hn.1 (q ▸ this.1)
    | (rw [q] at hn; exact hn.1 this.1)
  rw [z]
  simp
 | p :: ps, v :: us, i + 1, hn, e1, e2 => by
  rw [List.nodup_cons] at hn
  have ih := zfr (ps := ps) (us := us) (i := i) hn.2 (by simpa using e1) (by simpa using e2)
  rw [List.zip_cons_cons, List.reverse_cons, List.lookup_append, ih]
  rfl
def zm3 (n : Nat) (tb : TE) (vcs : List V) (c : Addr) (q : Str) : Sp := fun vs H Q _ => vs.length = n ∧ zfK H c q ∧ tb (vs.map some ++ vcs.map some) H Q
theorem lam_ok {P : Program} {w : World} {K : PySem.W.Frag} {mg : Str → Option Value} {base : Heap} {k : Nat} {f c : Addr} {name qual : Str} {params : Arguments} {body : Expr} {scope : Scope} {cl : List (Str × Addr)} {pm ctv : Value} {ps caps : List Str} {vcs : List V} {tb : TE}
  (S : zgl scope ps caps) (hf : base.get? f = some (PySem.W.kla_obj name qual params body scope cl pm c ctv)) (hlen : vcs.length = caps.length)
  (hcap : ∀ (j : Nat) (x : Str) (v : V), caps[j]? = some x → vcs[j]? = some v → ∃ a u, cl.lookup x = some a ∧ base.IsCell a (some u) ∧ RelV v u)
  (hcell : ∀ x a, cl.lookup x = some a → ∃ v, base.IsCell a v) (hinj : ∀ x y a, cl.lookup x = some a → cl.lookup y = some a → x = y) (hhas : ∀ x, scope.names.lookup x = some .free → ∃ a, cl.lookup x = some a)
  (hb : ∀ (A : Around) (outer : List Env) (s : Shared) (H : Hp), Room k (A.deeper (PySem.W.envX qual scope s.heap.objs.size f (.ref c) cl)) → PE (zmb P w K mg base (ps ++ caps) qual scope f (.ref c) cl A outer s H) body tb) :
  FnOk P w K mg base CX0 (k + 1) f (PySem.W.kla_fn name qual params body scope cl pm (.ref c) ctv) ps (zm3 ps.length tb vcs c qual) := by
 refine ⟨fun vs H Q E h => h.1, fun A outer s H args us vs Q E hr e0 hbind r hsp => ?_⟩
 obtain ⟨hl, hc, hq⟩ := hsp
 have bk : ∀ b o, base.get? b = some o → s.heap.get? b = some o := fun b o e => (e0.bs b o e).1
 have hul : us.length = ps.length := by rw [← r.length]; exact hl
 refine PySem.W.kla_callFunE hr.depth (bk _ _ hf) rfl S.co S.gen rfl (hc.rec e0.hok) ?_
 refine hbind _ _ _ _ ?_
 refine wpAny_newFunctionEnv S.nocell (fun y hy => S.par _ (List.of_mem_zip hy).1) (fun h1 hns hsb => ⟨(e0.mod.nolimit.keeps bk).fresh _ hsb, ?_⟩) S.kind
 show codeAny _ _ (.expr body (PySem.W.envX qual scope s.heap.objs.size f (.ref c) cl)) _ _
 have hk : ∀ b o, s.heap.get? b = some o → h1.get? b = some o := fun b o e => hsb.extBut b o (Nat.ne_of_lt (Heap.lt_size e)) (Heap.get?_push_of_some _ e)
 have cellK : ∀ a v, base.IsCell a v → h1.IsCell a v ∧ H a = none := fun a v ⟨o, ho, hd⟩ => ⟨⟨o, hk _ _ (bk _ _ ho), hd⟩, (e0.bs _ _ ho).2⟩
 have ndps : ps.Nodup := (List.nodup_append.mp S.nd).1
 have noA : ∀ b : Addr, b ∉ ([] : List Addr) := fun b z => absurd z (by simp)
 have I : Inv (zmb P w K mg base (ps ++ caps) qual scope f (.ref c) cl A outer s H) [] (vs.map some ++ vcs.map some) H { s with heap := h1, toks := s.toks + (ps.zip us).length } := by
  refine ⟨⟨e0.mod, S.kind, rfl, rfl, Nat.le_refl _, hinj, fun y hy => ?_, fun y a z _ => (by cases z), fun _ => hr.hd, Around.frames_deeper e0.frames, .inr ⟨rfl, rfl⟩, fun b z => absurd z (noA b), e0.bs, e0.bsz, fun b _ _ => noA b, fun b z => absurd z (noA b), e0.funs, e0.frf⟩,
   rfl, e0.bare, Un.kept hk, ⟨_, hns, fun i y v h1' h2 h3 => ?_⟩, fun y a h => ?_, e0.hok.fresh (Nat.le_refl _), fun y a h => ?_, fun p hp => absurd (show p ∈ ([] : List (Addr × Obj)) from hp) (by simp), e0.hok.kept hk, ?_⟩
  ·have hy : scope.names.lookup y = some .cell ∨ scope.names.lookup y = some .free := hy
   rcases hy with hy | hy
   ·exact absurd rfl (S.nocell _ (PySem.mem_of_lookup hy))
   ·exact hhas y hy
  ·have h1' : (ps ++ caps)[i]? = some y := h1'
   by_cases hi : i < ps.length
   ·rw [List.getElem?_append_left hi] at h1'
    rw [List.getElem?_append_left (by rw [List.length_map]; omega), List.getElem?_map] at h2
    cases e : vs[i]? with
    | none => rw [e] at h2; cases h2
    | some v' =>
     rw [e] at h2
     cases h2
     obtain ⟨u, hu, ru⟩ := r.get e
     exact ⟨u, ru, .inl ⟨S.par y (List.mem_of_getElem? h1'), zfr ndps h1' hu⟩⟩
   ·rw [List.getElem?_append_right (by omega)] at h1'
    rw [List.getElem?_append_right (by rw [List.length_map]; omega), List.length_map, List.getElem?_map] at h2
    cases e : vcs[i - vs.length]? with
    | none => rw [e] at h2; cases h2
    | some v' =>
     rw [e] at h2
     cases h2
     rw [hl] at e
     obtain ⟨a, u, e1, e2, ru⟩ := hcap _ _ _ h1' e
     exact ⟨u, ru, .inr ⟨.inr (S.cap y (List.mem_of_getElem? h1')), a, e1, (cellK _ _ e2).1⟩⟩
  ·obtain ⟨v, z⟩ := hcell y a h
   exact ⟨v, (cellK _ _ z).1⟩
  ·obtain ⟨v, z⟩ := hcell y a h
   exact (cellK _ _ z).2
  ·show (vs.map some ++ vcs.map some).length = (ps ++ caps).length
   rw [List.length_append, List.length_append, List.length_map, List.length_map, hl, hlen]
 refine PySem.W.kla_codeExpr (wpAny_mono (hb A outer s H (hr.deeper _) [] _ _ H Q I hq) (fun u s' hu => ?_) fun _ _ z => (show False from z).elim)
 obtain ⟨v, H', J, rv, q⟩ := hu
 exact ⟨v, H', J.os, J.bare, J.base, J.hok, rv, q⟩
end L2
namespace L2
open PySem PySem.Spec PyProof.Rows
def Gro (Pt : Addr) (H H' : Hp) : Prop := ∀ b o, b ≠ Pt → H b = some o → H' b = some o
theorem Gro.refl (Pt : Addr) (H : Hp) : Gro Pt H H := fun _ _ _ h => h
theorem Gro.trans {Pt : Addr} {H H1 H2 : Hp} (a : Gro Pt H H1) (b : Gro Pt H1 H2) : Gro Pt H H2 := fun c o n h => b c o n (a c o n h)
structure zbo (H : Hp) (Pt : Addr) (pos : Pos) (q : Str) : Prop where
 ex : ∃ tab : Array Value, H Pt = some (.tbl tab) ∧ TriplesOk tab.toList ∧ (codeAmong pos tab.toList = none ∨ ∃ c, codeAmong pos tab.toList = some (.ref c) ∧ zfK H c q)
theorem zbo.ext {H H' : Hp} {Pt : Addr} {pos : Pos} {q : Str} (x : zbo H Pt pos q) (e : Ext H H') : zbo H' Pt pos q := by
 obtain ⟨tab, h1, h2, h3⟩ := x.ex
 refine ⟨tab, e _ _ h1 (fun _ z => nomatch z), h2, ?_⟩
 rcases h3 with h3 | ⟨c, h3, h4⟩
 ·exact .inl h3
 ·exact .inr ⟨c, h3, e _ _ h4 (fun _ z => nomatch z)⟩
theorem zbo.gro {H H' : Hp} {Pt P2 : Addr} {pos : Pos} {q : Str} (x : zbo H Pt pos q) (e : Gro P2 H H') (hne : Pt ≠ P2) (h2 : ∃ tab, H P2 = some (.tbl tab)) : zbo H' Pt pos q := by
 obtain ⟨tab, h1, h3, h4⟩ := x.ex
 refine ⟨tab, e _ _ hne h1, h3, ?_⟩
 rcases h4 with h4 | ⟨c, h4, h5⟩
 ·exact .inl h4
 ·refine .inr ⟨c, h4, e _ _ (fun z => ?_) h5⟩
  obtain ⟨tab2, y⟩ := h2
  rw [← z, show H c = _ from h5] at y
  cases y
def BMAt (mg : Str → Option Value) (base : Heap) : Prop := ∃ bm o, mg "__builtins__" = some (.ref bm) ∧ bm ≠ builtinsNs ∧ bm ≠ mainGlobals ∧ base.get? bm = some o ∧ o.cls = .type "module" ∧ o.dict = some builtinsNs ∧ o.data = .plain
section
variable {X : Cx} {pins : List (Addr × Obj)} {σ : St} {H : Hp} {s : Shared} {params : Arguments} {body : Expr} {scope : Scope} {lpos : Pos} {c Pt : Addr} {Q : Value → Shared → Prop}
theorem zl7 {c' : Addr} {q : Str} {tab more : Array Value} {h' : Heap} {tk : Nat} (I : Inv X pins σ H s) (hP : H Pt = some (.tbl tab)) (hx : ∀ b o, b ≠ Pt → s.heap.get? b = some o → h'.get? b = some o) (hge : s.heap.objs.size ≤ c')
  (hrec : h'.CodeRec (.ref c') q) (htb : h'.get? Pt = some (PySem.W.tabObj (tab ++ more))) : Inv X pins σ (upd (upd H Pt (.tbl (tab ++ more))) c' (.ext (zk7 c' q))) { s with heap := h', toks := tk } := by
 have hfr : H c' = none := I.hok.fresh hge
 have nPc : Pt ≠ c' := zab hP hfr
 have low : ∀ b u, H b = some u → b ≠ c' := fun b u e => zab e hfr
 have lows : ∀ b o, s.heap.get? b = some o → b ≠ c' := fun b o e => Nat.ne_of_lt (Nat.lt_of_lt_of_le (Heap.lt_size e) hge)
 have nP : ∀ b, H b = none → b ≠ Pt := fun b n z => by rw [z, hP] at n; cases n
 refine I.un (t' := tk) ⟨fun b o e n _ _ => hx b o (nP b n) e, fun b o e n _ _ => ⟨o.slots, hx b o (nP b n) e⟩, fun b o e n _ => ?_, fun b o e _ => ?_, fun b xs e => ?_, fun b o u e => ?_, fun b ps e => ?_⟩ fun a o e => ?_
 ·rw [zah (lows b o e), zah (nP b n)]
  exact n
 ·by_cases z : b = Pt
  ·exact ⟨_, by rw [z]; exact htb⟩
  ·exact ⟨o, hx b o z e⟩
 ·rw [zah (low b _ e), zah (fun z => by rw [z, hP] at e; cases e)]
  exact e
 ·rw [zah (low b _ e), zah (fun z => by rw [z, hP] at e; cases e)]
  exact e
 ·by_cases z : b = Pt
  ·rw [z, hP] at e
   cases e
   exact ⟨more, by rw [z, zah nPc, zac]⟩
  ·exact ⟨#[], by rw [zah (low b _ e), zah z, e]; simp⟩
 ·by_cases z : a = c'
  ·subst z
   rw [zac] at e
   cases e
   obtain ⟨c2, o2, vs, t, e2, ho2, r2⟩ := id hrec
   cases e2
   exact ⟨hrec, ⟨o2, ho2⟩, fun h1 h2 x k => zjs h1 h2 x k⟩
  ·rw [zah z] at e
   by_cases y : a = Pt
   ·subst y
    rw [zac] at e
    cases e
    exact htb
   ·rw [zah y] at e
    refine (I.hok a o e).stay (fun b u hb q => hx b u ?_ q) (fun b q => ?_) fun b xs q => ?_
    ·rcases hb with rfl | hb
     ·exact y
     ·intro z2
      rw [z2, hP] at hb
      cases hb
    ·rw [zah (low b _ q), zah (fun z2 => by rw [z2, hP] at q; cases q)]
     exact q
    ·rw [zah (low b _ q), zah (fun z2 => by rw [z2, hP] at q; cases q)]
     exact q
theorem zlW (I : Inv X pins σ H s) (hdef : defaultsOf params X.env = ([], [])) (hfr : ∀ x, (x, NameKind.free) ∈ scope.names → (X.env.kindOf x = some .cell ∨ X.env.kindOf x = some .free)) (hcode : X.env.code = .ref c) (hC : PySem.W.codeHdIn X.K c Pt = true) (hBM : BMAt X.mg X.base)
  (hT : zbo H Pt lpos (X.env.qual ++ "<lambda>"))
  (h : ∀ (f c' : Addr) (cl : List (Str × Addr)) (pm ctv : Value) (H' : Hp) (s' : Shared), zg6 scope X.env cl → Inv X pins σ H' s' → s'.heap.get? f = some (PySem.W.kla_obj "<lambda>" (X.env.qual ++ "<lambda>") params body scope cl pm c' ctv) → H' f = none → s.heap.objs.size ≤ f →
   Gro Pt H H' → zbo H' Pt lpos (X.env.qual ++ "<lambda>") → zfK H' c' (X.env.qual ++ "<lambda>") → Q (.ref f) s') :
  wpAny (model X.prog X.w) X.A (eval (.Lambda params body scope lpos) X.env) Q X.xe s := by
 obtain ⟨cl, hcl⟩ := ze6 (scope := scope) (env := X.env) fun x hx => I.ok.has x (hfr x hx)
 obtain ⟨tab, hP, ht, hor⟩ := hT.ex
 have hPo : s.heap.get? Pt = some (PySem.W.tabObj tab) := I.hok Pt _ hP
 have C : PySem.W.CodeHd s.heap c Pt := (PySem.W.codeHd_of_K I.ok.mod.kin hC).keeps I.bk
 have hgl := I.mod.glob.keeps I.bk
 have hgP : mainGlobals ≠ Pt := fun z => by
  obtain ⟨o, es, ep, e, _⟩ := I.mod.glob
  have := (I.bs _ _ e).2
  rw [z, hP] at this
  cases this
 have hb : s.heap.BuiltinsAt X.mg Pt := by
  obtain ⟨bm, o, b1, b2, b3, b4, b5⟩ := hBM
  refine ⟨bm, o, b1, b2, b3, fun z => ?_, I.bk _ _ b4, b5⟩
  have := (I.bs _ _ b4).2
  rw [z, hP] at this
  cases this
 refine PySem.W.kla_eval hdef ?_
 rcases hor with hnone | ⟨c', hsome, hca⟩
 ·refine PySem.W.kla_makeFunction (clos := cl) hcl.eq I.ok.glob hgl hcode C hPo ht hnone hgP hb fun c' ctv h' tk hx hge hlt hrec htb => ?_
  have hx' : ∀ o2 b o, b ≠ Pt → s.heap.get? b = some o → (h'.push o2).get? b = some o := fun o2 b o n e => Heap.get?_push_of_some _ (hx b o n e)
  have I' := zl7 (c' := c') (q := X.env.qual ++ "<lambda>") (tk := tk) I hP (hx' _) hge (hrec.push (PySem.W.kla_obj "<lambda>" (X.env.qual ++ "<lambda>") params body scope cl ((X.mg "__name__").getD .none) c' ctv)) (Heap.get?_push_of_some _ htb)
  have hsz : s.heap.objs.size ≤ h'.objs.size := Nat.le_of_lt (Nat.lt_of_le_of_lt hge hlt)
  have nPc : Pt ≠ c' := zab hP (I.hok.fresh hge)
  have eT : (tab ++ #[rawInt lpos.line, rawInt lpos.col, .ref c']).toList = tab.toList ++ [rawInt lpos.line, rawInt lpos.col, .ref c'] := by simp
  have hTI : zbo (upd (upd H Pt (.tbl (tab ++ #[rawInt lpos.line, rawInt lpos.col, .ref c']))) c' (.ext (zk7 c' (X.env.qual ++ "<lambda>")))) Pt lpos (X.env.qual ++ "<lambda>") :=
   ⟨_, by rw [zah nPc, zac], by rw [eT]; exact TriplesOk_snoc _ _ _ _ ht, .inr ⟨c', by rw [eT]; exact codeAmong_snoc _ ht hnone, zac⟩⟩
  refine h h'.objs.size c' cl _ ctv _ _ hcl I' (Heap.get?_push_size _ rfl) ?_ hsz ?_ hTI zac
  ·rw [zah (Nat.ne_of_gt hlt), zah (fun z => ?_)]
   ·exact I.hok.fresh hsz
   ·have := Heap.lt_size hPo
    rw [← z] at this
    exact absurd this (Nat.not_lt.mpr hsz)
  ·intro b o n e
   rw [zah (zab e (I.hok.fresh hge)), zah n]
   exact e
 ·refine PySem.W.kla_makeFunctionHit (clos := cl) hcl.eq I.ok.glob hgl hcode C hPo ht hsome hb fun ctv h' tk hk hsz => ?_
  exact h h'.objs.size c' cl _ ctv H _ hcl (I.kept (t' := tk) fun b o e => Heap.get?_push_of_some _ (hk b o e)) (Heap.get?_push_size _ rfl) (I.hok.fresh hsz) hsz (Gro.refl _ _) hT hca
end
end L2
namespace L2
open PySem PySem.Spec PyProof.Rows
def zd4 (X : Cx) (s : Shared) (H : Hp) : Heap := PySem.W.hideAll s.heap (trk s.heap H ++ frs X.stack)
theorem ze2 {h b1 b2 : Heap} : ∀ {l : List Env}, h.FunFrames b1 l → (∀ b ∈ frs l, b2.get? b = none) → h.FunFrames b2 l
 | [], _, _ => trivial
 | env :: l, ⟨h1, ⟨L, o, h2, h3, h4, h5⟩, h6⟩, k => by
  have m : ∀ b ∈ frs l, b ∈ frs (env :: l) := fun b hb => by
   unfold frs
   rw [List.filterMap_cons, h2]
   exact List.mem_cons_of_mem _ hb
  refine ⟨h1, ⟨L, o, h2, k L ?_, h4, h5⟩, ze2 h6 fun b hb => k b (m b hb)⟩
  unfold frs
  rw [List.filterMap_cons, h2]
  exact List.mem_cons_self
section
variable {X : Cx} {pins : List (Addr × Obj)} {σ : St} {H : Hp} {s : Shared}
theorem zem {b : Addr} {o : Obj} (e : s.heap.get? b = some o) (n : H b = none) (hf : b ∉ frs X.stack) : (zd4 X s H).get? b = some o :=
 PySem.W.hideAll_get _ e fun hm => by
  rcases List.mem_append.mp hm with z | z
  ·have q : (H b).isSome = true := (List.mem_filter.mp z).2
   rw [n] at q
   cases q
  ·exact hf z
theorem zgD {b : Addr} {o : Obj} (e : (zd4 X s H).get? b = some o) : s.heap.get? b = some o ∧ H b = none ∧ b ∉ frs X.stack := by
 have e1 := PySem.W.of_hideAll _ e
 have hm : b ∉ trk s.heap H ++ frs X.stack := fun z => by
  unfold zd4 at e
  rw [PySem.W.hideAll_none _ z] at e
  cases e
 rw [List.mem_append, not_or] at hm
 refine ⟨e1, ?_, hm.2⟩
 cases q : H b with
 | none => rfl
 | some u => exact absurd (List.mem_filter.mpr ⟨List.mem_range.mpr (Heap.lt_size e1), by rw [q]; rfl⟩) hm.1
theorem zjw (I : Inv X pins σ H s) : ∀ b o, X.base.get? b = some o → (zd4 X s H).get? b = some o := fun b o e => by
 obtain ⟨h1, h2⟩ := I.bs b o e
 refine zem h1 h2 fun z => ?_
 have := (I.stack.mem z).1
 rw [e] at this
 cases this
theorem zhR (I : Inv X pins σ H s) : Env0 X.prog X.w X.K X.mg (zd4 X s H) X.A X.stack s H := by
 have sub := zjw I
 refine ⟨I.ok.frames, ⟨I.mod.kin.keeps sub, I.mod.glob.keeps sub, ?_, I.mod.nolimit.keeps sub⟩, fun b o e => ⟨(zgD e).1, (zgD e).2.1⟩, Nat.le_of_eq (PySem.W.hideAll_size _ _), ze2 I.stack fun b hb => PySem.W.hideAll_none _ (List.mem_append_right _ hb), I.stkFree, I.hok, I.bare⟩
 obtain ⟨mb, h1, h2⟩ := I.mod.blt
 exact ⟨mb, h1.keeps sub, h2⟩
end
structure FV (P : Program) (w : World) (K : PySem.W.Frag) (mg : Str → Option Value) (base : Heap) (k : Nat) (f : Addr) (ps : List Str) (sp : Sp) : Prop where
 ex : ∃ fd, FnOk P w K mg base CX0 k f fd ps sp ∧ zgm K fd ps [] ∧ PySem.W.FnAt f base
section
variable {X : Cx}
def zn2 (X : Cx) (kr : Nat) (tf : TE) (t : TA) : TE := fun σ H Q => tf σ H fun x H1 => ∃ f k ps sp, x = .ref f ∧ FV X.prog X.w X.K X.mg X.base k f ps sp ∧ k ≤ kr ∧ t σ H1 fun vs H2 => sp vs H2 Q E0
theorem zlG {kr : Nat} {x : Str} {e : Expr} {es : List Expr} {tf : TE} {t : TA} {p pos : Pos} (hr : Room kr X.A) (hf : PE X (.Name x p) tf) (ha : PA X (e :: es) t)
  (he : starEach (e :: es) X.env = (false, eval e X.env) :: starEach es X.env := by rfl) (hpl : (backTo pos (starEach es X.env)).any (·.1) = false := by rfl) : PE X (.Call (.Name x p) (e :: es) [] pos) (zn2 X kr tf t) := by
 intro pins s σ H Q I h
 refine wpAny_Call_Name_kw (thn (hf pins s σ H _ I h) fun u s1 ⟨x1, H1, I1, r1, q1⟩ => ?_)
 obtain ⟨f, k, ps, sp, rfl, hF, hk, q⟩ := q1
 cases r1
 obtain ⟨fd, ok, bd, oc, od, fd2, sl, ho⟩ := hF.ex
 refine PySem.W.callWith_F ⟨oc, od, fd2, sl, I1.bk _ _ ho⟩ (thn (ha pos pins s1 σ H1 _ I1 q) fun us s2 ⟨vs, H2, I2, r, q2⟩ => ⟨⟨oc, od, fd2, sl, I2.bk _ _ ho⟩, ?_⟩) he hpl
 exact zmz ok (hr.mono hk) bd .nil zon I2 r (by rw [List.append_nil]; exact q2)
structure znQ (X : Cx) (params : Arguments) (body : Expr) (scope : Scope) (ps caps : List Str) (cap : List Nat) : Prop where
 sc : zgl scope ps caps
 frees : ∀ x, (x, NameKind.free) ∈ scope.names → (X.env.kindOf x = some .cell ∨ X.env.kindOf x = some .free)
 capAt : ∀ (j : Nat) (x : Str), caps[j]? = some x → ∃ i : Nat, cap[j]? = some i ∧ X.N[i]? = some x ∧ (X.env.kindOf x = some .cell ∨ X.env.kindOf x = some .free)
 dflt : defaultsOf params X.env = ([], [])
 binds : ∀ (cl : List (Str × Addr)) (pm cdv ct : Value) (us : List Value), us.length = ps.length → bindArgs (PySem.W.kla_fn "<lambda>" (X.env.qual ++ "<lambda>") params body scope cl pm cdv ct) ⟨us, []⟩ = pure (ps.zip us)
 own : ∀ x, X.fn x = true
theorem fv_of {pins : List (Addr × Obj)} {σ : St} {H : Hp} {s : Shared} {params : Arguments} {body : Expr} {scope : Scope} {ps caps : List Str} {cap : List Nat} {f c' : Addr} {cl : List (Str × Addr)} {pm ctv : Value} {vcs : List V} {tb : TE} {k n : Nat} (I : Inv X pins σ H s) (L : znQ X params body scope ps caps cap) (hcl : zg6 scope X.env cl)
  (ho : s.heap.get? f = some (PySem.W.kla_obj "<lambda>" (X.env.qual ++ "<lambda>") params body scope cl pm c' ctv)) (hn : H f = none) (hfr : ∀ b ∈ frs X.stack, b < n) (hge : n ≤ f)
  (hv : vcs.length = caps.length) (hvs : ∀ (j i : Nat) (v : V), cap[j]? = some i → vcs[j]? = some v → σ[i]? = some (some v))
  (hb : ∀ (base : Heap) (f : Addr) (cd : Value) (cl : List (Str × Addr)) (A : Around) (outer : List Env) (s : Shared) (H : Hp), Room k (A.deeper (PySem.W.envX (X.env.qual ++ "<lambda>") scope s.heap.objs.size f cd cl)) → PE (zmb X.prog X.w X.K X.mg base (ps ++ caps) (X.env.qual ++ "<lambda>") scope f cd cl A outer s H) body tb) :
  FV X.prog X.w X.K X.mg (zd4 X s H) (k + 1) f ps (zm3 ps.length tb vcs c' (X.env.qual ++ "<lambda>")) := by
 have nf : f ∉ frs X.stack := fun z => absurd (Nat.lt_of_lt_of_le (hfr f z) hge) (Nat.lt_irrefl _)
 have hbf := zem (X := X) ho hn nf
 have cellB : ∀ x a v, X.env.cells.lookup x = some a → s.heap.IsCell a v → (zd4 X s H).IsCell a v := fun x a v e ⟨o, h1, h2⟩ => by
  refine ⟨o, zem h1 (I.freeC x a e) fun z => ?_, h2⟩
  rcases List.mem_cons.mp (I.stkSub a z) with y | y
  ·exact I.cne x a e y
  ·obtain ⟨_, o2, h3, _⟩ := I.ok.funs.mem y
   exact absurd (Nat.lt_of_lt_of_le (Heap.lt_size h3) (I.ok.cab x a (L.own x) e)) (Nat.lt_irrefl _)
 refine ⟨_, lam_ok L.sc hbf hv (fun j x v h1 h2 => ?_) (fun x a e => ?_) (fun x y a h1 h2 => I.ok.inj x y a (hcl.sub x a h1) (hcl.sub y a h2)) (fun x e => ?_) (fun A outer s H hr => hb _ f _ cl A outer s H hr), .all (L.binds cl pm (.ref c') ctv), ⟨_, _, _, _, hbf⟩⟩
 ·obtain ⟨i, e1, e2, e3⟩ := L.capAt j x h1
  obtain ⟨m, hm, hl⟩ := I.loc
  obtain ⟨u, ru, lk⟩ := hl i x v e2 (hvs j i v e1 h2) (by
   rcases e3 with z | z
   ·exact .inr (.inl z)
   ·exact .inr (.inr z))
  rcases lk with ⟨z, _⟩ | ⟨_, a, e4, e5⟩
  ·rcases e3 with y | y
   ·rw [y] at z; cases z
   ·rw [y] at z; cases z
  ·obtain ⟨a', e6⟩ := hcl.has x (PySem.mem_of_lookup (L.sc.cap x (List.mem_of_getElem? h1)))
   have e7 := hcl.sub x a' e6
   rw [e4] at e7
   cases e7
   exact ⟨a, u, e6, cellB x a _ e4 e5, ru⟩
 ·obtain ⟨v, z⟩ := I.cell x a (hcl.sub x a e)
  exact ⟨v, cellB x a v (hcl.sub x a e) z⟩
 ·exact hcl.has x (PySem.mem_of_lookup e)
def zlx (X : Cx) (n kf : Nat) (ps : List Str) (cap : List Nat) (Pt : Addr) (lpos : Pos) (tb te : TE) (spH : Heap → Sp) : TE := fun σ H Q => te σ H fun x1 H1 => zbo H1 Pt lpos (X.env.qual ++ "<lambda>") ∧ ∃ vcs : List V, vcs.length = n ∧ (∀ (j i : Nat) (v : V), cap[j]? = some i → vcs[j]? = some v → σ[i]? = some (some v)) ∧
 ∀ (base : Heap) (f c' : Addr) (H2 : Hp), Gro Pt H1 H2 → zbo H2 Pt lpos (X.env.qual ++ "<lambda>") → zfK H2 c' (X.env.qual ++ "<lambda>") → FV X.prog X.w X.K X.mg base kf f ps (zm3 ps.length tb vcs c' (X.env.qual ++ "<lambda>")) → spH base [x1, .ref f] H2 Q E0
theorem zi0 {x q1 q2 : Str} {e1 : Expr} {params : Arguments} {body : Expr} {scope : Scope} {lpos p pos : Pos} {te tb : TE} {spH : Heap → Sp} {j k kf : Nat} {c Pt : Addr} {ps caps : List Str} {cap : List Nat}
  (F : ∀ base, FC X.prog X.w X.K X.mg base j x [q1, q2] (spH base)) (hr : Room k X.A) (h1 : PE X e1 te) (L : znQ X params body scope ps caps cap) (hcode : X.env.code = .ref c) (hC : PySem.W.codeHdIn X.K c Pt = true) (hBM : BMAt X.mg X.base)
  (hb : ∀ (base : Heap) (f : Addr) (cd : Value) (cl : List (Str × Addr)) (A : Around) (outer : List Env) (s : Shared) (H : Hp), Room kf (A.deeper (PySem.W.envX (X.env.qual ++ "<lambda>") scope s.heap.objs.size f cd cl)) → PE (zmb X.prog X.w X.K X.mg base (ps ++ caps) (X.env.qual ++ "<lambda>") scope f cd cl A outer s H) body tb)
  (hjk : j ≤ k := by decide) (hg : Gl X x := by rfl) (hdb : (x == ("__debug__" : Str)) = false := by decide) (he : starEach [e1, .Lambda params body scope lpos] X.env = (false, eval e1 X.env) :: starEach [.Lambda params body scope lpos] X.env := by rfl)
  (he2 : starEach [.Lambda params body scope lpos] X.env = [(false, eval (.Lambda params body scope lpos) X.env)] := by rfl) (hpl : (backTo pos (starEach [.Lambda params body scope lpos] X.env)).any (·.1) = false := by rfl) :
  PE X (.Call (.Name x p) [e1, .Lambda params body scope lpos] [] pos) (zlx X caps.length (kf + 1) ps cap Pt lpos tb te spH) := by
 intro pins s σ H Q I h
 obtain ⟨g, fd, _, _, kp, m, oc, od, osl, lk⟩ := (F X.base).ex
 refine wpAny_Call_Name_kw (zhs I hg m ?_ hdb)
 refine PySem.W.callWith_K (h₀ := X.base) I.ok.mod.kin kp ?_ he hpl
 rw [he]
 show wpAny _ _ (spliced ((false, eval e1 X.env) :: backTo pos (starEach [.Lambda params body scope lpos] X.env))) _ _ s
 refine Calls.spliced_cons (thn (h1 pins s σ H _ I h) fun u s1 ⟨x1, H1, I1, r1, q1⟩ => ?_)
 obtain ⟨hT, vcs, hv, hvs, q⟩ := q1
 rw [he2]
 show wpAny _ _ (spliced ((false, eval (.Lambda params body scope lpos) X.env) :: [])) _ _ s1
 refine Calls.spliced_cons (zlW I1 L.dflt L.frees hcode hC hBM hT fun f c' cl pm ctv H2 s2 hcl I2 ho hn hge hgr hT2 hca => ?_)
 refine Calls.spliced_nil ⟨I2.kIn, ?_⟩
 have hF := fv_of (k := kf) (n := s1.heap.objs.size) I2 L hcl ho hn (fun b hb => by
  obtain ⟨_, o, e, _⟩ := I1.stack.mem hb
  exact Heap.lt_size e) hge hv hvs hb
 have hsp := q (zd4 X s2 H2) f c' H2 hgr hT2 hca hF
 obtain ⟨g2, fd2, ok, bd, _, m2, _⟩ := (F (zd4 X s2 H2)).ex
 rw [m] at m2
 cases m2
 have r2 : Vals [x1, .ref f] [u, .ref f] := .cons r1 (.cons rfl .nil)
 refine wpAny_call (codeAny_mono (ok.run X.A X.stack s2 H2 ⟨[u, .ref f], []⟩ [u, .ref f] [x1, .ref f] Q E0 (hr.mono hjk) (zhR I2) (bd s2 [u, .ref f] I2.kIn rfl) r2 hsp) fun r s' hq => ?_)
 cases r with
 | error e => exact False.elim hq
 | ok fl =>
  cases fl with
  | ret u => exact I2.after hq
  | next => exact False.elim hq
  | brk => exact False.elim hq
  | cont => exact False.elim hq
end
end L2
namespace L2
open PySem PySem.Spec PyProof.Rows
theorem zkw {P : Program} {w : World} {K : PySem.W.Frag} {mg mb : Str → Option Value} {CX : CXT} {k : Nat} {fa a : Addr} {fd : FuncData} {x : Str} {sp : Sp} {s₁ : Shared} {vs : List Value} {ns : List Int} {tabs : List (Addr × Addr)}
  (KX : K.In s₁.heap) (hns : s₁.heap.Ns mainGlobals mg) (hb : s₁.heap.Ns builtinsNs mb) (hbb : ∀ x : Str, x ≠ "__name__" → mb x = bootBuiltins x) (hlim : s₁.heap.NoLimit) (hg : s₁.gens = #[]) (hBM : BMAt mg s₁.heap)
  (hT : PySem.W.TabsAt tabs s₁.heap) (hKT : ∀ q ∈ tabs, K.lookup q.2 = none)
  (ha : s₁.heap.get? a = some { cls := .type "list", data := .seq vs.toArray }) (hi : IntsAre vs ns) (hl : ns.length ≤ sizeLine) (hr : Room k callerA)
  (F : ∀ base : Heap, K.In base → base.Ns mainGlobals mg → BMAt mg base → FnOk P w K mg base CX k fa fd [x] sp) (hbind : ∀ (s : Shared) (u : Value), BindsTo s fd ⟨[u], []⟩ [(x, u)])
  (hsp : ∀ H : Hp, (∀ q ∈ tabs, H q.2 = some (.tbl #[])) → SqL K H a (ns.map V.int) → sp [.ref a] H (fun v _ => v = .bl true) fun _ _ _ => False)
  (hCX : ∀ H e s', CX [] H s₁ (fun _ _ _ => False) e s' → False) :
  codeAny (model P w) callerA (.call (.ref fa) ⟨[.ref a], []⟩) (fun r s' => r = .ok (.ret (.bool true)) ∧ OldK s₁.heap s'.heap ∧ s'.os = s₁.os ∧ AllBare s'.gens) s₁ := by
 have rv := zgo hi
 have lenV := hi.length
 have tabO : ∀ b, b ∈ tabs.map (·.2) → s₁.heap.get? b = some (PySem.W.tabObj #[]) ∧ isCodeTable s₁.heap b ∧ K.lookup b = none := fun b hm => by
  obtain ⟨q, hq, rfl⟩ := List.mem_map.mp hm
  exact ⟨(hT q hq).2, ((hT q hq).1.tab (hT q hq).2).isCodeTable, hKT q hq⟩
 have nat : a ∉ tabs.map (·.2) := fun z => by
  have := (tabO a z).1
  rw [ha] at this
  cases this
 have core : ∀ Hs : Hp, (∀ b, Hs b = none ∨ (b = a ∧ Hs b = some (.frz { cls := .type "list", data := .seq vs.toArray } (.lst (ns.map V.int))))) → (∀ H : Hp, (∀ b, b ∉ tabs.map (·.2) → H b = Hs b) → SqL K H a (ns.map V.int)) → (Hs a ≠ none → K.lookup a = none) →
   codeAny (model P w) callerA (.call (.ref fa) ⟨[.ref a], []⟩) (fun r s' => r = .ok (.ret (.bool true)) ∧ OldK s₁.heap s'.heap ∧ s'.os = s₁.os ∧ AllBare s'.gens) s₁ := by
  intro Hs hO hS hK
  obtain ⟨H, hH⟩ : ∃ H : Hp, H = fun b => if b ∈ tabs.map (·.2) then some (.tbl #[]) else Hs b := ⟨_, rfl⟩
  have H1 : ∀ b, b ∈ tabs.map (·.2) → H b = some (.tbl #[]) := fun b z => by rw [hH]; exact if_pos z
  have H2 : ∀ b, b ∉ tabs.map (·.2) → H b = Hs b := fun b z => by rw [hH]; exact if_neg z
  have cases3 : ∀ b, H b = none ∨ (b = a ∧ H b = some (.frz { cls := .type "list", data := .seq vs.toArray } (.lst (ns.map V.int)))) ∨ (b ∈ tabs.map (·.2) ∧ H b = some (.tbl #[])) := fun b => by
   by_cases z : b ∈ tabs.map (·.2)
   ·exact .inr (.inr ⟨z, H1 b z⟩)
   ·rcases hO b with y | ⟨y1, y2⟩
    ·exact .inl ((H2 b z).trans y)
    ·exact .inr (.inl ⟨y1, (H2 b z).trans y2⟩)
  have hok : HOk P w H s₁.heap := fun b u e => by
   rcases cases3 b with y | ⟨y1, y2⟩ | ⟨y1, y2⟩
   ·rw [y] at e; cases e
   ·rw [y2] at e
    cases e
    subst y1
    exact ⟨ha, by rw [List.length_map]; exact hl, vs, _, rv, ha⟩
   ·rw [y2] at e
    cases e
    exact (tabO b y1).1
  have base_of : ∀ {b : Addr} {o : Obj}, s₁.heap.get? b = some o → H b = none → (hidT s₁.heap H).get? b = some o := fun e n => zl4 e n
  have noD : ∀ {b : Addr} {o : Obj}, s₁.heap.get? b = some o → (∀ xs n, o.data ≠ .seq xs n) → (∀ xs, o.data ≠ .fields xs) → H b = none := fun {b o} e d1 d2 => by
   rcases cases3 b with y | ⟨y1, y2⟩ | ⟨y1, y2⟩
   ·exact y
   ·subst y1
    rw [ha] at e
    cases e
    exact absurd rfl (d1 _ _)
   ·rw [(tabO b y1).1] at e
    cases e
    exact absurd rfl (d2 _)
  have nsK : ∀ {b : Addr} {m : Str → Option Value}, s₁.heap.Ns b m → (hidT s₁.heap H).Ns b m := fun {b m} ⟨o, es, ep, e, d, r⟩ => ⟨o, es, ep, base_of e (noD e (fun _ _ z => by rw [d] at z; cases z) (fun _ z => by rw [d] at z; cases z)), d, r⟩
  have hKb : K.In (hidT s₁.heap H) := fun b o e => base_of (KX b o e) (by
   rcases cases3 b with y | ⟨y1, y2⟩ | ⟨y1, y2⟩
   ·exact y
   ·subst y1
    rw [hK (by rw [← H2 b nat, y2]; exact fun z => nomatch z)] at e
    cases e
   ·rw [(tabO b y1).2.2] at e
    cases e)
  have hM : Mod K mg (hidT s₁.heap H) := ⟨hKb, nsK hns, ⟨mb, nsK hb, hbb⟩, let ⟨mc, h1, h2⟩ := hlim; ⟨mc, nsK h1, h2⟩⟩
  have hBMb : BMAt mg (hidT s₁.heap H) := by
   obtain ⟨bm, o, b1, b2, b3, b4, b5, b6, b7⟩ := hBM
   exact ⟨bm, o, b1, b2, b3, base_of b4 (noD b4 (fun _ _ z => by rw [b7] at z; cases z) (fun _ z => by rw [b7] at z; cases z)), b5, b6, b7⟩
  have e0 : Env0 P w K mg (hidT s₁.heap H) callerA [] s₁ H := ⟨rfl, hM, fun b o e => znl e, Nat.le_of_eq (zkK _ _), trivial, fun b hb => absurd (show b ∈ ([] : List Addr) from hb) (by simp), hok, .of_eq hg⟩
  refine codeAny_mono ((F _ hKb (nsK hns) hBMb).run callerA [] s₁ H ⟨[.ref a], []⟩ [.ref a] [.ref a] _ _ hr e0 (hbind s₁ (.ref a)) (.cons rfl .nil) (hsp H (fun q hq => H1 _ (List.mem_map_of_mem hq)) (hS H H2))) fun r s' h => ?_
  cases r with
  | error e => exact (hCX H e s' h).elim
  | ok fl =>
   cases fl with
   | next => exact False.elim h
   | brk => exact False.elim h
   | cont => exact False.elim h
   | ret u =>
    obtain ⟨v, H', os, bare, un, hok', r', q⟩ := h
    have q' : v = .bl true := q
    subst q'
    obtain rfl : u = Value.bool true := r'
    have keep : ∀ b o, H b = none → s₁.heap.get? b = some o → s'.heap.get? b = some o := fun b o n e => un.keep b o e n (by intro z; exact absurd (show b ∈ ([] : List Addr) from z) (by simp)) (by simp)
    have frz : ∀ b o, b = a → H b = some (.frz { cls := .type "list", data := .seq vs.toArray } (.lst (ns.map V.int))) → s₁.heap.get? b = some o → s'.heap.get? b = some o := fun b o y1 y2 e => by
     obtain ⟨e1, _⟩ := hok b _ y2
     obtain ⟨e2, _⟩ := hok' b _ (un.frzs b _ _ y2)
     rw [e] at e1
     cases e1
     exact e2
    have tbl : ∀ b, H b = some (.tbl #[]) → ∃ ps, s'.heap.get? b = some (PySem.W.tabObj ps) := fun b y => by
     obtain ⟨more, e⟩ := un.tbls b _ y
     exact ⟨_, hok' b _ e⟩
    refine ⟨rfl, ⟨fun b o e => ?_, fun b o e => ?_⟩, os, bare⟩
    ·rcases cases3 b with y | ⟨y1, y2⟩ | ⟨y1, y2⟩
     ·exact .inl (keep b o y e)
     ·exact .inl (frz b o y1 y2 e)
     ·obtain ⟨ps, hp⟩ := tbl b y2
      obtain ⟨t1, t2, _⟩ := tabO b y1
      rw [e] at t1
      cases t1
      exact .inr (.inl ⟨t2, rfl, #[], ps, rfl, by rw [Array.empty_append]; exact hp⟩)
    ·rcases cases3 b with y | ⟨y1, y2⟩ | ⟨y1, y2⟩
     ·exact ⟨o, keep b o y e⟩
     ·exact ⟨o, frz b o y1 y2 e⟩
     ·obtain ⟨ps, hp⟩ := tbl b y2
      exact ⟨_, hp⟩
 cases hk : K.lookup a with
 | some o =>
  have e := KX a o hk
  rw [ha] at e
  cases e
  exact core (fun _ => none) (fun _ => .inl rfl) (fun H _ => .inr ⟨_, vs.toArray, _, hk, rfl, rfl, rfl, by rw [List.size_toArray, lenV]; exact hl, by simpa using rv⟩) fun z => absurd rfl z
 | none =>
  refine core (fun b => if b = a then some (.frz { cls := .type "list", data := .seq vs.toArray } (.lst (ns.map V.int))) else none) (fun b => ?_) (fun H h => .inl (.inr ⟨{ cls := .type "list", data := .seq vs.toArray }, by rw [h a nat]; exact if_pos rfl⟩)) fun _ => hk
  by_cases z : b = a
  ·exact .inr ⟨z, if_pos z⟩
  ·exact .inl (if_neg z)
theorem zlr {l : PySem.W.OpenLaw} {n k : Nat} {q : Program} {loose : List Str} {XP : (Str → Option Value) → Heap → Prop} {YP : World → Heap → Prop} {d : DefRec} {K : Params → PySem.W.Frag} {sp : World → Sp} {x : Str} {tabs : List (Addr × Addr)}
  (hn : l.most = some n) (hn2 : n ≤ sizeLine) (hdf : d.params.defaults = []) (hr : Room k callerA)
  (hY : ∀ (w : World) (h : Heap), YP w h → (K w.params).In h) (hYT : ∀ (w : World) (h : Heap), YP w h → ∀ q ∈ tabs, h.get? q.2 = some (PySem.W.tabObj #[]))
  (hC : ∀ (w : World), ∀ q ∈ tabs, PySem.W.codeHdIn (K w.params) q.1 q.2 = true ∧ (K w.params).lookup q.2 = none)
  (F : ∀ (w : World) (mg : Str → Option Value) (fa : Addr) (h : Heap), (K w.params).In h → h.Ns mainGlobals mg → mg d.name = some (.ref fa) →
   ∃ fd : FuncData, (∀ (s : Shared) (u : Value), BindsTo s fd ⟨[u], []⟩ [(x, u)]) ∧
    ∀ base : Heap, (K w.params).In base → base.Ns mainGlobals mg → BMAt mg base → FnOk l.prog w (K w.params) mg base CX0 k fa fd [x] (sp w))
  (hsp : ∀ (w : World) (H : Hp) (a : Addr) (ns : List Int), ns.length ≤ n → (∀ q ∈ tabs, H q.2 = some (.tbl #[])) → SqL (K w.params) H a (ns.map V.int) → sp w [.ref a] H (fun v _ => v = .bl true) fun _ _ _ => False) :
  PySem.W.WalkO q loose XP YP l.row.toRowW d [] (fun f vs => PySem.call f vs) := by
 refine Att.attach_call hn hdf fun w s₀ s₁ mg mb fa o pm cd doc a vs ns G Y ho hd hcd hmg hobj hints hlen hg => ?_
 have KX := hY w _ Y
 obtain ⟨fd, hb, hF⟩ := F w mg fa _ KX G.T.g hmg
 have hBM : BMAt mg s₁.heap := by
  obtain ⟨bm, ob, b1, b2, b3, b4, b5, b6⟩ := G.T.bmain
  refine ⟨bm, ob, b1, b2, fun z => ?_, b3, b4, b5, b6⟩
  obtain ⟨o, es, ep, e, hd, _⟩ := G.T.g
  rw [z, e] at b3
  cases b3
  rw [hd] at b6
  cases b6
 exact zkw (tabs := tabs) KX G.T.g G.T.b G.T.builtins G.T.nolimit hg hBM (fun q hq => ⟨PySem.W.codeHd_of_K KX (hC w q hq).1, hYT w _ Y q hq⟩) (fun q hq => (hC w q hq).2) hobj hints (Nat.le_trans hlen hn2) hr hF hb (fun H hO hS => hsp w H a ns hlen hO hS) fun H e s' z => z
structure DFT (K : PySem.W.Frag) (mg : Str → Option Value) (x : Str) (st : Stmt) (ps : List Str) (c Pt : Addr) : Prop where
 ex : ∃ (f : Addr) (oc : Value) (od : Option Addr) (kV dc pm : Value) (an : Option Addr) (ct : Value) (osl : Array (Option Value)), K.lookup f = some ⟨oc, od, .func (PySem.W.fnOf x x (zap st) (zan st) (zad st) .none kV dc pm an (.ref c) ct), osl⟩ ∧
  PySem.W.codeIn K (.ref c) x = true ∧ PySem.W.keepIn K (.ref f) = true ∧ mg x = some (.ref f) ∧ zgm K (PySem.W.fnOf x x (zap st) (zan st) (zad st) .none kV dc pm an (.ref c) ct) ps []
 hd : PySem.W.codeHdIn K c Pt = true
theorem DFT.ok {P : Program} {w : World} {K : PySem.W.Frag} {mg : Str → Option Value} {base : Heap} {x : Str} {st : Stmt} {N ps : List Str} {k : Nat} {sp : Sp} {c Pt : Addr} (D : DFT K mg x st ps c Pt) (S : zar N ps (zad st)) (len : ∀ vs H Q E, sp vs H Q E → vs.length = ps.length)
  (hbody : ∀ (f : Addr) (A : Around) (outer : List Env) (s : Shared) (H : Hp) (vs : List V) (Q : VK) (E : XK), Room k (A.deeper (envOfC x (zad st) s.heap.objs.size f (.ref c))) → sp vs H Q E →
   ∃ t, PSs (cxOf CX0 P w K mg base N x (zad st) f (.ref c) A outer s H E).nox (zan st) t ∧ t { nx := fun _ H' => Q .non H', rt := Q } (zcC N vs) H) : FC P w K mg base (k + 1) x ps sp := by
 obtain ⟨f, oc, od, kV, dc, pm, an, ct, osl, lk, hcd, kp, m, bd⟩ := D.ex
 refine ⟨f, _, fn_of lk hcd S len fun A outer s H vs Q E hr hsp => ?_, bd, kp, m, oc, od, osl, lk⟩
 obtain ⟨t, h, q⟩ := hbody f A outer s H vs Q E hr hsp
 exact ⟨t, h.nox, q⟩
theorem zlw {K : PySem.W.Frag} {x : Str} {c Pt f : Addr} {oc : Value} {od : Option Addr} {fd : FuncData} {sl : Array (Option Value)} (a : PySem.W.nsIn K mainGlobals x = some (some (.ref f))) (l : K.lookup f = some ⟨oc, od, .func fd, sl⟩) (t : PySem.W.tabIn K x = some (c, Pt)) : fd.code = .ref c := by
 unfold PySem.W.tabIn at t
 rw [a] at t
 dsimp only at t
 rw [l] at t
 dsimp only at t
 split at t
 ·rename_i c2 hc
  split at t
  ·split at t
   ·cases t
    exact hc
   ·cases t
  ·cases t
 ·cases t
end L2
namespace L2
open PySem PySem.Spec PyProof.Rows
theorem lam_mk {X : Cx} {params : Arguments} {body : Expr} {scope osc : Scope} {N ps caps : List Str} {cap : List Nat} (sc : zgl scope ps caps)
  (h1 : ∀ p ∈ scope.names, p.2 = NameKind.free → osc.names.lookup p.1 = some NameKind.cell) (h2 : ∀ p ∈ caps.zip cap, N[p.2]? = some p.1 ∧ osc.names.lookup p.1 = some NameKind.cell) (hl : caps.length = cap.length)
  (ho : X.env.scope = osc) (hN : X.N = N) (d : defaultsOf params X.env = ([], []))
  (b : ∀ (cl : List (Str × Addr)) (pm cdv ct : Value) (us : List Value), us.length = ps.length → bindArgs (PySem.W.kla_fn "<lambda>" (X.env.qual ++ "<lambda>") params body scope cl pm cdv ct) ⟨us, []⟩ = pure (ps.zip us))
  (o : ∀ x, X.fn x = true) : znQ X params body scope ps caps cap := by
 have hk : ∀ x, X.env.kindOf x = osc.names.lookup x := fun x => by
  unfold Env.kindOf
  rw [ho]
 refine ⟨sc, fun x hx => .inl ?_, fun j x hj => ?_, d, b, o⟩
 ·rw [hk]
  exact h1 (x, .free) hx rfl
 ·have hj' := (List.getElem?_eq_some_iff.mp hj).1
  have hc : cap[j]? = some (cap[j]'(by omega)) := List.getElem?_eq_getElem _
  have hz : (caps.zip cap)[j]? = some (x, cap[j]'(by omega)) := by
   rw [List.getElem?_zip_eq_some]
   exact ⟨hj, hc⟩
  obtain ⟨a1, a2⟩ := h2 _ (List.mem_of_getElem? hz)
  refine ⟨_, hc, ?_, .inl ?_⟩
  ·rw [hN]
   exact a1
  ·rw [hk]
   exact a2
end L2
set_option maxHeartbeats 4000000
namespace My
open PySem PySem.Spec PyProof.Rows L2
local macro_rules | `(tactic| walk_at "side") => `(tactic| first | omega | (dsimp only; omega) | (simp only [CDiv, CDivB, CPow, CMul]; omega) | decide)
local macro_rules | `(tactic| walk_at "rd") => `(tactic| repeat (first | (refine ⟨_, rfl, ?_⟩) | (refine ⟨_, _, rfl, rfl, ?_⟩) | (refine ⟨rfl, ?_⟩) | (refine ⟨(by walk_at "side"), ?_⟩)))
def top (i : Nat) : Stmt := PySem.Challenge.pw_bridgefind_k31_whole_places_lie_near_the.main.body.getD i (.Pass ⟨0, 0, 0, 0⟩)
abbrev zdQ : Stmt := top 2
abbrev zay : Stmt := top 3
abbrev za8 : Stmt := top 4
abbrev za3 : Stmt := top 5
abbrev zaB : Stmt := top 8
abbrev zbW : Stmt := top 9
abbrev zbX : Stmt := top 10
abbrev zaR : Stmt := top 12
abbrev zaS : Stmt := top 13
abbrev zbC : Stmt := top 14
abbrev zcT : Stmt := top 15
abbrev zb2 : Stmt := top 16
abbrev zbg : Stmt := top 18
abbrev zbE : Stmt := top 19
abbrev zaI : Stmt := top 21
abbrev zao : Stmt := top 22
abbrev za4 : Stmt := top 23
abbrev zbx : Stmt := top 25
abbrev za2 : Stmt := top 26
abbrev zaT : Stmt := top 27
abbrev zbD : Stmt := top 28
abbrev zbB : Stmt := top 30
abbrev zbA : Stmt := top 31
abbrev zbZ : Stmt := top 32
abbrev zcV : Stmt := top 33
abbrev zbY : Stmt := top 34
abbrev zcU : Stmt := top 35
abbrev zb0 : Stmt := top 36
abbrev zbz : Stmt := top 37
abbrev zby : Stmt := top 38
abbrev zb1 : Stmt := top 39
abbrev zew : Stmt := top 40
theorem sc_code : zar ["entry", "key", "z"] ["entry"] (zad zdQ) := ⟨rfl, rfl, rfl, by decide +kernel, rfl, by decide +kernel, by decide +kernel⟩
theorem sc_how_many_below : zar ["length", "is_below", "low", "high", "middle"] ["length", "is_below"] (zad zay) := ⟨rfl, rfl, rfl, by decide +kernel, rfl, by decide +kernel, by decide +kernel⟩
theorem sc_place_in : zar ["entries", "key"] ["entries", "key"] (zad za8) := ⟨rfl, rfl, rfl, by decide +kernel, rfl, by decide +kernel, by decide +kernel⟩
theorem sc_joined_up : zar ["lists", "together", "entries"] ["lists"] (zad za3) := ⟨rfl, rfl, rfl, by decide +kernel, rfl, by decide +kernel, by decide +kernel⟩
theorem sc_lowest_unlike : zar ["one", "other", "unlike"] ["one", "other"] (zad zaB) := ⟨rfl, rfl, rfl, by decide +kernel, rfl, by decide +kernel, by decide +kernel⟩
theorem sc_turned : zar ["numbers", "told", "at", "number", "figure"] ["numbers"] (zad zbW) := ⟨rfl, rfl, rfl, by decide +kernel, rfl, by decide +kernel, by decide +kernel⟩
theorem sc_labels : zar ["entries", "numbers", "turn"] ["entries"] (zad zbX) := ⟨rfl, rfl, rfl, by decide +kernel, rfl, by decide +kernel, by decide +kernel⟩
theorem sc_neighbours : zar ["things", "at"] ["things", "at"] (zad zaR) := ⟨rfl, rfl, rfl, by decide +kernel, rfl, by decide +kernel, by decide +kernel⟩
theorem sc_least_free : zar ["taken"] ["taken"] (zad zaS) := ⟨rfl, rfl, rfl, by decide +kernel, rfl, by decide +kernel, by decide +kernel⟩
theorem sc_colours : zar ["numbers", "told", "label", "at"] ["numbers"] (zad zbC) := ⟨rfl, rfl, rfl, by decide +kernel, rfl, by decide +kernel, by decide +kernel⟩
theorem sc_marks : zar ["entries", "tints", "told", "colour", "at"] ["entries"] (zad zcT) := ⟨rfl, rfl, rfl, by decide +kernel, rfl, by decide +kernel, by decide +kernel⟩
theorem sc_handed : zar ["entries"] ["entries"] (zad zb2) := ⟨rfl, rfl, rfl, by decide +kernel, rfl, by decide +kernel, by decide +kernel⟩
theorem sc_children : zar ["tree", "knot"] ["tree", "knot"] (zad zbg) := ⟨rfl, rfl, rfl, by decide +kernel, rfl, by decide +kernel, by decide +kernel⟩
theorem sc_beneath : zar ["tree", "knot", "told", "other"] ["tree", "knot"] (zad zbE) := ⟨rfl, rfl, rfl, by decide +kernel, rfl, by decide +kernel, by decide +kernel⟩
theorem sc_own_entries : zar ["stand", "knot"] ["stand", "knot"] (zad zaI) := ⟨rfl, rfl, rfl, by decide +kernel, rfl, by decide +kernel, by decide +kernel⟩
theorem sc_full_rows_beneath : zar ["stand", "knot", "tree", "told", "at", "parts"] ["stand", "knot"] (zad zao) := ⟨rfl, rfl, rfl, by decide +kernel, rfl, by decide +kernel, by decide +kernel⟩
theorem sc_full_rows : zar ["stand", "told"] ["stand"] (zad za4) := ⟨rfl, rfl, rfl, by decide +kernel, rfl, by decide +kernel, by decide +kernel⟩
theorem sc_owns_of : zar ["full", "knot", "told", "entry"] ["full", "knot"] (zad zbx) := ⟨rfl, rfl, rfl, by decide +kernel, rfl, by decide +kernel, by decide +kernel⟩
theorem sc_starts_of : zar ["full", "child_full", "behind", "at", "entry", "told"] ["full", "child_full"] (zad za2) := ⟨rfl, rfl, rfl, by decide +kernel, rfl, by decide +kernel, by decide +kernel⟩
theorem sc_bridges_of : zar ["tree", "fulls", "told", "knot", "full", "jumps"] ["tree", "fulls"] (zad zaT) := ⟨rfl, rfl, rfl, by decide +kernel, rfl, by decide +kernel, by decide +kernel⟩
theorem sc_bridges : zar ["stand"] ["stand"] (zad zbD) := ⟨rfl, rfl, rfl, by decide +kernel, rfl, by decide +kernel, by decide +kernel⟩
theorem sc_l_begin : zar ["_law_script"] ["_law_script"] (zad zbB) := ⟨rfl, rfl, rfl, by decide +kernel, rfl, by decide +kernel, by decide +kernel⟩
theorem sc_l_mixed : zar ["_law_cell", "_law_k", "_law_one", "_law_two"] ["_law_cell", "_law_k"] (zad zbA) := ⟨rfl, rfl, rfl, by decide +kernel, rfl, by decide +kernel, by decide +kernel⟩
theorem sc_l_take : zar ["_law_state", "_law_most", "_law_k", "_law_script", "_law_cell", "_law_found"] ["_law_state", "_law_most"] (zad zbZ) := ⟨rfl, rfl, rfl, by decide +kernel, rfl, by decide +kernel, by decide +kernel⟩
theorem sc_l_key : zar ["_law_state", "_law_way"] ["_law_state"] (zad zcV) := ⟨rfl, rfl, rfl, by decide +kernel, rfl, by decide +kernel, by decide +kernel⟩
theorem sc_l_tree : zar ["_law_state", "_law_most", "_law_way", "_law_parents", "_law_k"] ["_law_state", "_law_most"] (zad zbY) := ⟨rfl, rfl, rfl, by decide +kernel, rfl, by decide +kernel, by decide +kernel⟩
theorem sc_l_row : zar ["_law_state", "_law_most", "_law_found", "_law_k"] ["_law_state", "_law_most"] (zad zcU) := ⟨rfl, rfl, rfl, by decide +kernel, rfl, by decide +kernel, by decide +kernel⟩
theorem sc_l_rows : zar ["_law_state", "_law_many", "_law_most", "_law_rows_here", "_law_k", "_law_row_here"] ["_law_state", "_law_many", "_law_most"] (zad zb0) := ⟨rfl, rfl, rfl, by decide +kernel, rfl, by decide +kernel, by decide +kernel⟩
theorem sc_l_stand : zar ["_law_state", "_law_most", "_law_keys", "_law_tree_here"] ["_law_state", "_law_most", "_law_keys"] (zad zbz) := ⟨rfl, rfl, rfl, by decide +kernel, rfl, by decide +kernel, by decide +kernel⟩
theorem sc_l_start : zar ["_law_bridged", "_law_parent", "_law_child", "_law_spot"] ["_law_bridged", "_law_parent", "_law_child", "_law_spot"] (zad zby) := ⟨rfl, rfl, rfl, by decide +kernel, rfl, by decide +kernel, by decide +kernel⟩
theorem sc_l_near : zar ["_law_bridged", "_law_fulls", "_law_passed", "_law_up", "_law_knot", "_law_key_here", "_law_upper", "_law_start_here", "_law_here", "_law_entry"] ["_law_bridged", "_law_fulls", "_law_passed", "_law_up", "_law_knot", "_law_key_here"] (zad zb1) := ⟨rfl, rfl, rfl, by decide +kernel, rfl, by decide +kernel, by decide +kernel⟩
theorem sc_law : zar ["_law_script", "_law_state", "_law_stand_here", "_law_tree_here", "_law_rows_here", "_law_fulls", "_law_passed", "_law_bridged", "_law_keys", "_law_row_here", "_law_key_here", "_law_knot"] ["_law_script"] (zad zew) := ⟨rfl, rfl, rfl, by decide +kernel, rfl, by decide +kernel, by decide +kernel⟩
abbrev zec : List Str := ["entry"]
abbrev zaL : List Str := ["length", "is_below"]
abbrev zbL : List Str := ["entries", "key"]
abbrev zbt : List Str := ["lists"]
abbrev zaP : List Str := ["one", "other"]
abbrev zcD : List Str := ["numbers"]
abbrev zcE : List Str := ["entries"]
abbrev za6 : List Str := ["things", "at"]
abbrev zbh : List Str := ["taken"]
abbrev zcd : List Str := ["numbers"]
abbrev zdj : List Str := ["entries"]
abbrev zch : List Str := ["entries"]
abbrev zbr : List Str := ["tree", "knot"]
abbrev zcf : List Str := ["tree", "knot"]
abbrev zba : List Str := ["stand", "knot"]
abbrev zaE : List Str := ["stand", "knot"]
abbrev zbe : List Str := ["stand"]
abbrev zb8 : List Str := ["full", "knot"]
abbrev zbs : List Str := ["full", "child_full"]
abbrev zbi : List Str := ["tree", "fulls"]
abbrev zce : List Str := ["stand"]
abbrev zcc : List Str := ["_law_script"]
abbrev zcb : List Str := ["_law_cell", "_law_k"]
abbrev zbG : List Str := ["_law_state", "_law_most"]
abbrev zdl : List Str := ["_law_state"]
abbrev zcF : List Str := ["_law_state", "_law_most"]
abbrev zdk : List Str := ["_law_state", "_law_most"]
abbrev zcG : List Str := ["_law_state", "_law_many", "_law_most"]
abbrev zca : List Str := ["_law_state", "_law_most", "_law_keys"]
abbrev zb9 : List Str := ["_law_bridged", "_law_parent", "_law_child", "_law_spot"]
abbrev zcH : List Str := ["_law_bridged", "_law_fulls", "_law_passed", "_law_up", "_law_knot", "_law_key_here"]
abbrev zfs : List Str := ["_law_script"]
structure Txt (K : PySem.W.Frag) (mg : Str → Option Value) : Prop where
 m_abs : mg "abs" = none
 m_dict : mg "dict" = none
 m_enumerate : mg "enumerate" = none
 m_len : mg "len" = none
 m_list : mg "list" = none
 m_max : mg "max" = none
 m_min : mg "min" = none
 m_range : mg "range" = none
 m_reversed : mg "reversed" = none
 m_set : mg "set" = none
 m_sorted : mg "sorted" = none
 m_tuple : mg "tuple" = none
 m_zip : mg "zip" = none
 g_KNOT_NUMBERS : ∃ t, mg "KNOT_NUMBERS" = some (.int 64 t)
 g_TURNS : ∃ t, mg "TURNS" = some (.int 5 t)
theorem zht (m n i j : Nat) (hi : i < 2) (hj : j < 2) : (2*m+i) &&& (2*n+j) = 2*(m &&& n) + (i &&& j) := by
 apply Nat.eq_of_testBit_eq
 intro k
 cases k with
 | zero =>
  have h1 : i = 0 ∨ i = 1 := by omega
  have h2 : j = 0 ∨ j = 1 := by omega
  rcases h1 with rfl | rfl <;> rcases h2 with rfl | rfl <;> simp [Nat.testBit_zero] <;> omega
 | succ k =>
  have h1 : i = 0 ∨ i = 1 := by omega
  have h2 : j = 0 ∨ j = 1 := by omega
  have e1 : (2*m+i)/2 = m := by omega
  have e2 : (2*n+j)/2 = n := by omega
  have e3 : (2*(m &&& n) + (i &&& j))/2 = m &&& n := by
   rcases h1 with rfl | rfl <;> rcases h2 with rfl | rfl <;> simp <;> omega
  rw [Nat.testBit_and, Nat.testBit_succ, Nat.testBit_succ, Nat.testBit_succ, e1, e2, e3, Nat.testBit_and]
theorem lor_tt (m n i j : Nat) (hi : i < 2) (hj : j < 2) : (2*m+i) ||| (2*n+j) = 2*(m ||| n) + (i ||| j) := by
 apply Nat.eq_of_testBit_eq
 intro k
 cases k with
 | zero =>
  have h1 : i = 0 ∨ i = 1 := by omega
  have h2 : j = 0 ∨ j = 1 := by omega
  rcases h1 with rfl | rfl <;> rcases h2 with rfl | rfl <;> simp [Nat.testBit_zero] <;> omega
 | succ k =>
  have h1 : i = 0 ∨ i = 1 := by omega
  have h2 : j = 0 ∨ j = 1 := by omega
  have e1 : (2*m+i)/2 = m := by omega
  have e2 : (2*n+j)/2 = n := by omega
  have e3 : (2*(m ||| n) + (i ||| j))/2 = m ||| n := by
   rcases h1 with rfl | rfl <;> rcases h2 with rfl | rfl <;> simp <;> omega
  rw [Nat.testBit_or, Nat.testBit_succ, Nat.testBit_succ, Nat.testBit_succ, e1, e2, e3, Nat.testBit_or]
def lu (a b : Nat) : Nat := if a = b then 0 else if a % 2 = b % 2 then lu (a / 2) (b / 2) + 1 else 0
termination_by a + b
decreasing_by omega
theorem zhr {a b : Nat} (hab : a ≠ b) (h : a % 2 = b % 2) : lu a b = lu (a / 2) (b / 2) + 1 := by
 rw [lu, if_neg hab, if_pos h]
theorem zkv {a b : Nat} (h : a % 2 ≠ b % 2) : lu a b = 0 := by
 rw [lu]; split
 ·rfl
 ·rfl
def xr (a b : Nat) : Nat := (a ||| b) - (a &&& b)
def zeu (n : Nat) : Nat := n - (n &&& (n - 1))
theorem zg5 (a b : Nat) : a &&& b ≤ a ||| b := Nat.le_trans Nat.and_le_left Nat.left_le_or
theorem xr_tt (m n i j : Nat) (hi : i < 2) (hj : j < 2) : xr (2*m+i) (2*n+j) = 2 * xr m n + (if i = j then 0 else 1) := by
 unfold xr
 rw [lor_tt m n i j hi hj, zht m n i j hi hj]
 have q := zg5 m n
 have h1 : i = 0 ∨ i = 1 := by omega
 have h2 : j = 0 ∨ j = 1 := by omega
 rcases h1 with rfl | rfl <;> rcases h2 with rfl | rfl <;> simp <;> omega
theorem zjy (a b : Nat) : xr a b = 2 * xr (a / 2) (b / 2) + (if a % 2 = b % 2 then 0 else 1) := by
 have e1 : 2 * (a / 2) + a % 2 = a := by omega
 have e2 : 2 * (b / 2) + b % 2 = b := by omega
 have q := xr_tt (a / 2) (b / 2) (a % 2) (b % 2) (by omega) (by omega)
 rw [e1, e2] at q
 exact q
theorem zmj : ∀ (n a b : Nat), a + b ≤ n → a ≠ b → 0 < xr a b := by
 intro n
 induction n with
 | zero => intro a b h1 h2; omega
 | succ n ih =>
  intro a b h1 h2
  rw [zjy]
  by_cases h : a % 2 = b % 2
  ·have := ih (a / 2) (b / 2) (by omega) (by omega)
   omega
  ·rw [if_neg h]; omega
theorem znq (m : Nat) : zeu (2 * m + 1) = 1 := by
 unfold zeu
 have q := zht m m 1 0 (by omega) (by omega)
 have e : 2 * m + 1 - 1 = 2 * m + 0 := by omega
 rw [e, q]
 simp
theorem zlV (m : Nat) (h : 0 < m) : zeu (2 * m) = 2 * zeu m := by
 unfold zeu
 have q := zht m (m - 1) 0 1 (by omega) (by omega)
 have e : 2 * m - 1 = 2 * (m - 1) + 1 := by omega
 have e' : 2 * m = 2 * m + 0 := by omega
 rw [e]
 have : (2 * m &&& 2 * (m - 1) + 1) = 2 * (m &&& m - 1) + (0 &&& 1) := q
 rw [this]
 have z : m &&& (m - 1) ≤ m := Nat.and_le_left
 simp
 omega
theorem zoF : ∀ (n a b : Nat), a + b ≤ n → a ≠ b → zeu (xr a b) = 2 ^ lu a b := by
 intro n
 induction n with
 | zero => intro a b h1 h2; omega
 | succ n ih =>
  intro a b h1 h2
  rw [zjy]
  by_cases h : a % 2 = b % 2
  ·rw [if_pos h, zhr h2 h, Nat.add_zero, zlV _ (zmj n _ _ (by omega) (by omega)), ih _ _ (by omega) (by omega), Nat.pow_succ]
   omega
  ·rw [if_neg h, zkv h, znq, Nat.pow_zero]
theorem znp : ∀ (n a b : Nat), a + b ≤ n → a ≠ b → a % 2 ^ lu a b = b % 2 ^ lu a b ∧ a % 2 ^ (lu a b + 1) ≠ b % 2 ^ (lu a b + 1) := by
 intro n
 induction n with
 | zero => intro a b h1 h2; omega
 | succ n ih =>
  intro a b h1 h2
  by_cases h : a % 2 = b % 2
  ·rw [zhr h2 h]
   obtain ⟨q1, q2⟩ := ih (a / 2) (b / 2) (by omega) (by omega)
   have s : ∀ x k : Nat, x % 2 ^ (k + 1) = 2 * (x / 2 % 2 ^ k) + x % 2 := by
    intro x k
    rw [Nat.pow_succ, Nat.mul_comm, Nat.mod_mul]
    omega
   rw [s a, s b, s a, s b]
   constructor
   ·omega
   ·omega
  ·rw [zkv h]
   simp [Nat.mod_one]
   omega
theorem lu_lt : ∀ (k a b : Nat), a ≠ b → a < 2 ^ k → b < 2 ^ k → lu a b < k := by
 intro k
 induction k with
 | zero => intro a b h1 h2 h3; simp at h2 h3; omega
 | succ k ih =>
  intro a b h1 h2 h3
  by_cases h : a % 2 = b % 2
  ·rw [zhr h1 h]
   have := ih (a / 2) (b / 2) (by omega) (by rw [Nat.pow_succ] at h2; omega) (by rw [Nat.pow_succ] at h3; omega)
   omega
  ·rw [zkv h]; omega
def fig (a b : Nat) : Nat := 2 * lu a b + b / 2 ^ lu a b % 2
theorem zgg (a b : Nat) : fig a b / 2 = lu a b := by
 unfold fig
 have := Nat.mod_lt (b / 2 ^ lu a b) (by decide : 0 < 2)
 omega
theorem zhG (a b : Nat) : fig a b % 2 = b / 2 ^ lu a b % 2 := by
 unfold fig
 have := Nat.mod_lt (b / 2 ^ lu a b) (by decide : 0 < 2)
 omega
theorem zer (x k : Nat) : x % 2 ^ (k + 1) = x % 2 ^ k + 2 ^ k * (x / 2 ^ k % 2) := by
 rw [Nat.pow_succ, Nat.mod_mul]
theorem zmK {a b : Nat} (h : a ≠ b) : a / 2 ^ lu a b % 2 ≠ b / 2 ^ lu a b % 2 := by
 obtain ⟨h1, h2⟩ := znp _ a b (Nat.le_refl _) h
 intro e
 apply h2
 rw [zer, zer, h1, e]
theorem fig_ne {a b c : Nat} (h2 : b ≠ c) : fig a b ≠ fig b c := by
 intro e
 have e1 : lu a b = lu b c := by rw [← zgg, e, zgg]
 have e2 : b / 2 ^ lu a b % 2 = c / 2 ^ lu b c % 2 := by rw [← zhG, e, zhG]
 rw [e1] at e2
 exact zmK h2 e2
theorem znF {a b : Nat} (h : a ≠ b) : a % 2 ≠ fig a b := by
 intro e
 have l : a % 2 < 2 := Nat.mod_lt _ (by decide)
 have e1 : lu a b = 0 := by
  have := zgg a b
  omega
 have e2 := zhG a b
 have e3 := zmK h
 rw [e1] at e2 e3
 simp at e2 e3
 omega
theorem fig_lt {a b k : Nat} (h : a ≠ b) (ha : a < 2 ^ k) (hb : b < 2 ^ k) : fig a b < 2 * k := by
 have := lu_lt k a b h ha hb
 have := Nat.mod_lt (b / 2 ^ lu a b) (by decide : 0 < 2)
 unfold fig
 omega
def zdz (xs : List Nat) (i : Nat) : Nat := if i = 0 then xs.getD 0 0 % 2 else fig (xs.getD (i - 1) 0) (xs.getD i 0)
def zcx (xs : List Nat) : List Nat := (List.range xs.length).map (zdz xs)
theorem zbd (xs : List Nat) : (zcx xs).length = xs.length := by unfold zcx; rw [List.length_map, List.length_range]
theorem zeF {xs : List Nat} {i : Nat} (h : i < xs.length) : (zcx xs)[i]? = some (zdz xs i) := by
 unfold zcx
 rw [List.getElem?_map, List.getElem?_range h]
 rfl
theorem zd8 {xs : List Nat} {i : Nat} (h : i < xs.length) : (zcx xs).getD i 0 = zdz xs i := by
 rw [List.getD_eq_getElem?_getD, zeF h]; rfl
theorem ziU {xs : List Nat} {i : Nat} (h : i < xs.length) : (zcx xs).take (i + 1) = (zcx xs).take i ++ [zdz xs i] := by
 have h' : i < (zcx xs).length := by rw [zbd]; exact h
 rw [List.take_succ_eq_append_getElem h']
 have := zeF h
 rw [List.getElem?_eq_getElem h'] at this
 rw [Option.some.inj this]
def Unl (xs : List Nat) : Prop := ∀ i, i + 1 < xs.length → xs.getD i 0 ≠ xs.getD (i + 1) 0
theorem zjK {xs : List Nat} (h : Unl xs) : Unl (zcx xs) := by
 intro i hi
 rw [zbd] at hi
 rw [zd8 (by omega), zd8 hi]
 unfold zdz
 rw [if_neg (by omega : ¬ i + 1 = 0), Nat.add_sub_cancel]
 by_cases h0 : i = 0
 ·subst h0
  rw [if_pos rfl]
  exact znF (h 0 hi)
 ·rw [if_neg h0]
  exact fig_ne (h i hi)
def zc6 (m : Nat) (xs : List Nat) : Prop := ∀ i, i < xs.length → xs.getD i 0 < m
theorem zcg {xs : List Nat} {k : Nat} (hk : 1 ≤ k) (h : Unl xs) (hb : zc6 (2 ^ k) xs) : zc6 (2 * k) (zcx xs) := by
 intro i hi
 rw [zbd] at hi
 rw [zd8 hi]
 unfold zdz
 split
 ·have : xs.getD 0 0 % 2 < 2 := Nat.mod_lt _ (by decide)
  omega
 ·have := h (i - 1) (by omega)
  rw [show i - 1 + 1 = i by omega] at this
  exact fig_lt this (hb _ (by omega)) (hb _ hi)
theorem zmR (a b : Nat) : Builtin.bitXor (a : Int) (b : Int) = ((xr a b : Nat) : Int) := by
 have h1 : Builtin.bitAnd (a : Int) (b : Int) = ((a &&& b : Nat) : Int) := by
  unfold Builtin.bitAnd
  rw [decide_eq_true (Int.natCast_nonneg a), decide_eq_true (Int.natCast_nonneg b)]
  rfl
 have n1 : ¬ (0 : Int) ≤ Builtin.bitNot (a : Int) := by unfold Builtin.bitNot; omega
 have n2 : ¬ (0 : Int) ≤ Builtin.bitNot (b : Int) := by unfold Builtin.bitNot; omega
 have h2 : Builtin.bitOr (a : Int) (b : Int) = ((a ||| b : Nat) : Int) := by
  unfold Builtin.bitOr Builtin.bitAnd
  rw [decide_eq_false n1, decide_eq_false n2]
  have e : ∀ x : Int, Builtin.bitNot (Builtin.bitNot x) = x := fun x => by unfold Builtin.bitNot; omega
  show Builtin.bitNot (Builtin.bitNot _) = _
  rw [e, e, e]
  rfl
 unfold Builtin.bitXor xr
 rw [h1, h2]
 have := zg5 a b
 omega
theorem znN (n : Nat) (h : 0 < n) : Builtin.bitAnd (n : Int) (-(n : Int)) = ((zeu n : Nat) : Int) := by
 have n2 : ¬ (0 : Int) ≤ -(n : Int) := by omega
 have e : (Builtin.bitNot (-(n : Int))).toNat = n - 1 := by unfold Builtin.bitNot; omega
 unfold Builtin.bitAnd zeu
 rw [decide_eq_true (Int.natCast_nonneg n), decide_eq_false n2]
 show (n : Int) - (((n : Int).toNat &&& (Builtin.bitNot (-(n : Int))).toNat : Nat) : Int) = _
 rw [e, Int.toNat_natCast]
 have : n &&& (n - 1) ≤ n := Nat.and_le_left
 omega
theorem zoG (a b : Nat) (h : a ≠ b) : ((Builtin.Int.intBits (Builtin.bitAnd (Builtin.bitXor (a : Int) (b : Int)) (-(Builtin.bitXor (a : Int) (b : Int)))) : Nat) : Int) - 1 = ((lu a b : Nat) : Int) := by
 rw [zmR, znN _ (zmj _ a b (Nat.le_refl _) h), zoF _ a b (Nat.le_refl _) h]
 unfold Builtin.Int.intBits
 have p : 0 < 2 ^ lu a b := Nat.two_pow_pos _
 rw [if_neg (by
  intro z
  have z' := eq_of_beq z
  omega), Int.natAbs_natCast, Nat.log2_two_pow]
 omega
def atZ {α : Type} (l : List α) (i : Int) : Option α := if 0 ≤ i then l[i.toNat]? else none
theorem zc4 {α : Type} (l : List α) (i : Nat) : atZ l (i : Int) = l[i]? := by
 unfold atZ
 rw [if_pos (Int.natCast_nonneg i), Int.toNat_natCast]
theorem zgk {α : Type} {l : List α} {i : Int} (h : i < 0) : atZ l i = none := by
 unfold atZ
 rw [if_neg (by omega)]
theorem zgj {α : Type} {l : List α} {i : Int} {x : α} (h : atZ l i = some x) : 0 ≤ i ∧ i < l.length := by
 unfold atZ at h
 split at h
 ·have := (List.getElem?_eq_some_iff.mp h).1
  omega
 ·cases h
theorem zmQ {α : Type} {l : List α} {i : Int} (h0 : 0 ≤ i) (h : i < l.length) : ∃ x, atZ l i = some x := by
 unfold atZ
 rw [if_pos h0]
 exact ⟨_, List.getElem?_eq_getElem (by omega)⟩
def zjd {α β : Type} (f : Option α → α → Option α → β) : Option α → List α → List β
 | _, [] => []
 | p, x :: l => f p x l.head? :: zjd f (some x) l
def mapW {α β : Type} (f : Option α → α → Option α → β) (l : List α) : List β := zjd f none l
theorem zcM {α β : Type} (f : Option α → α → Option α → β) : ∀ (l : List α) (p : Option α) (k : Nat), (zjd f p l)[k]? = l[k]?.map fun x => f (if k = 0 then p else l[k - 1]?) x l[k + 1]?
 | [], _, _ => rfl
 | x :: l, p, 0 => by
  show some (f p x l.head?) = some (f p x l[0]?)
  rw [List.head?_eq_getElem?]
 | x :: l, p, k + 1 => by
  show (zjd f (some x) l)[k]? = l[k]?.map fun y => f (x :: l)[k]? y l[k + 1]?
  rw [zcM f l (some x) k]
  cases k with
  | zero => rfl
  | succ k => rfl
theorem zet {α β : Type} (f : Option α → α → Option α → β) : ∀ (l : List α) (p : Option α), (zjd f p l).length = l.length
 | [], _ => rfl
 | x :: l, p => by
  show (zjd f (some x) l).length + 1 = l.length + 1
  rw [zet f l]
theorem zbM {α β : Type} (f : Option α → α → Option α → β) (l : List α) : (mapW f l).length = l.length := zet f l none
theorem zcY {α β : Type} (f : Option α → α → Option α → β) (l : List α) (i : Int) : atZ (mapW f l) i = (atZ l i).map fun x => f (atZ l (i - 1)) x (atZ l (i + 1)) := by
 by_cases h : 0 ≤ i
 ·obtain ⟨k, rfl⟩ : ∃ k : Nat, i = (k : Int) := ⟨i.toNat, by omega⟩
  rw [zc4, zc4, mapW, zcM, show ((k : Int) + 1) = ((k + 1 : Nat) : Int) by omega, zc4]
  have e : atZ l ((k : Int) - 1) = if k = 0 then none else l[k - 1]? := by
   split
   ·rw [zgk (by omega)]
   ·rw [show ((k : Int) - 1) = ((k - 1 : Nat) : Int) by omega, zc4]
  rw [e]
 ·rw [zgk (l := mapW f l) (by omega), zgk (l := l) (i := i) (by omega)]
  rfl
def Near {α : Type} (a b : Int) (l m : List α) (i j : Int) : Prop := ∀ d : Int, a ≤ d → d ≤ b → atZ l (i + d) = atZ m (j + d)
theorem Near.mapW {α β : Type} {f : Option α → α → Option α → β} {a b : Int} {l m : List α} {i j : Int} (h : Near (a - 1) (b + 1) l m i j) : Near a b (mapW f l) (mapW f m) i j := by
 intro d h1 h2
 rw [zcY, zcY, h d (by omega) (by omega)]
 have e1 := h (d - 1) (by omega) (by omega)
 have e2 := h (d + 1) (by omega) (by omega)
 rw [show i + d - 1 = i + (d - 1) by omega, show j + d - 1 = j + (d - 1) by omega, show i + d + 1 = i + (d + 1) by omega, show j + d + 1 = j + (d + 1) by omega, e1, e2]
theorem Near.mono {α : Type} {a b a' b' : Int} {l m : List α} {i j : Int} (h : Near a b l m i j) (h1 : a ≤ a') (h2 : b' ≤ b) : Near a' b' l m i j := fun d x y => h d (by omega) (by omega)
theorem Near.map {α β : Type} {f : α → β} {a b : Int} {l m : List α} {i j : Int} (h : Near a b l m i j) : Near a b (l.map f) (m.map f) i j := by
 have e : ∀ (l : List α) (i : Int), atZ (l.map f) i = (atZ l i).map f := fun l i => by
  unfold atZ
  split
  ·rw [List.getElem?_map]
  ·rfl
 intro d h1 h2
 rw [e, e, h d h1 h2]
def znV (p : Option Nat) (x : Nat) (_ : Option Nat) : Nat := match p with
 | none => x % 2
 | some y => fig y x
theorem zfl (xs : List Nat) : zcx xs = mapW znV xs := by
 apply List.ext_getElem?
 intro k
 by_cases h : k < xs.length
 ·rw [zeF h, mapW, zcM, List.getElem?_eq_getElem h]
  unfold zdz znV
  cases k with
  | zero => simp [List.getD_eq_getElem?_getD, List.getElem?_eq_getElem h]
  | succ k => simp [List.getD_eq_getElem?_getD, List.getElem?_eq_getElem h, List.getElem?_eq_getElem (show k < xs.length by omega)]
 ·rw [List.getElem?_eq_none (by rw [zbd]; omega), List.getElem?_eq_none (by rw [zbM]; omega)]
theorem Near.turn {a b : Int} {l m : List Nat} {i j : Int} (h : Near (a - 1) b l m i j) : Near a b (zcx l) (zcx m) i j := by
 rw [zfl, zfl]
 intro d h1 h2
 rw [zcY, zcY, h d (by omega) (by omega)]
 have e1 := h (d - 1) (by omega) (by omega)
 rw [show i + d - 1 = i + (d - 1) by omega, show j + d - 1 = j + (d - 1) by omega, e1]
 cases atZ m (j + d) <;> rfl
def UnlZ (xs : List Nat) : Prop := ∀ (i : Int) (x y : Nat), atZ xs i = some x → atZ xs (i + 1) = some y → x ≠ y
theorem unlZ {xs : List Nat} (h : Unl xs) : UnlZ xs := by
 intro i x y hx hy
 obtain ⟨a, b⟩ := zgj hx
 obtain ⟨_, c⟩ := zgj hy
 obtain ⟨k, rfl⟩ : ∃ k : Nat, i = (k : Int) := ⟨i.toNat, by omega⟩
 rw [zc4] at hx
 rw [show ((k : Int) + 1) = ((k + 1 : Nat) : Int) by omega, zc4] at hy
 have := h k (by omega)
 rw [List.getD_eq_getElem?_getD, List.getD_eq_getElem?_getD, hx, hy] at this
 exact this
theorem zmm {xs : List Nat} (h : UnlZ xs) : Unl xs := by
 intro k hk
 have := h k xs[k] xs[k + 1] (by rw [zc4]; exact List.getElem?_eq_getElem (by omega)) (by rw [show ((k : Int) + 1) = ((k + 1 : Nat) : Int) by omega, zc4]; exact List.getElem?_eq_getElem hk)
 rw [List.getD_eq_getElem?_getD, List.getD_eq_getElem?_getD, List.getElem?_eq_getElem (show k < xs.length by omega), List.getElem?_eq_getElem hk]
 exact this
def zex (p n : Option Nat) : Nat := if p ≠ some 0 ∧ n ≠ some 0 then 0 else if p ≠ some 1 ∧ n ≠ some 1 then 1 else 2
theorem ziD (p n : Option Nat) : zex p n ≤ 2 := by
 unfold zex
 split
 ·omega
 ·split <;> omega
theorem zeh {p n : Option Nat} {x : Nat} (h : p = some x) : zex p n ≠ x := by
 subst h
 unfold zex
 split
 ·rename_i c
  intro z
  exact c.1 (by rw [← z])
 ·split
  ·rename_i c
   intro z
   exact c.1 (by rw [← z])
  ·rename_i c d
   intro z
   subst z
   have c1 : n = some 0 := Decidable.byContradiction fun q => c ⟨by decide, q⟩
   have d1 : n = some 1 := Decidable.byContradiction fun q => d ⟨by decide, q⟩
   rw [c1] at d1
   cases d1
theorem zjm (p n : Option Nat) : zex p n = zex n p := by
 unfold zex
 simp only [And.comm]
theorem zfD {p n : Option Nat} {x : Nat} (h : n = some x) : zex p n ≠ x := by
 rw [zjm]
 exact zeh h
def recF (v : Nat) (p : Option Nat) (x : Nat) (n : Option Nat) : Nat := if x = v then zex p n else x
def recL (v : Nat) (xs : List Nat) : List Nat := mapW (recF v) xs
theorem za5 (v : Nat) (xs : List Nat) : (recL v xs).length = xs.length := zbM _ _
theorem zeA {v : Nat} {xs : List Nat} (h : UnlZ xs) : UnlZ (recL v xs) := by
 intro i x y hx hy
 unfold recL at hx hy
 rw [zcY] at hx hy
 cases ex : atZ xs i with
 | none => rw [ex] at hx; cases hx
 | some x0 =>
  cases ey : atZ xs (i + 1) with
  | none => rw [ey] at hy; cases hy
  | some y0 =>
   rw [ex] at hx
   rw [ey] at hy
   have hx : x = recF v (atZ xs (i - 1)) x0 (atZ xs (i + 1)) := (Option.some.inj hx).symm
   have hy : y = recF v (atZ xs (i + 1 - 1)) y0 (atZ xs (i + 1 + 1)) := (Option.some.inj hy).symm
   have n0 := h i x0 y0 ex ey
   have e1 : i + 1 - 1 = i := by omega
   unfold recF at hx hy
   rw [e1, ex] at hy
   rw [ey] at hx
   split at hx
   ·rename_i c
    split at hy
    ·rename_i c'
     omega
    ·rw [hx, hy]
     exact zfD rfl
   ·split at hy
    ·rw [hx, hy]
     exact (zeh rfl).symm
    ·omega
theorem zfV {v : Nat} {P : Nat → Prop} {xs : List Nat} (hP : ∀ x, x ≤ 2 → P x) (h : ∀ i x, atZ xs i = some x → x = v ∨ P x) : ∀ i x, atZ (recL v xs) i = some x → P x := by
 intro i x hx
 unfold recL at hx
 rw [zcY] at hx
 cases ex : atZ xs i with
 | none => rw [ex] at hx; cases hx
 | some x0 =>
  rw [ex] at hx
  have hx : x = recF v (atZ xs (i - 1)) x0 (atZ xs (i + 1)) := (Option.some.inj hx).symm
  unfold recF at hx
  split at hx
  ·rw [hx]
   exact hP _ (ziD _ _)
  ·rw [hx]
   rcases h i x0 ex with q | q
   ·exact absurd q (by assumption)
   ·exact q
def colL (xs : List Nat) : List Nat := recL 5 (recL 4 (recL 3 xs))
theorem ze4 (xs : List Nat) : (colL xs).length = xs.length := by
 unfold colL
 rw [za5, za5, za5]
theorem ziG {xs : List Nat} (h : UnlZ xs) : UnlZ (colL xs) := zeA (zeA (zeA h))
theorem znH {xs : List Nat} (h : ∀ i x, atZ xs i = some x → x ≤ 5) : ∀ i x, atZ (colL xs) i = some x → x ≤ 2 := by
 refine zfV (P := fun x => x ≤ 2) (fun x h => h) ?_
 refine zfV (P := fun x => x = 5 ∨ x ≤ 2) (fun x h => .inr h) ?_
 refine zfV (P := fun x => x = 4 ∨ x = 5 ∨ x ≤ 2) (fun x h => .inr (.inr h)) ?_
 intro i x e
 have := h i x e
 omega
theorem Near.col {a b : Int} {l m : List Nat} {i j : Int} (h : Near (a - 3) (b + 3) l m i j) : Near a b (colL l) (colL m) i j :=
 Near.mapW (Near.mapW (Near.mapW (h.mono (by omega) (by omega))))
def zlU (sh : Nat) (p : Option (Nat × Bool)) (x : Nat × Bool) (n : Option (Nat × Bool)) : Nat × Bool :=
 (x.1, x.2 || (decide (x.1 = sh) && p.isSome && !(p.map (·.2)).getD false && !(n.map (·.2)).getD false))
def zcq (sh : Nat) (l : List (Nat × Bool)) : List (Nat × Bool) := mapW (zlU sh) l
def zcC (c : List Nat) : List (Nat × Bool) := c.map fun x => (x, false)
def marked (c : List Nat) : List (Nat × Bool) := zcq 0 (zcq 1 (zcq 2 (zcC c)))
def zdd (c : List Nat) : List Bool := (marked c).map (·.2)
theorem zf7 (c : List Nat) : (marked c).length = c.length := by
 unfold marked zcq zcC
 rw [zbM, zbM, zbM, List.length_map]
theorem zdW (c : List Nat) : (zdd c).length = c.length := by
 unfold zdd
 rw [List.length_map, zf7]
theorem zdP (c : List Nat) (i : Int) : atZ (zcC c) i = (atZ c i).map fun x => (x, false) := by
 unfold zcC atZ
 split
 ·rw [List.getElem?_map]
 ·rfl
theorem zgy (c : List Nat) (i : Int) : atZ (zcq 2 (zcC c)) i = (atZ c i).map fun x => (x, decide (x = 2) && (atZ c (i - 1)).isSome) := by
 unfold zcq
 rw [zcY, zdP, zdP, zdP]
 cases atZ c i with
 | none => rfl
 | some x =>
  show some _ = some _
  unfold zlU
  cases atZ c (i - 1) <;> cases atZ c (i + 1) <;> simp
theorem Near.marks {a b : Int} {l m : List Nat} {i j : Int} (h : Near (a - 2) (b + 2) l m i j) (hs : (atZ l (i + (a - 3))).isSome = (atZ m (j + (a - 3))).isSome) : Near a b (zdd l) (zdd m) i j := by
 refine Near.map ?_
 refine Near.mapW (Near.mapW ?_)
 intro d h1 h2
 have e := h d (by omega) (by omega)
 rw [zgy, zgy, e]
 have e' : (atZ l (i + d - 1)).isSome = (atZ m (j + d - 1)).isSome := by
  by_cases c : d = a - 2
  ·subst c
   rw [show i + (a - 2) - 1 = i + (a - 3) by omega, show j + (a - 2) - 1 = j + (a - 3) by omega]
   exact hs
  ·rw [show i + d - 1 = i + (d - 1) by omega, show j + d - 1 = j + (d - 1) by omega, h (d - 1) (by omega) (by omega)]
 rw [e']
def mkZ (l : List (Nat × Bool)) (i : Int) : Bool := ((atZ l i).map (·.2)).getD false
def clZ (l : List (Nat × Bool)) (i : Int) : Option Nat := (atZ l i).map (·.1)
theorem zno (sh : Nat) (l : List (Nat × Bool)) (i : Int) : clZ (zcq sh l) i = clZ l i := by
 unfold clZ zcq
 rw [zcY]
 cases atZ l i <;> rfl
theorem zf8 (sh : Nat) (l : List (Nat × Bool)) (i : Int) : mkZ (zcq sh l) i = (mkZ l i || (decide (clZ l i = some sh) && (clZ l (i - 1)).isSome && !mkZ l (i - 1) && !mkZ l (i + 1))) := by
 unfold mkZ clZ zcq
 rw [zcY]
 cases atZ l i with
 | none => simp
 | some x =>
  unfold zlU
  cases atZ l (i - 1) <;> cases atZ l (i + 1) <;> simp
structure MkOk (c : List Nat) (l : List (Nat × Bool)) : Prop where
 cl : ∀ i, clZ l i = atZ c i
 ind : ∀ i, mkZ l i = true → mkZ l (i + 1) = true → False
 fst : ∀ i, mkZ l i = true → (atZ c (i - 1)).isSome = true ∧ (atZ c i).isSome = true
theorem zey (c : List Nat) : MkOk c (zcC c) := by
 have e : ∀ i, mkZ (zcC c) i = false := fun i => by
  unfold mkZ
  rw [zdP]
  cases atZ c i <;> rfl
 refine ⟨fun i => ?_, fun i h => ?_, fun i h => ?_⟩
 ·unfold clZ
  rw [zdP]
  cases atZ c i <;> rfl
 ·rw [e] at h
  cases h
 ·rw [e] at h
  cases h
theorem zef {c : List Nat} {l : List (Nat × Bool)} {sh : Nat} (hu : UnlZ c) (h : MkOk c l) : MkOk c (zcq sh l) := by
 refine ⟨fun i => by rw [zno, h.cl], fun i h1 h2 => ?_, fun i h1 => ?_⟩
 ·rw [zf8] at h1 h2
  simp only [Bool.or_eq_true, Bool.and_eq_true, decide_eq_true_eq, Bool.not_eq_true'] at h1 h2
  rw [show i + 1 - 1 = i by omega] at h2
  rcases h1 with h1 | h1 <;> rcases h2 with h2 | h2
  ·exact h.ind i h1 h2
  ·rw [h1] at h2
   exact absurd h2.1.2 (by decide)
  ·rw [h2] at h1
   exact absurd h1.2 (by decide)
  ·have a := h1.1.1.1
   have b := h2.1.1.1
   rw [h.cl] at a b
   exact hu i sh sh a b rfl
 ·rw [zf8] at h1
  simp only [Bool.or_eq_true, Bool.and_eq_true, decide_eq_true_eq, Bool.not_eq_true'] at h1
  rcases h1 with h1 | h1
  ·exact h.fst i h1
  ·refine ⟨?_, ?_⟩
   ·rw [← h.cl]
    exact h1.1.1.2
   ·rw [← h.cl, h1.1.1.1]
    rfl
theorem zbf {sh : Nat} {l : List (Nat × Bool)} {i : Int} (h : mkZ l i = true) : mkZ (zcq sh l) i = true := by
 rw [zf8, h]
 rfl
theorem zf9 {c : List Nat} {l : List (Nat × Bool)} {sh : Nat} {i : Int} (h : MkOk c l) (hc : atZ c i = some sh) (hp : (atZ c (i - 1)).isSome = true) : mkZ (zcq sh l) (i - 1) = true ∨ mkZ (zcq sh l) i = true ∨ mkZ (zcq sh l) (i + 1) = true := by
 by_cases a : mkZ l (i - 1) = true
 ·exact .inl (zbf a)
 ·by_cases b : mkZ l (i + 1) = true
  ·exact .inr (.inr (zbf b))
  ·refine .inr (.inl ?_)
   rw [zf8, h.cl, h.cl, hc, hp, Bool.eq_false_iff.mpr a, Bool.eq_false_iff.mpr b]
   simp
theorem zgJ {c : List Nat} (hu : UnlZ c) : MkOk c (marked c) := zef hu (zef hu (zef hu (zey c)))
theorem zjc {c : List Nat} (hu : UnlZ c) (hc : ∀ i x, atZ c i = some x → x ≤ 2) {i : Int} (h1 : (atZ c (i - 1)).isSome = true) (h2 : (atZ c i).isSome = true) : mkZ (marked c) (i - 1) = true ∨ mkZ (marked c) i = true ∨ mkZ (marked c) (i + 1) = true := by
 obtain ⟨x, hx⟩ := Option.isSome_iff_exists.mp h2
 have hle := hc i x hx
 have z : x = 2 ∨ x = 1 ∨ x = 0 := by omega
 rcases z with rfl | rfl | rfl
 ·rcases zf9 (zey c) hx h1 with q | q | q
  ·exact .inl (zbf (zbf q))
  ·exact .inr (.inl (zbf (zbf q)))
  ·exact .inr (.inr (zbf (zbf q)))
 ·rcases zf9 (zef (sh := 2) hu (zey c)) hx h1 with q | q | q
  ·exact .inl (zbf q)
  ·exact .inr (.inl (zbf q))
  ·exact .inr (.inr (zbf q))
 ·exact zf9 (zef (sh := 1) hu (zef (sh := 2) hu (zey c))) hx h1
structure zdi (ms : List Bool) : Prop where
 fst : ms.getD 0 false = false
 ind : ∀ i, ms.getD i false = true → ms.getD (i + 1) false = true → False
 dom : ∀ i, 1 ≤ i → i < ms.length → ms.getD (i - 1) false = true ∨ ms.getD i false = true ∨ ms.getD (i + 1) false = true
theorem zck (c : List Nat) (i : Nat) : (zdd c).getD i false = mkZ (marked c) (i : Int) := by
 unfold mkZ zdd
 rw [zc4, List.getD_eq_getElem?_getD, List.getElem?_map]
theorem zkt {c : List Nat} (hu : UnlZ c) (hc : ∀ i x, atZ c i = some x → x ≤ 2) : zdi (zdd c) := by
 refine ⟨?_, fun i h1 h2 => ?_, fun i h1 h2 => ?_⟩
 ·rw [zck]
  cases e : mkZ (marked c) ((0 : Nat) : Int) with
  | false => rfl
  | true =>
   have := ((zgJ hu).fst _ e).1
   rw [zgk (by omega)] at this
   cases this
 ·rw [zck] at h1 h2
  exact (zgJ hu).ind i h1 h2
 ·rw [zdW] at h2
  have a : (atZ c ((i : Int) - 1)).isSome = true := by
   obtain ⟨x, hx⟩ := zmQ (l := c) (i := (i : Int) - 1) (by omega) (by omega)
   rw [hx]
   rfl
  have b : (atZ c (i : Int)).isSome = true := by
   obtain ⟨x, hx⟩ := zmQ (l := c) (i := (i : Int)) (by omega) (by omega)
   rw [hx]
   rfl
  rcases zjc hu hc a b with q | q | q
  ·refine .inl ?_
   rw [zck, show ((i - 1 : Nat) : Int) = (i : Int) - 1 by omega]
   exact q
  ·refine .inr (.inl ?_)
   rw [zck]
   exact q
  ·refine .inr (.inr ?_)
   rw [zck]
   exact q
theorem zhE {p n : Option Nat} {y : Nat} (h : y < zex p n) : p = some y ∨ n = some y := by
 unfold zex at h
 split at h
 ·omega
 ·rename_i c
  have c0 : p = some 0 ∨ n = some 0 := Decidable.byContradiction fun q => c ⟨fun z => q (.inl z), fun z => q (.inr z)⟩
  split at h
  ·have : y = 0 := by omega
   subst this
   exact c0
  ·rename_i d
   have d0 : p = some 1 ∨ n = some 1 := Decidable.byContradiction fun q => d ⟨fun z => q (.inl z), fun z => q (.inr z)⟩
   have : y = 0 ∨ y = 1 := by omega
   rcases this with rfl | rfl
   ·exact c0
   ·exact d0
def zaX (xs : List Nat) (k : Nat) : List Nat := (if k = 0 then none else xs[k - 1]?).toList ++ xs[k + 1]?.toList
theorem zfa {xs : List Nat} {k y : Nat} : y ∈ zaX xs k ↔ (if k = 0 then none else xs[k - 1]?) = some y ∨ xs[k + 1]? = some y := by
 unfold zaX
 rw [List.mem_append, Option.mem_toList, Option.mem_toList]
def zdF (xs : List Nat) (k : Nat) : Nat := zex (if k = 0 then none else xs[k - 1]?) xs[k + 1]?
theorem zjl {xs : List Nat} {k : Nat} : zdF xs k ∉ zaX xs k := fun h => by
 rcases zfa.mp h with q | q
 ·exact zeh q rfl
 ·exact zfD q rfl
theorem zgR {xs : List Nat} {k y : Nat} (h : y < zdF xs k) : y ∈ zaX xs k := zfa.mpr (zhE h)
theorem zkR (xs : List Nat) (k : Nat) : zdF xs k ≤ 2 := ziD _ _
theorem zfU {v : Nat} {xs : List Nat} {k : Nat} (h : k < xs.length) : (recL v xs)[k]? = some (if xs.getD k 0 = v then zdF xs k else xs.getD k 0) := by
 unfold recL mapW
 rw [zcM, List.getD_eq_getElem?_getD, List.getElem?_eq_getElem h]
 rfl
def mixL (v : Nat) (xs : List Nat) (k : Nat) : List Nat := (recL v xs).take k ++ xs.drop k
theorem zlT {v : Nat} {xs : List Nat} {k : Nat} (h : xs.length ≤ k) : mixL v xs k = recL v xs := by
 unfold mixL
 rw [List.take_of_length_le (by rw [za5]; exact h), List.drop_eq_nil_of_le h, List.append_nil]
theorem zeT (v : Nat) (xs : List Nat) (k : Nat) : (mixL v xs k).length = xs.length := by
 unfold mixL
 rw [List.length_append, List.length_take, List.length_drop, za5]
 omega
theorem zdn (v : Nat) (xs : List Nat) (k j : Nat) : (mixL v xs k)[j]? = if j < k then (recL v xs)[j]? else xs[j]? := by
 unfold mixL
 by_cases hk : k ≤ xs.length
 ·rw [List.getElem?_append, List.length_take, za5, Nat.min_eq_left hk]
  split
  ·rw [List.getElem?_take]
   rw [if_pos (by assumption)]
  ·rw [List.getElem?_drop]
   congr 1
   omega
 ·rw [List.drop_eq_nil_of_le (by omega), List.append_nil, List.take_of_length_le (by rw [za5]; omega)]
  split
  ·rfl
  ·rw [List.getElem?_eq_none (by rw [za5]; omega), List.getElem?_eq_none (by omega)]
theorem zks {v : Nat} {xs : List Nat} {k j : Nat} (h : k ≤ j) : (mixL v xs k)[j]? = xs[j]? := by
 rw [zdn, if_neg (by omega)]
theorem zkq {v : Nat} {xs : List Nat} {k : Nat} (h : k < xs.length) (hv : xs.getD k 0 ≠ v) : mixL v xs (k + 1) = mixL v xs k := by
 apply List.ext_getElem?
 intro j
 rw [zdn, zdn]
 by_cases c : j < k
 ·rw [if_pos c, if_pos (by omega)]
 ·rw [if_neg c]
  split
  ·have : j = k := by omega
   subst this
   rw [zfU h, if_neg hv, List.getD_eq_getElem?_getD, List.getElem?_eq_getElem h]
   rfl
  ·rfl
theorem zkr {v : Nat} {xs : List Nat} {k : Nat} (hu : Unl xs) (h : k < xs.length) (hv : xs.getD k 0 = v) : (if k = 0 then none else (mixL v xs k)[k - 1]?) = if k = 0 then none else xs[k - 1]? := by
 cases k with
 | zero => rfl
 | succ k =>
  show (mixL v xs (k + 1))[k]? = xs[k]?
  rw [zdn, if_pos (by omega), zfU (by omega)]
  have := hu k h
  rw [hv] at this
  rw [if_neg this, List.getD_eq_getElem?_getD, List.getElem?_eq_getElem (show k < xs.length by omega)]
  rfl
theorem zhn {v : Nat} {xs : List Nat} {k : Nat} (hu : Unl xs) (h : k < xs.length) (hv : xs.getD k 0 = v) : zaX (mixL v xs k) k = zaX xs k := by
 unfold zaX
 rw [zkr hu h hv, zks (j := k + 1) (by omega)]
theorem zlS {v : Nat} {xs : List Nat} {k : Nat} (h : k < xs.length) (hv : xs.getD k 0 = v) : mixL v xs (k + 1) = (mixL v xs k).set k (zdF xs k) := by
 apply List.ext_getElem?
 intro j
 rw [List.getElem?_set, zeT, zdn, zdn]
 by_cases c : k = j
 ·subst c
  rw [if_pos rfl, if_pos h, if_pos (by omega), zfU h, if_pos hv]
 ·rw [if_neg c]
  by_cases c2 : j < k
  ·rw [if_pos c2, if_pos (by omega)]
  ·rw [if_neg c2, if_neg (by omega)]
def zcj (sh : Nat) (cs : List Nat) (ms : List Bool) : List Bool := (zcq sh (cs.zip ms)).map (·.2)
theorem zaU {sh : Nat} {cs : List Nat} {ms : List Bool} (h : cs.length = ms.length) : (zcj sh cs ms).length = ms.length := by
 unfold zcj zcq
 rw [List.length_map, zbM, List.length_zip]
 omega
theorem zg8 {cs : List Nat} : ∀ {ms : List Bool}, cs.length = ms.length → (cs.zip ms).map (·.1) = cs := by
 induction cs with
 | nil => intro ms _; rfl
 | cons c cs ih =>
  intro ms h
  cases ms with
  | nil => cases h
  | cons m ms =>
   show c :: (cs.zip ms).map (·.1) = c :: cs
   rw [ih (Nat.succ.inj h)]
theorem zhW : ∀ (l : List (Nat × Bool)), (l.map (·.1)).zip (l.map (·.2)) = l
 | [] => rfl
 | x :: l => by
  show x :: (l.map (·.1)).zip (l.map (·.2)) = x :: l
  rw [zhW l]
theorem zku (sh : Nat) (l : List (Nat × Bool)) : (zcq sh l).map (·.1) = l.map (·.1) := by
 apply List.ext_getElem?
 intro k
 unfold zcq mapW
 rw [List.getElem?_map, List.getElem?_map, zcM]
 cases l[k]? <;> rfl
theorem zgK {sh : Nat} {cs : List Nat} {ms : List Bool} (h : cs.length = ms.length) : zcq sh (cs.zip ms) = cs.zip (zcj sh cs ms) := by
 have e := zhW (zcq sh (cs.zip ms))
 rw [zku, zg8 h] at e
 exact e.symm
theorem zjT (cs : List Nat) : zcC cs = cs.zip (cs.map fun _ => false) := by
 unfold zcC
 induction cs with
 | nil => rfl
 | cons c cs ih =>
  show (c, false) :: cs.map (fun x => (x, false)) = (c, false) :: cs.zip (cs.map fun _ => false)
  rw [ih]
theorem zgI (cs : List Nat) : zdd cs = zcj 0 cs (zcj 1 cs (zcj 2 cs (cs.map fun _ => false))) := by
 have l1 : cs.length = (cs.map fun _ => false).length := by rw [List.length_map]
 have l2 : cs.length = (zcj 2 cs (cs.map fun _ => false)).length := by rw [zaU l1, ← l1]
 unfold zdd marked
 rw [zjT, zgK l1, zgK l2]
 rfl
theorem zdm {sh : Nat} {cs : List Nat} {ms : List Bool} (hl : cs.length = ms.length) {k : Nat} (h : k < cs.length) : (zcj sh cs ms)[k]? = some (ms.getD k false || (decide (cs.getD k 0 = sh) && decide (1 ≤ k) && !ms.getD (k - 1) false && !ms.getD (k + 1) false)) := by
 unfold zcj zcq mapW
 have gz : ∀ j, (cs.zip ms)[j]? = if h : j < cs.length then some (cs[j], ms[j]'(by omega)) else none := fun j => by
  split
  ·rename_i q
   rw [List.getElem?_eq_getElem (by rw [List.length_zip]; omega), List.getElem_zip]
  ·exact List.getElem?_eq_none (by rw [List.length_zip]; omega)
 have gm : ∀ j, ms.getD j false = (((cs.zip ms)[j]?).map (·.2)).getD false := fun j => by
  rw [gz]
  split
  ·rw [List.getD_eq_getElem?_getD, List.getElem?_eq_getElem (by omega)]
   rfl
  ·rw [List.getD_eq_getElem?_getD, List.getElem?_eq_none (by omega)]
   rfl
 rw [List.getElem?_map, zcM, gm k, gm (k + 1), gm (k - 1), List.getD_eq_getElem?_getD, List.getElem?_eq_getElem h]
 have e := gz k
 rw [dif_pos h] at e
 rw [e]
 show some _ = some _
 unfold zlU
 cases k with
 | zero => simp
 | succ k =>
  have e2 := gz k
  rw [dif_pos (by omega)] at e2
  simp [e2]
def mixM (sh : Nat) (cs : List Nat) (ms : List Bool) (k : Nat) : List Bool := (zcj sh cs ms).take k ++ ms.drop k
theorem zlR {sh : Nat} {cs : List Nat} {ms : List Bool} (hl : cs.length = ms.length) {k : Nat} (h : cs.length ≤ k) : mixM sh cs ms k = zcj sh cs ms := by
 unfold mixM
 rw [List.take_of_length_le (by rw [zaU hl]; omega), List.drop_eq_nil_of_le (by omega), List.append_nil]
theorem zeS {sh : Nat} {cs : List Nat} {ms : List Bool} (hl : cs.length = ms.length) (k : Nat) : (mixM sh cs ms k).length = cs.length := by
 unfold mixM
 rw [List.length_append, List.length_take, List.length_drop, zaU hl]
 omega
theorem zcv {sh : Nat} {cs : List Nat} {ms : List Bool} (hl : cs.length = ms.length) (k j : Nat) : (mixM sh cs ms k)[j]? = if j < k then (zcj sh cs ms)[j]? else ms[j]? := by
 unfold mixM
 by_cases hk : k ≤ ms.length
 ·rw [List.getElem?_append, List.length_take, zaU hl, Nat.min_eq_left hk]
  split
  ·rw [List.getElem?_take]
   rw [if_pos (by assumption)]
  ·rw [List.getElem?_drop]
   congr 1
   omega
 ·rw [List.drop_eq_nil_of_le (by omega), List.append_nil, List.take_of_length_le (by rw [zaU hl]; omega)]
  split
  ·rfl
  ·rw [List.getElem?_eq_none (by rw [zaU hl]; omega), List.getElem?_eq_none (by omega)]
def zmP (ms : List Bool) (k : Nat) : Bool := !ms.getD (k - 1) false && !ms.getD k false && !ms.getD (k + 1) false
theorem zko {sh : Nat} {cs : List Nat} {ms : List Bool} (hl : cs.length = ms.length) {k : Nat} (h : k < cs.length) (hn : ¬ (1 ≤ k ∧ cs.getD k 0 = sh ∧ zmP ms k = true)) : mixM sh cs ms (k + 1) = mixM sh cs ms k := by
 apply List.ext_getElem?
 intro j
 rw [zcv hl, zcv hl]
 by_cases c : j < k
 ·rw [if_pos c, if_pos (by omega)]
 ·rw [if_neg c]
  split
  ·have : j = k := by omega
   subst this
   rw [zdm hl h]
   unfold zmP at hn
   rw [List.getElem?_eq_getElem (by omega)]
   have e : ms.getD j false = ms[j]'(by omega) := by
    rw [List.getD_eq_getElem?_getD, List.getElem?_eq_getElem (by omega)]
    rfl
   rw [e] at hn ⊢
   congr 1
   generalize ms[j] = a at hn ⊢
   generalize ms.getD (j - 1) false = b at hn ⊢
   generalize ms.getD (j + 1) false = d at hn ⊢
   cases a <;> cases b <;> cases d <;> simp at hn ⊢
   intro q
   omega
  ·rfl
structure zdh (ms : List Bool) (sp : List Nat) : Prop where
 up : sp.Pairwise (· < ·)
 iff : ∀ j, j ∈ sp ↔ ms.getD j false = true
theorem zlz (ms : List Bool) : zdh ms ((List.range ms.length).filter fun k => ms.getD k false) := by
 refine ⟨List.Pairwise.filter _ List.pairwise_lt_range, fun j => ?_⟩
 rw [List.mem_filter, List.mem_range]
 constructor
 ·exact fun h => h.2
 ·intro h
  refine ⟨?_, h⟩
  rw [List.getD_eq_getElem?_getD] at h
  cases e : ms[j]? with
  | none => rw [e] at h; cases h
  | some x => exact (List.getElem?_eq_some_iff.mp e).1
theorem zdh.lt {ms : List Bool} {sp : List Nat} (S : zdh ms sp) {j : Nat} (h : j ∈ sp) : j < ms.length := by
 have h := (S.iff j).mp h
 rw [List.getD_eq_getElem?_getD] at h
 cases e : ms[j]? with
 | none => rw [e] at h; cases h
 | some x => exact (List.getElem?_eq_some_iff.mp e).1
theorem zdh.step {ms : List Bool} {sp : List Nat} (S : zdh ms sp) (M : zdi ms) {t : Nat} (h : t + 1 < sp.length) : sp[t] + 2 ≤ sp[t + 1] ∧ sp[t + 1] ≤ sp[t] + 3 := by
 have up := List.pairwise_iff_getElem.mp S.up
 have lt := up t (t + 1) (by omega) h (by omega)
 have m0 := (S.iff _).mp (List.getElem_mem (show t < sp.length by omega))
 have m1 := (S.iff _).mp (List.getElem_mem h)
 have l1 := S.lt (List.getElem_mem h)
 have no : ∀ j, sp[t] < j → j < sp[t + 1] → ms.getD j false = false := fun j a b => by
  cases e : ms.getD j false with
  | false => rfl
  | true =>
   obtain ⟨u, hu, q⟩ := List.getElem_of_mem ((S.iff j).mpr e)
   have c1 : ¬ u ≤ t := fun z => by
    by_cases z' : u = t
    ·subst z'; omega
    ·have := up u t hu (by omega) (by omega)
     omega
   have c2 : ¬ t + 1 ≤ u := fun z => by
    by_cases z' : u = t + 1
    ·subst z'; omega
    ·have := up (t + 1) u h hu (by omega)
     omega
   omega
 refine ⟨?_, ?_⟩
 ·by_cases c : sp[t + 1] = sp[t] + 1
  ·rw [c] at m1
   exact (M.ind _ m0 m1).elim
  ·omega
 ·refine Nat.le_of_not_lt fun c => ?_
  rcases M.dom (sp[t] + 2) (by omega) (by omega) with q | q | q
  ·rw [no (sp[t] + 2 - 1) (by omega) (by omega)] at q
   cases q
  ·rw [no (sp[t] + 2) (by omega) (by omega)] at q
   cases q
  ·rw [no (sp[t] + 2 + 1) (by omega) (by omega)] at q
   cases q
theorem zdh.first {ms : List Bool} {sp : List Nat} (S : zdh ms sp) (M : zdi ms) (h : 2 ≤ ms.length) : ∃ hp : 0 < sp.length, 1 ≤ sp[0] ∧ sp[0] ≤ 2 := by
 have ex : ∃ j, j ≤ 2 ∧ ms.getD j false = true := by
  rcases M.dom 1 (by omega) (by omega) with q | q | q
  ·exact ⟨0, by omega, q⟩
  ·exact ⟨1, by omega, q⟩
  ·exact ⟨2, by omega, q⟩
 obtain ⟨j, hj, e⟩ := ex
 obtain ⟨u, hu, q⟩ := List.getElem_of_mem ((S.iff j).mpr e)
 refine ⟨by omega, ?_, ?_⟩
 ·have m0 := (S.iff _).mp (List.getElem_mem (show 0 < sp.length by omega))
  refine Nat.pos_of_ne_zero fun z => ?_
  rw [z, M.fst] at m0
  cases m0
 ·by_cases c : u = 0
  ·subst c; omega
  ·have := List.pairwise_iff_getElem.mp S.up 0 u (by omega) hu (by omega)
   omega
theorem zdh.last {ms : List Bool} {sp : List Nat} (S : zdh ms sp) (M : zdi ms) (h : 2 ≤ ms.length) (hp : 0 < sp.length) : ms.length ≤ sp[sp.length - 1] + 2 := by
 have ex : ∃ j, ms.length - 2 ≤ j ∧ ms.getD j false = true := by
  rcases M.dom (ms.length - 1) (by omega) (by omega) with q | q | q
  ·exact ⟨_, by omega, q⟩
  ·exact ⟨_, by omega, q⟩
  ·exact ⟨_, by omega, q⟩
 obtain ⟨j, hj, e⟩ := ex
 obtain ⟨u, hu, q⟩ := List.getElem_of_mem ((S.iff j).mpr e)
 by_cases c : u = sp.length - 1
 ·subst c; omega
 ·have := List.pairwise_iff_getElem.mp S.up u (sp.length - 1) hu (by omega) (by omega)
  omega
theorem zdh.low {ms : List Bool} {sp : List Nat} (S : zdh ms sp) (M : zdi ms) : ∀ (t : Nat) (h : t < sp.length), 2 * t + 1 ≤ sp[t]
 | 0, h => by
  have m0 := (S.iff _).mp (List.getElem_mem h)
  refine Nat.pos_of_ne_zero fun z => ?_
  rw [z, M.fst] at m0
  cases m0
 | t + 1, h => by
  have a := zdh.low S M t (by omega)
  have b := (S.step M h).1
  omega
theorem zdh.half {ms : List Bool} {sp : List Nat} (S : zdh ms sp) (M : zdi ms) : 2 * sp.length ≤ ms.length := by
 by_cases c : sp.length = 0
 ·omega
 ·have a := S.low M (sp.length - 1) (by omega)
  have b := S.lt (List.getElem_mem (show sp.length - 1 < sp.length by omega))
  omega
theorem zdh.none {ms : List Bool} {sp : List Nat} (S : zdh ms sp) (M : zdi ms) (h : ms.length < 2) : sp = [] := by
 have := S.half M
 exact List.eq_nil_of_length_eq_zero (by omega)
def zcN {α : Type} (es : List α) (ms : List Bool) : List α := ((es.zip ms).filter (·.2)).map (·.1)
structure Ats (P : Nat → Bool) (n : Nat) (l : List Nat) : Prop where
 up : l.Pairwise (· < ·)
 iff : ∀ j, j ∈ l ↔ j < n ∧ P j = true
theorem Ats.get {P : Nat → Bool} {n : Nat} {l : List Nat} (A : Ats P n l) {j : Nat} (h : j < l.length) : l[j] < n ∧ P l[j] = true := (A.iff _).mp (List.getElem_mem h)
theorem Ats.first {P : Nat → Bool} {n : Nat} {l : List Nat} (A : Ats P n l) {i : Nat} (h : i < l.getD 0 n) (hn : i < n) : P i = false := by
 cases e : P i with
 | false => rfl
 | true =>
  obtain ⟨u, hu, q⟩ := List.getElem_of_mem ((A.iff i).mpr ⟨hn, e⟩)
  have h0 : l.getD 0 n = l[0]'(by omega) := by
   rw [List.getD_eq_getElem?_getD, List.getElem?_eq_getElem (by omega)]
   rfl
  rw [h0] at h
  by_cases c : u = 0
  ·subst c; omega
  ·have := List.pairwise_iff_getElem.mp A.up 0 u (by omega) hu (by omega)
   omega
theorem Ats.next {P : Nat → Bool} {n : Nat} {l : List Nat} (A : Ats P n l) {j : Nat} (hj : j < l.length) {i : Nat} (h1 : l[j] < i) (h : i < l.getD (j + 1) n) (hn : i < n) : P i = false := by
 cases e : P i with
 | false => rfl
 | true =>
  obtain ⟨u, hu, q⟩ := List.getElem_of_mem ((A.iff i).mpr ⟨hn, e⟩)
  have up := List.pairwise_iff_getElem.mp A.up
  have c1 : j < u := by
   refine Nat.lt_of_not_le fun z => ?_
   by_cases c : u = j
   ·subst c; omega
   ·have := up u j hu hj (by omega)
    omega
  have h0 : l.getD (j + 1) n = l[j + 1]'(by omega) := by
   rw [List.getD_eq_getElem?_getD, List.getElem?_eq_getElem (by omega)]
   rfl
  rw [h0] at h
  by_cases c : u = j + 1
  ·subst c; omega
  ·have := up (j + 1) u (by omega) hu (by omega)
   omega
theorem Ats.le {P : Nat → Bool} {n : Nat} {l : List Nat} (A : Ats P n l) (j : Nat) : l.getD j n ≤ n := by
 rw [List.getD_eq_getElem?_getD]
 by_cases h : j < l.length
 ·rw [List.getElem?_eq_getElem h]
  exact Nat.le_of_lt (A.get h).1
 ·rw [List.getElem?_eq_none (by omega)]
  exact Nat.le_refl _
def atsL (v : Nat) (xs : List Nat) : List Nat := (List.range xs.length).filter fun k => decide (xs.getD k 0 = v)
def colN (xs : List Nat) : Nat → List Nat
 | 0 => xs
 | i + 1 => recL (3 + i) (colN xs i)
theorem zhM (xs : List Nat) (i : Nat) : (colN xs i).length = xs.length := by
 induction i with
 | zero => rfl
 | succ i ih => rw [colN, za5, ih]
theorem zme {xs : List Nat} (h : Unl xs) (i : Nat) : Unl (colN xs i) := by
 induction i with
 | zero => exact h
 | succ i ih => exact zmm (zeA (unlZ ih))
def mkN (cs : List Nat) : Nat → List Bool
 | 0 => cs.map fun _ => false
 | i + 1 => zcj (2 - i) cs (mkN cs i)
theorem zkn (cs : List Nat) : mkN cs 3 = zdd cs := (zgI cs).symm
theorem zi9 (cs : List Nat) (i : Nat) : cs.length = (mkN cs i).length := by
 induction i with
 | zero => rw [mkN, List.length_map]
 | succ i ih => rw [mkN, zaU ih, ih]
theorem zlQ {sh : Nat} {cs : List Nat} {ms : List Bool} (hl : cs.length = ms.length) : mixM sh cs ms 1 = ms := by
 by_cases h : 0 < cs.length
 ·rw [zko hl h (fun z => by omega)]
  rfl
 ·have : ms = [] := List.eq_nil_of_length_eq_zero (by omega)
  subst this
  unfold mixM
  rw [List.eq_nil_of_length_eq_zero (show (zcj sh cs []).length = 0 by rw [zaU hl]; rfl)]
  rfl
def zaF (ps : List Nat) : Prop := ∀ i (h : i < ps.length), ps[i] ≤ i
def par (ps : List Nat) : Nat → Option Nat
 | 0 => none
 | k + 1 => ps[k]?
theorem za0 {ps : List Nat} (T : zaF ps) {k p : Nat} (h : par ps k = some p) : p < k ∧ k < ps.length + 1 := by
 cases k with
 | zero => cases h
 | succ k =>
  obtain ⟨h1, rfl⟩ := List.getElem?_eq_some_iff.mp (show ps[k]? = some p from h)
  have := T k h1
  omega
theorem zfZ {ps : List Nat} {k : Nat} (h1 : 1 ≤ k) (h2 : k < ps.length + 1) : ∃ p, par ps k = some p := by
 cases k with
 | zero => omega
 | succ k => exact ⟨_, List.getElem?_eq_getElem (show k < ps.length by omega)⟩
theorem zlH {ps : List Nat} {k : Nat} (h2 : k < ps.length + 1) (h : par ps k = none) : k = 0 := by
 cases k with
 | zero => rfl
 | succ k =>
  have := List.getElem?_eq_none_iff.mp (show ps[k]? = none from h)
  omega
def wayF (ps : List Nat) (one : Nat) : Nat → Nat → Option (List Nat)
 | 0, _ => none
 | f + 1, o => if o = one then some [o] else match par ps o with
  | none => none
  | some p => (wayF ps one f p).map (· ++ [o])
theorem zgn {ps : List Nat} (T : zaF ps) {one : Nat} : ∀ f g o, o < f → o < g → wayF ps one f o = wayF ps one g o
 | 0, _, _, h, _ => absurd h (Nat.not_lt_zero _)
 | _, 0, _, _, h => absurd h (Nat.not_lt_zero _)
 | f + 1, g + 1, o, hf, hg => by
  unfold wayF
  split
  ·rfl
  ·cases e : par ps o with
   | none => rfl
   | some p =>
    have := (za0 T e).1
    show (wayF ps one f p).map _ = (wayF ps one g p).map _
    rw [zgn T f g p (by omega) (by omega)]
def wayL (ps : List Nat) (one o : Nat) : Option (List Nat) := wayF ps one (o + 1) o
theorem zjD {ps : List Nat} {o : Nat} : wayL ps o o = some [o] := by
 unfold wayL wayF
 rw [if_pos rfl]
theorem zdM {ps : List Nat} (T : zaF ps) {one o : Nat} (h : o ≠ one) : wayL ps one o = match par ps o with
  | none => none
  | some p => (wayL ps one p).map (· ++ [o]) := by
 unfold wayL
 rw [wayF, if_neg h]
 cases e : par ps o with
 | none => rfl
 | some p =>
  show (wayF ps one o p).map _ = (wayF ps one (p + 1) p).map _
  rw [zgn T o (p + 1) p (za0 T e).1 (by omega)]
theorem zjE {ps : List Nat} (T : zaF ps) {one : Nat} : ∀ n o, o ≤ n → o < one → wayL ps one o = none
 | n, o, hn, h => by
  rw [zdM T (by omega)]
  cases e : par ps o with
  | none => rfl
  | some p =>
   have hp := (za0 T e).1
   show (wayL ps one p).map _ = none
   cases n with
   | zero => omega
   | succ n => rw [zjE T n p (by omega) (by omega)]; rfl
def Chain (ps : List Nat) (w : List Nat) : Prop := ∀ t, t + 1 < w.length → par ps (w.getD (t + 1) 0) = some (w.getD t 0)
def isB (ps : List Nat) (k j : Nat) : Bool := (wayL ps k j).isSome
def benL (ps : List Nat) (k n : Nat) : List Nat := (List.range n).filter (isB ps k)
theorem zc1 {ps : List Nat} {k : Nat} : isB ps k k = true := by
 unfold isB
 rw [zjD]
 rfl
theorem zeY {ps : List Nat} (T : zaF ps) {k j : Nat} (h : j < k) : isB ps k j = false := by
 unfold isB
 rw [zjE T j j (Nat.le_refl _) h]
 rfl
theorem zbP {ps : List Nat} (T : zaF ps) {k j p : Nat} (h : j ≠ k) (e : par ps j = some p) : isB ps k j = isB ps k p := by
 unfold isB
 rw [zdM T h, e]
 show ((wayL ps k p).map _).isSome = _
 cases wayL ps k p <;> rfl
theorem zmh {ps : List Nat} (T : zaF ps) (k : Nat) : benL ps k (k + 1) = [k] := by
 unfold benL
 rw [List.range_succ, List.filter_append]
 have e1 : (List.range k).filter (isB ps k) = [] := by
  rw [List.filter_eq_nil_iff]
  intro j hj z
  rw [zeY T (List.mem_range.mp hj)] at z
  cases z
 rw [e1, List.nil_append, List.filter_cons_of_pos zc1]
 rfl
theorem zb5 {ps : List Nat} {k n j : Nat} : j ∈ benL ps k n ↔ j < n ∧ isB ps k j = true := by
 unfold benL
 rw [List.mem_filter, List.mem_range]
theorem zg3 {ps : List Nat} {k n : Nat} : benL ps k (n + 1) = benL ps k n ++ (if isB ps k n = true then [n] else []) := by
 unfold benL
 rw [List.range_succ, List.filter_append]
 congr 1
 by_cases h : isB ps k n = true
 ·rw [if_pos h, List.filter_cons_of_pos h]
  rfl
 ·rw [if_neg h, List.filter_cons_of_neg h]
  rfl
theorem ziI (ps : List Nat) (k n : Nat) : (benL ps k n).length ≤ n := by
 have := List.length_filter_le (isB ps k) (List.range n)
 rw [List.length_range] at this
 exact this
theorem zhQ (ps : List Nat) (k n : Nat) : (benL ps k n).Pairwise (· < ·) := List.Pairwise.filter _ List.pairwise_lt_range
theorem ziv {ps : List Nat} (T : zaF ps) : ∀ n j, j ≤ n → j < ps.length + 1 → isB ps 0 j = true
 | n, j, hn, h => by
  by_cases c : j = 0
  ·rw [c]
   exact zc1
  ·obtain ⟨p, e⟩ := zfZ (by omega) h
   have := (za0 T e).1
   rw [zbP T c e]
   cases n with
   | zero => omega
   | succ n => exact ziv T n p (by omega) (by omega)
theorem zle {ps : List Nat} (T : zaF ps) : benL ps 0 (ps.length + 1) = List.range (ps.length + 1) := by
 unfold benL
 rw [List.filter_eq_self]
 exact fun j hj => ziv T j j (Nat.le_refl _) (List.mem_range.mp hj)
def zaY (ps : List Nat) (k n : Nat) : List Nat := (List.range n).filter fun j => decide (par ps j = some k)
theorem zaw {ps : List Nat} {k n j : Nat} : j ∈ zaY ps k n ↔ j < n ∧ par ps j = some k := by
 unfold zaY
 rw [List.mem_filter, List.mem_range, decide_eq_true_eq]
theorem ze9 {ps : List Nat} {k n : Nat} : zaY ps k (n + 1) = zaY ps k n ++ (if par ps n = some k then [n] else []) := by
 unfold zaY
 rw [List.range_succ, List.filter_append]
 congr 1
 by_cases h : par ps n = some k
 ·rw [if_pos h, List.filter_cons_of_pos (by exact decide_eq_true h)]
  rfl
 ·rw [if_neg h, List.filter_cons_of_neg (by rw [decide_eq_false h]; decide)]
  rfl
theorem zel (ps : List Nat) (k n : Nat) : (zaY ps k n).length ≤ n := by
 have := List.length_filter_le (fun j => decide (par ps j = some k)) (List.range n)
 rw [List.length_range] at this
 exact this
theorem zgW (ps : List Nat) (k n : Nat) : (zaY ps k n).Pairwise (· < ·) := List.Pairwise.filter _ List.pairwise_lt_range
theorem zdZ {ps : List Nat} (T : zaF ps) {k : Nat} : ∀ n j, j ≤ n → j < ps.length + 1 → (isB ps k j = true ↔ j = k ∨ ∃ c, par ps c = some k ∧ isB ps c j = true)
 | n, j, hn, h => by
  by_cases c : j = k
  ·constructor
   ·exact fun _ => .inl c
   ·intro _
    rw [c]
    exact zc1
  ·cases e : par ps j with
   | none =>
    have j0 := zlH h e
    have no : ∀ m, j ≠ m → isB ps m j = false := fun m hm => by
     unfold isB
     rw [zdM T hm, e]
     rfl
    constructor
    ·intro z
     rw [no k c] at z
     cases z
    ·rintro (z | ⟨d, hd, z⟩)
     ·exact absurd z c
     ·by_cases y : j = d
      ·rw [← y, e] at hd
       cases hd
      ·rw [no d y] at z
       cases z
   | some p =>
    have hp := (za0 T e).1
    cases n with
    | zero => omega
    | succ n =>
     have ih := zdZ T (k := k) n p (by omega) (by omega)
     rw [zbP T c e, ih]
     constructor
     ·rintro (z | ⟨d, hd, z⟩)
      ·refine .inr ⟨j, ?_, zc1⟩
       rw [e, z]
      ·by_cases y : j = d
       ·rw [← y] at z
        rw [zeY T hp] at z
        cases z
       ·exact .inr ⟨d, hd, by rw [zbP T y e]; exact z⟩
     ·rintro (z | ⟨d, hd, z⟩)
      ·exact absurd z c
      ·by_cases y : j = d
       ·subst y
        rw [e] at hd
        exact .inl (Option.some.inj hd)
       ·rw [zbP T y e] at z
        exact .inr ⟨d, hd, z⟩
theorem zd0 {ps : List Nat} (T : zaF ps) {k c d : Nat} (hc : par ps c = some k) (hd : par ps d = some k) (hcd : c ≠ d) : ∀ n j, j ≤ n → isB ps c j = true → isB ps d j = true → False
 | n, j, hn, h1, h2 => by
  by_cases e1 : j = c
  ·subst e1
   rw [zbP T hcd hc, zeY T (za0 T hd).1] at h2
   cases h2
  ·by_cases e2 : j = d
   ·subst e2
    rw [zbP T e1 hd, zeY T (za0 T hc).1] at h1
    cases h1
   ·cases e : par ps j with
    | none =>
     unfold isB at h1
     rw [zdM T e1, e] at h1
     cases h1
    | some p =>
     have hp := (za0 T e).1
     rw [zbP T e1 e] at h1
     rw [zbP T e2 e] at h2
     cases n with
     | zero => omega
     | succ n => exact zd0 T hc hd hcd n p (by omega) h1 h2
theorem zi1 {ps : List Nat} (T : zaF ps) {k : Nat} (hk : k < ps.length + 1) : (k :: ((zaY ps k (ps.length + 1)).map fun c => benL ps c (ps.length + 1)).flatten).Perm (benL ps k (ps.length + 1)) := by
 have lt : ∀ {l : List Nat}, l.Pairwise (· < ·) → l.Nodup := fun h => List.Pairwise.imp (fun {a b} (q : a < b) => Nat.ne_of_lt q) h
 refine (List.perm_ext_iff_of_nodup ?_ (lt (zhQ ps k _))).mpr fun j => ?_
 ·rw [List.nodup_cons]
  refine ⟨fun h => ?_, ?_⟩
  ·obtain ⟨l, hl, hj⟩ := List.mem_flatten.mp h
   obtain ⟨c, hc, rfl⟩ := List.mem_map.mp hl
   have h1 := (zaw.mp hc).2
   have h2 := (zb5.mp hj).2
   rw [zeY T (za0 T h1).1] at h2
   cases h2
  ·show List.Pairwise _ _
   rw [List.pairwise_flatten]
   refine ⟨fun l hl => ?_, ?_⟩
   ·obtain ⟨c, hc, rfl⟩ := List.mem_map.mp hl
    exact lt (zhQ ps c _)
   ·rw [List.pairwise_map]
    refine List.Pairwise.imp_of_mem (fun {c d} hc hd hcd => ?_) (zgW ps k _)
    intro x hx y hy z
    subst z
    exact zd0 T (zaw.mp hc).2 (zaw.mp hd).2 (Nat.ne_of_lt hcd) x x (Nat.le_refl _) (zb5.mp hx).2 (zb5.mp hy).2
 ·rw [List.mem_cons, List.mem_flatten, zb5]
  constructor
  ·rintro (rfl | ⟨l, hl, hj⟩)
   ·exact ⟨hk, zc1⟩
   ·obtain ⟨c, hc, rfl⟩ := List.mem_map.mp hl
    obtain ⟨h1, h2⟩ := zb5.mp hj
    exact ⟨h1, (zdZ T j j (Nat.le_refl _) h1).mpr (.inr ⟨c, (zaw.mp hc).2, h2⟩)⟩
  ·rintro ⟨h1, h2⟩
   rcases (zdZ T j j (Nat.le_refl _) h1).mp h2 with q | ⟨c, hc, q⟩
   ·exact .inl q
   ·exact .inr ⟨_, List.mem_map.mpr ⟨c, zaw.mpr ⟨(za0 T hc).2, hc⟩, rfl⟩, zb5.mpr ⟨h1, q⟩⟩
section
variable {P : Program} {w : World} {K : PySem.W.Frag} {mg : Str → Option Value} {base : Heap}
theorem zlI (T : Txt K mg) (D_l_mixed : DF K mg "_law_mixed" zbA zcb) : FC P w K mg base 1 "_law_mixed" zcb zjV := by
 refine D_l_mixed.ok sc_l_mixed (fun vs H Q E h => ?_) (fun f cdv A outer s H vs Q E hr h => ?_)
 ·obtain ⟨c, k, rfl, _⟩ := h
  rfl
 obtain ⟨c, k, rfl, q⟩ := h
 refine ⟨_, (zag (zat (i := 2) sc_l_mixed.nd rfl (Or.inl rfl) (zav zeq (zav zcK (zav zbv (zav zbv (zav zeq (pv 0) zaf) (zav zcK zaf (pv 1))) zaf) zaf) zaf))
   (zag (zat (i := 3) sc_l_mixed.nd rfl (Or.inl rfl) (zav zeq (zav zbv (zav zbv (zav zcK (pv 2) (pv 2)) (zav zcK zaf (pv 2))) (pv 1)) zaf))
   (zai (zaC (zav zhk (zav zeq (zav zbv (zav zbv (zav zcK (pv 3) (pv 3)) (zav zcK zaf (pv 3))) (zav zcK zaf (pv 1))) zaf) zaf))))), ?_⟩
 walk_at "rd"
 exact q _
theorem zlN (T : Txt K mg) (D_l_begin : DF K mg "_law_begin" zbB zcc) : FC P w K mg base 1 "_law_begin" zcc (zjX K) := by
 refine D_l_begin.ok sc_l_begin (fun vs H Q E h => ?_) (fun f cdv A outer s H vs Q E hr h => ?_)
 ·obtain ⟨L, ns, rfl, _⟩ := h
  rfl
 obtain ⟨L, ns, rfl, hS, q⟩ := h
 refine ⟨_, (zai (zaC (znd (zfX zdb (pv 0) (zfX zdb zaf (zfX zdb zaf zna))) rfl rfl (by simp) (by decide)))), ?_⟩
 intro p hp
 refine ⟨_, rfl, zac, [(.inr "script", .ref L), (.inr "at", .int 0), (.inr "left", .int 0)], rfl, (by show 3 ≤ 15; decide), ?_⟩
 have e : upd (upd H p (.dK [])) p (.dK (zes [] [(.inr "script", .ref L), (.inr "at", .int 0), (.inr "left", .int 0)])) = upd H p (zc0 L 0 0) := by
  rw [zmU]
  have : zes [] [((.inr "script" : Key), V.ref L), (.inr "at", .int 0), (.inr "left", .int 0)] = [(.inr "script", .ref L), (.inr "at", .int 0), (.inr "left", .int 0)] := by
   have a1 : putK [] (.inr "script" : Key) (V.ref L) = [(.inr "script", .ref L)] := zdR (kvs := []) _ rfl
   have a2 : putK [((.inr "script" : Key), V.ref L)] (.inr "at") (.int 0) = [(.inr "script", .ref L), (.inr "at", .int 0)] := by
    rw [zdR _ (by rw [zbq (zdE (show ("script" : Str) ≠ "at" by decide +kernel))]; rfl)]
    rfl
   have a3 : putK [((.inr "script" : Key), V.ref L), (.inr "at", .int 0)] (.inr "left") (.int 0) = [(.inr "script", .ref L), (.inr "at", .int 0), (.inr "left", .int 0)] := by
    rw [zdR _ (by rw [zbq (zdE (show ("script" : Str) ≠ "left" by decide +kernel)), zbq (zdE (show ("at" : Str) ≠ "left" by decide +kernel))]; rfl)]
    rfl
   unfold zes
   simp only [List.foldl_cons, List.foldl_nil]
   rw [a1, a2, a3]
  rw [this]
  rfl
 rw [e]
 exact q p _ hp (zal hp _) ⟨ns, 0, 0, zac, (zal hp _).seq hS⟩
theorem znf (T : Txt K mg) (D_l_take : DF K mg "_law_take" zbZ zbG) (F_l_mixed : FC P w K mg base 1 "_law_mixed" zcb zjV) : FC P w K mg base 2 "_law_take" zbG (zgr K) := by
 refine D_l_take.ok sc_l_take (fun vs H Q E h => ?_) (fun f cdv A outer s H vs Q E hr h => ?_)
 ·obtain ⟨d, L, m, rfl, _⟩ := h
  rfl
 obtain ⟨d, L, m, rfl, ⟨hm, hm'⟩, ⟨ns, a, l, hd, hS⟩, q⟩ := h
 refine ⟨_, (zag (zat (i := 2) sc_l_take.nd rfl (Or.inl rfl) (zdc (zdK hr) (pv 0) zdb (fun _ _ => rfl)))
   (zag (zat (i := 3) sc_l_take.nd rfl (Or.inl rfl) (zdc (zdK hr) (pv 0) zdb (fun _ _ => rfl)))
   (zbN (zdw (zaJ zff (zdc (zdK hr) (pv 0) zdb (fun _ _ => rfl)) zaf (zbc _)) (zag (zeb (zdK hr) (pv 0) zdb (zav zbv (pv 2) zaf) rfl)
   (zag (zat (i := 4) sc_l_take.nd rfl (Or.inl rfl) zaf)
   (zbN (zdw (zaJ zot (zaD zaz rfl T.m_len boot_len (zaa (pv 3) zae)) zaf (zbc _)) (zai (zat (i := 4) sc_l_take.nd rfl (Or.inl rfl) (zaZ zaK (pv 3) (zav zeq (pv 2) (zaD zaz rfl T.m_len boot_len (zaa (pv 3) zae))) (fun _ _ => rfl)))) zbF)
   (zbN (zdw (PW.pt (zog (zaJ zou (pv 2) (zaD zaz rfl T.m_len boot_len (zaa (pv 3) zae)) (zbc _)) (zmA (zaJ zgC (zaD zgi rfl T.m_abs boot_abs (zaa (pv 4) zae)) (zav zfu zaf zaf) (zbc _))))) (zai (zaC (zav zeq (zaM F_l_mixed hr (zaa (pv 4) (zaa (pv 2) zae))) (pv 1)))) zbF)
   (zai (zeb (zdK hr) (pv 0) zdb (zaD zgi rfl T.m_abs boot_abs (zaa (pv 4) zae)) rfl)))))) zbF)
   (zag (zat (i := 5) sc_l_take.nd rfl (Or.inl rfl) (zav zeq (zdc (zdK hr) (pv 0) zdb (fun _ _ => rfl)) (pv 1)))
   (zag (zeb (zdK hr) (pv 0) zdb (zav zhk (zdc (zdK hr) (pv 0) zdb (fun _ _ => rfl)) (pv 1)) rfl)
   (zai (zaC (pv 5)))))))), ?_⟩
 refine ⟨_, rfl, _, _, rfl, get_at hd, _, rfl, _, _, rfl, zjj hd, ?_⟩
 refine ⟨fun σ' H' => ∃ (x2 x3 x4 x5 : Option V) (a' l' : Int), σ' = [some (.ref d), some (.int m), x2, x3, x4, x5] ∧ H' d = some (zc0 L a' l') ∧ Keep d H H', ?_, ?_⟩
 ·refine ⟨_, rfl, _, _, rfl, zgc hd, rfl, _, rfl, ?_⟩
  refine ite2 (fun _ => ?_) (fun _ => ?_)
  ·refine ⟨_, rfl, _, _, rfl, rfl, _, rfl, _, _, rfl, zoh hd, ?_⟩
   have hd1 : upd H d (zc0 L (a + 1) l) d = some (zc0 L (a + 1) l) := zac
   obtain ⟨-, k1⟩ := LS.set (a' := a + 1) (l' := l) hd hS
   have hS1 := zfR hd k1 hS
   generalize upd H d (zc0 L (a + 1) l) = H1 at hd1 k1 hS1 ⊢
   refine ⟨fun σ' H' => ∃ c : Int, σ' = [some (.ref d), some (.int m), some (.int a), some (.ref L), some (.int c), none] ∧ H1 = H', ?_, ?_⟩
   ·refine ⟨_, rfl, _, _, rfl, .inl hS1, _, _, rfl, rfl, _, rfl, ?_⟩
    refine ite2 (fun c => ?_) (fun c => ?_)
    ·have c' : (0 : Int) < (((ns.map V.int).length : Nat) : Int) := of_decide_eq_true c
     obtain ⟨v, hv⟩ := at_mod (ns := ns) (k := a) (by rw [List.length_map] at c'; omega)
     refine ⟨_, rfl, _, rfl, _, rfl, _, _, rfl, .inl hS1, _, _, rfl, rfl, c', _, _, _, _, rfl, rfl, hS1, hv, ?_⟩
     exact ⟨v, rfl, rfl⟩
    ·exact ⟨0, rfl, rfl⟩
   rintro σ' H' ⟨c, rfl, rfl⟩
   refine ⟨fun σ' H' => σ' = [some (.ref d), some (.int m), some (.int a), some (.ref L), some (.int c), none] ∧ H1 = H', ?_, ?_⟩
   ·refine ⟨_, rfl, _, rfl, _, _, rfl, .inl hS1, _, _, rfl, rfl, _, rfl, ?_⟩
    refine ite2 (fun _ => ?_) (fun _ => ?_)
    ·refine iteT ?_
     refine ⟨_, rfl, _, rfl, c, a, rfl, fun v => ⟨_, rfl, _, _, rfl, rfl, hm, ?_⟩⟩
     exact q _ _ (Int.emod_nonneg _ (by omega)) (Int.emod_lt_of_pos _ hm) k1 ⟨ns, a + 1, l, hd1, hS1⟩
    ·refine ⟨_, rfl, _, rfl, _, _, rfl, rfl, ⟨by decide, by decide, by decide⟩, _, _, rfl, rfl, _, rfl, ?_⟩
     refine ite2 (fun _ => ?_) (fun _ => ?_)
     ·refine ⟨_, rfl, _, rfl, c, a, rfl, fun v => ⟨_, rfl, _, _, rfl, rfl, hm, ?_⟩⟩
      exact q _ _ (Int.emod_nonneg _ (by omega)) (Int.emod_lt_of_pos _ hm) k1 ⟨ns, a + 1, l, hd1, hS1⟩
     ·exact ⟨rfl, rfl⟩
   rintro σ' H' ⟨rfl, rfl⟩
   refine ⟨_, rfl, _, rfl, _, rfl, _, _, rfl, zib hd1, ?_⟩
   obtain ⟨-, k2⟩ := LS.set (a' := a + 1) (l' := if c < 0 then -c else c) hd1 hS1
   exact ⟨_, _, _, _, _, _, rfl, zac, k1.trans k2⟩
  ·exact ⟨_, _, _, _, a, l, rfl, hd, Keep.refl _ _⟩
 rintro σ' H' ⟨x2, x3, x4, x5, a', l', rfl, hd', k'⟩
 have hS' := zfR hd k' hS
 refine ⟨_, rfl, _, _, rfl, zgc hd', _, rfl, _, _, rfl, rfl, hm, ?_⟩
 refine ⟨_, rfl, _, _, rfl, zgc hd', _, rfl, _, _, rfl, rfl, ⟨hm, hm'⟩, _, rfl, _, _, rfl, zib hd', ?_⟩
 obtain ⟨s1, k1⟩ := LS.set (a' := a') (l' := l' / m) hd' hS'
 refine ⟨_, rfl, ?_⟩
 exact q _ _ (Int.emod_nonneg _ (by omega)) (Int.emod_lt_of_pos _ hm) (k'.trans k1) s1
def zn8 : Sp := fun vs H Q _ => ∃ a b : Nat, vs = [.int a, .int b] ∧ a ≠ b ∧ Q (.int (lu a b : Nat)) H
theorem zox (T : Txt K mg) (D_lowest_unlike : DF K mg "lowest_unlike" zaB zaP) : FC P w K mg base 1 "lowest_unlike" zaP zn8 := by
 refine D_lowest_unlike.ok sc_lowest_unlike (fun vs H Q E h => ?_) (fun f cdv A outer s H vs Q E hr h => ?_)
 ·obtain ⟨a, b, rfl, _⟩ := h
  rfl
 obtain ⟨a, b, rfl, hab, q⟩ := h
 refine ⟨_, (zag (zat (i := 2) sc_lowest_unlike.nd rfl (Or.inl rfl) (zav zoq (pv 0) (pv 1)))
   (zai (zaC (zav zcu (zom F.plainAttrs_int F.slot_int_bit_length F.type_int_bit_length zf6 (zav zmI (pv 2) (ziZ zfk (pv 2)))) zaf)))), ?_⟩
 refine ⟨_, rfl, _, rfl, _, _, rfl, rfl, _, rfl, _, rfl, _, rfl, _, _, rfl, rfl, rfl, _, rfl, rfl, _, _, rfl, rfl, ?_⟩
 rw [← zoG a b hab] at q
 exact q
def zn9 (K : PySem.W.Frag) : Sp := fun vs H Q _ => ∃ d L : Addr, vs = [.ref d] ∧ LS K L d H ∧ ∀ (v : Int) (H' : Hp), -(10 ^ 60) < v → v < 10 ^ 60 → Keep d H H' → LS K L d H' → Q (.int v) H'
theorem zlX {x m : Int} (h1 : -999 ≤ x) (h2 : x ≤ 999) (h3 : 0 < m) (h4 : m ≤ 10 ^ 57) : -(10 ^ 60) < x * m ∧ x * m < 10 ^ 60 := by
 have a := Int.mul_le_mul_of_nonneg_right h2 (Int.le_of_lt h3)
 have b := Int.mul_le_mul_of_nonneg_right h1 (Int.le_of_lt h3)
 omega
theorem zoz (T : Txt K mg) (D_l_key : DF K mg "_law_key" zcV zdl) (F_l_take : FC P w K mg base 2 "_law_take" zbG (zgr K)) : FC P w K mg base 3 "_law_key" zdl (zn9 K) := by
 refine D_l_key.ok sc_l_key (fun vs H Q E h => ?_) (fun f cdv A outer s H vs Q E hr h => ?_)
 ·obtain ⟨d, L, rfl, _⟩ := h
  rfl
 obtain ⟨d, L, rfl, hs, q⟩ := h
 refine ⟨_, (zag (zat (i := 1) sc_l_key.nd rfl (Or.inl rfl) (zaM F_l_take hr (zaa (pv 0) (zaa zaf zae))))
   (zbN (zdw (zaJ zgC (pv 1) zaf (zbc _)) (zai (zaC (zaM F_l_take hr (zaa (pv 0) (zaa zaf zae))))) zbF)
   (zbN (zdw (zaJ zgC (pv 1) zaf (zbc _)) (zai (zaC (zav zcu (zaM F_l_take hr (zaa (pv 0) (zaa zaf zae))) zaf))) zbF)
   (zbN (zdw (zaJ zff (pv 1) zaf (zbc _)) (zai (zaC (zav zcK (zav zcu (zaM F_l_take hr (zaa (pv 0) (zaa zaf zae))) zaf) (zaZ zaK (zcJ (zaa zaf (zaa (zav zfu zaf zaf) (zaa (zav zfu zaf zaf) (zaa (zav zfu zaf zaf) zae))))) (zaM F_l_take hr (zaa (pv 0) (zaa zaf zae))) (fun _ _ => rfl))))) zbF)
   (zai (zaC (zav zcK (zaZ zaK (zcJ (zaa zaf (zaa (ziZ zfk zaf) zae))) (zaM F_l_take hr (zaa (pv 0) (zaa zaf zae))) (fun _ _ => rfl)) (zav zcu (zav zcu (zav zfu zaf zaf) zaf) (zaM F_l_take hr (zaa (pv 0) (zaa zaf zae))))))))))), ?_⟩
 refine ⟨_, rfl, d, L, 8, rfl, by decide, hs, fun w1 H1 w0 w8 k1 s1 => ?_⟩
 have nd : ∀ {H' : Hp} {p : Addr}, LS K L d H' → H' p = none → p ≠ d := fun s hp z => by
  obtain ⟨_, _, _, e, _⟩ := s.ex
  rw [← z, hp] at e
  cases e
 refine ⟨fun σ' H' => σ' = [some (.ref d), some (.int w1)] ∧ H1 = H', ?_, ?_⟩
 ·refine ⟨_, rfl, _, _, rfl, rfl, _, rfl, ?_⟩
  refine ite2 (fun c => ?_) (fun c => ?_)
  ·refine ⟨_, rfl, d, L, 10, rfl, by decide, s1, fun u H2 u0 u1 k2 s2 => ?_⟩
   exact q u H2 (by omega) (by omega) (k1.trans k2) s2
  ·exact ⟨rfl, rfl⟩
 rintro σ' H' ⟨rfl, rfl⟩
 refine ⟨fun σ' H' => σ' = [some (.ref d), some (.int w1)] ∧ H1 = H', ?_, ?_⟩
 ·refine ⟨_, rfl, _, _, rfl, rfl, _, rfl, ?_⟩
  refine ite2 (fun c => ?_) (fun c => ?_)
  ·refine ⟨_, rfl, d, L, 60, rfl, by decide, s1, fun u H2 u0 u1 k2 s2 => ⟨_, _, rfl, rfl, ?_⟩⟩
   exact q (u - 30) H2 (by omega) (by omega) (k1.trans k2) s2
  ·exact ⟨rfl, rfl⟩
 rintro σ' H' ⟨rfl, rfl⟩
 refine ⟨fun σ' H' => σ' = [some (.ref d), some (.int w1)] ∧ H1 = H', ?_, ?_⟩
 ·refine ⟨_, rfl, rfl, _, rfl, ?_⟩
  refine ite2 (fun c => ?_) (fun c => ?_)
  ·refine ⟨_, rfl, d, L, 1999, rfl, by decide, s1, fun u H2 u0 u1 k2 s2 => ⟨_, _, rfl, rfl, ?_⟩⟩
   refine ⟨_, _, rfl, rfl, ⟨by decide, by decide, by decide⟩, _, _, rfl, rfl, ⟨by decide, by decide, by decide⟩, _, _, rfl, rfl, ⟨by decide, by decide, by decide⟩, (by show 4 ≤ sizeLine; decide), fun p hp => ?_⟩
   refine ⟨_, rfl, d, L, 4, rfl, by decide, s2.of_new hp _, fun b H3 b0 b1 k3 s3 => ?_⟩
   obtain ⟨m, hat, m0, m1⟩ : ∃ m : Int, atI [V.int 1, V.int (10 ^ (19 : Int).toNat), V.int (10 ^ (38 : Int).toNat), V.int (10 ^ (57 : Int).toNat)] b = some (.int m) ∧ 0 < m ∧ m ≤ 10 ^ 57 := by
    have z : b = 0 ∨ b = 1 ∨ b = 2 ∨ b = 3 := by omega
    rcases z with rfl | rfl | rfl | rfl
    ·exact ⟨_, rfl, by decide +kernel, by decide +kernel⟩
    ·exact ⟨_, rfl, by decide +kernel, by decide +kernel⟩
    ·exact ⟨_, rfl, by decide +kernel, by decide +kernel⟩
    ·exact ⟨_, rfl, by decide +kernel, by decide +kernel⟩
   refine ⟨_, _, _, _, rfl, rfl, SqL.of (k3 p _ (nd s2 hp) zac), hat, _, _, rfl, rfl, .inl ⟨by omega, by omega⟩, ?_⟩
   obtain ⟨f1, f2⟩ := zlX (x := u - 999) (m := m) (by omega) (by omega) m0 m1
   exact q _ H3 f1 f2 ((k1.trans k2).trans ((zal hp _).keep.trans k3)) s3
  ·exact ⟨rfl, rfl⟩
 rintro σ' H' ⟨rfl, rfl⟩
 refine ⟨_, rfl, (by show 2 ≤ sizeLine; decide), fun p hp => ?_⟩
 refine ⟨_, rfl, d, L, 2, rfl, by decide, s1.of_new hp _, fun b H2 b0 b1 k2 s2 => ?_⟩
 obtain ⟨m, hat, hm⟩ : ∃ m : Int, atI [V.int 1, V.int (-1)] b = some (.int m) ∧ (m = 1 ∨ m = -1) := by
  have z : b = 0 ∨ b = 1 := by omega
  rcases z with rfl | rfl
  ·exact ⟨_, rfl, .inl rfl⟩
  ·exact ⟨_, rfl, .inr rfl⟩
 refine ⟨_, _, _, _, rfl, rfl, SqL.of (k2 p _ (nd s1 hp) zac), hat, _, _, rfl, rfl, ⟨by decide, by decide, by decide⟩, _, _, rfl, rfl, _, rfl, d, L, 3, rfl, by decide, s2, fun u H3 u0 u1 k3 s3 => ⟨_, _, rfl, rfl, _, _, rfl, rfl, .inl ⟨by omega, by omega⟩, ?_⟩⟩
 have e60 : (10 : Int) ^ (60 : Int).toNat = 10 ^ 60 := rfl
 rw [e60]
 have kk := k1.trans ((zal hp _).keep.trans (k2.trans k3))
 rcases hm with rfl | rfl
 ·exact q _ H3 (by omega) (by omega) kk s3
 ·exact q _ H3 (by omega) (by omega) kk s3
def Rise (es : List (Int × Int)) : Prop := es.Pairwise fun a b => pLt a b = true
def zdy (k : Int) (e : Int × Int) : Prop := -(10 ^ 60) < e.1 ∧ e.1 < 10 ^ 60 ∧ 0 ≤ e.2 ∧ e.2 < k
def toPair : List Key → Int × Int
 | [.inl a, .inl b] => (a, b)
 | _ => (0, 0)
def KeyOk (k : Int) (x : List Key) : Prop := ∃ a b : Int, x = [.inl a, .inl b] ∧ zdy k (a, b)
theorem zj5 {κ : Type} [DecidableEq κ] (kvs : List (κ × V)) (k : κ) (v : V) : (putK kvs k v).map (·.1) = if (kvs.any fun kv => decide (kv.1 = k)) = true then kvs.map (·.1) else kvs.map (·.1) ++ [k] := by
 unfold putK
 split
 ·rw [List.map_map]
  apply List.map_congr_left
  intro a ha
  show (if a.1 = k then (a.1, v) else a).1 = a.1
  split <;> rfl
 ·rw [List.map_append]
  rfl
def zgV (e : Int × Int) : Int := 64 * (if 0 ≤ e.1 then 2 * e.1 else -2 * e.1 - 1) + e.2
def zfi (e : Int × Int) : Nat := (zgV e).toNat
theorem zeE {e : Int × Int} (h : zdy 64 e) : ((zfi e : Nat) : Int) = zgV e := by
 obtain ⟨h1, h2, h3, h4⟩ := h
 unfold zfi zgV
 split <;> omega
theorem zmf {e : Int × Int} (h : zdy 64 e) : zfi e < 2 ^ 207 := by
 have z := zeE h
 obtain ⟨h1, h2, h3, h4⟩ := h
 unfold zgV at z
 split at z <;> omega
theorem zk6 {e f : Int × Int} (h : zdy 64 e) (g : zdy 64 f) (z : zfi e = zfi f) : e = f := by
 have z1 := zeE h
 have z2 := zeE g
 obtain ⟨h1, h2, h3, h4⟩ := h
 obtain ⟨g1, g2, g3, g4⟩ := g
 obtain ⟨a, b⟩ := e
 obtain ⟨c, d⟩ := f
 rw [z, z2] at z1
 unfold zgV at z1
 dsimp only at *
 have : a = c ∧ b = d := by
  split at z1 <;> split at z1 <;> omega
 rw [this.1, this.2]
def zmv (K : PySem.W.Frag) : Sp := fun vs H Q _ => ∃ (v : V) (e : Int × Int), vs = [v] ∧ Rep.has K H e v ∧ Q (.int (zgV e)) H
theorem znj (T : Txt K mg) (D_code : DF K mg "code" zdQ zec) : FC P w K mg base 1 "code" zec (zmv K) := by
 refine D_code.ok sc_code (fun vs H Q E h => ?_) (fun f cdv A outer s H vs Q E hr h => ?_)
 ·obtain ⟨v, e, rfl, _⟩ := h
  rfl
 obtain ⟨v, e, rfl, he, q⟩ := h
 obtain ⟨p, x1, x2, rfl, hT, e1, e2⟩ := (show hasP K H e v from he)
 have hT := SqT.of (K := K) hT
 have e1 : x1 = .int e.1 := e1
 have e2 : x2 = .int e.2 := e2
 subst e1 e2
 refine ⟨_, (zag (zat (i := 1) sc_code.nd rfl (Or.inl rfl) (zaZ zcm (pv 0) zaf (fun _ _ => rfl)))
   (zag (zat (i := 2) sc_code.nd rfl (Or.inl rfl) (zid (zaJ zou (pv 1) zaf (zbc _)) (zav zcK zaf (pv 1)) (zav zcu (zav zcK (ziZ zfk zaf) (pv 1)) zaf)))
   (zai (zaC (zav zbv (zav zcK (zie rfl T.g_KNOT_NUMBERS) (pv 2)) (zaZ zcm (pv 0) zaf (fun _ _ => rfl))))))), ?_⟩
 refine ⟨_, rfl, _, _, _, _, rfl, rfl, hT, rfl, ?_⟩
 refine ⟨_, rfl, _, _, rfl, rfl, _, rfl, ?_⟩
 refine ite2 (fun c => ?_) (fun c => ?_)
 ·have c' : 0 ≤ e.1 := of_decide_eq_true c
  refine ⟨_, rfl, _, _, rfl, rfl, .inl ⟨by decide, by decide⟩, ?_⟩
  refine ⟨_, rfl, _, _, rfl, rfl, .inl ⟨by decide, by decide⟩, _, rfl, _, _, _, _, rfl, rfl, hT, rfl, _, _, rfl, rfl, ?_⟩
  unfold zgV at q
  rw [if_pos c'] at q
  exact q
 ·have c' : ¬ 0 ≤ e.1 := of_decide_eq_false (Bool.eq_false_iff.mpr c)
  refine ⟨_, rfl, _, rfl, _, _, rfl, rfl, .inl ⟨by decide, by decide⟩, _, _, rfl, rfl, ?_⟩
  refine ⟨_, rfl, _, _, rfl, rfl, .inl ⟨by decide, by decide⟩, _, rfl, _, _, _, _, rfl, rfl, hT, rfl, _, _, rfl, rfl, ?_⟩
  unfold zgV at q
  rw [if_neg c'] at q
  exact q
abbrev nV (n : Nat) : V := .int (n : Int)
theorem zoE {v : Int} (h : 0 ≤ v) : ∃ n : Nat, v = (n : Int) := ⟨v.toNat, by omega⟩
theorem zlj {xs : List Nat} {i : Nat} (h : i < xs.length) : atI (xs.map nV) (i : Int) = some (nV (xs.getD i 0)) :=
 zbk (by rw [List.getElem?_map, List.getElem?_eq_getElem h, List.getD_eq_getElem?_getD, List.getElem?_eq_getElem h]; rfl)
theorem znK {xs : List Nat} {i : Nat} (h0 : i ≠ 0) (h : i < xs.length) : atI (xs.map nV) ((i : Int) - 1) = some (nV (xs.getD (i - 1) 0)) := by
 have e : (i : Int) - 1 = ((i - 1 : Nat) : Int) := by omega
 rw [e]
 exact zlj (by omega)
theorem ziA {xs : List Nat} {i : Nat} {x : V} (h : (xs.map nV)[i]? = some x) : i < xs.length ∧ x = nV (xs.getD i 0) := by
 rw [List.getElem?_map] at h
 cases e : xs[i]? with
 | none => rw [e] at h; cases h
 | some y =>
  rw [e] at h
  refine ⟨(List.getElem?_eq_some_iff.mp e).1, ?_⟩
  rw [List.getD_eq_getElem?_getD, e]
  exact (Option.some.inj h).symm
theorem znM (n : Nat) : Builtin.bitAnd (n : Int) 1 = ((n % 2 : Nat) : Int) := by
 unfold Builtin.bitAnd
 rw [decide_eq_true (Int.natCast_nonneg n), decide_eq_true (by decide : (0 : Int) ≤ 1)]
 show ((n &&& 1 : Nat) : Int) = _
 rw [Nat.and_one_is_mod]
theorem fig_is (a b : Nat) : 2 * ((lu a b : Nat) : Int) + Builtin.bitAnd ((b : Int) / 2 ^ ((lu a b : Nat) : Int).toNat) 1 = ((fig a b : Nat) : Int) := by
 have e : (b : Int) / 2 ^ ((lu a b : Nat) : Int).toNat = ((b / 2 ^ lu a b : Nat) : Int) := by
  rw [Int.toNat_natCast, Int.natCast_ediv, Int.natCast_pow]
  rfl
 rw [e, znM]
 unfold fig
 omega
def But (p : Addr) (H H' : Hp) : Prop := ∀ b o, b ≠ p → H b = some o → H' b = some o
theorem But.sq {K : PySem.W.Frag} {p : Addr} {H H' : Hp} {a : Addr} {xs : List V} (k : But p H H') (h : SqL K H a xs) (n : H p = none) : SqL K H' a xs := by
 rcases h with (h | ⟨o, h⟩) | h
 ·exact .inl (.inl (k _ _ (zab h n) h))
 ·exact .inl (.inr ⟨o, k _ _ (zab h n) h⟩)
 ·exact .inr h
theorem zkS (xs : List Nat) : (xs.map nV).all zfg = true := by
 rw [List.all_eq_true]
 intro x hx
 obtain ⟨n, _, rfl⟩ := List.mem_map.mp hx
 rfl
theorem zmL (n : Nat) (xs : List Nat) : inV (.int (n : Int)) (xs.map nV) = decide (n ∈ xs) := by
 unfold inV
 induction xs with
 | nil => rfl
 | cons x xs ih =>
  rw [List.map_cons, List.any_cons, ih]
  show ((x : Int) == (n : Int) || decide (n ∈ xs)) = decide (n ∈ x :: xs)
  by_cases h : x = n
  ·subst h
   simp
  ·have : ((x : Int) == (n : Int)) = false := by
    rw [beq_eq_false_iff_ne]
    omega
   rw [this, Bool.false_or]
   have e : (n ∈ x :: xs) = (n ∈ xs) := propext (by simp [Ne.symm h])
   simp [Ne.symm h]
def zh2 (K : PySem.W.Frag) : Sp := fun vs H Q _ => ∃ (a : Addr) (xs : List Nat), vs = [.ref a] ∧ SqL K H a (xs.map nV) ∧ Unl xs ∧ xs.length ≤ 1000 ∧
 ∀ (p : Addr) (H' : Hp), H p = none → Same H H' → H' p = some (.lst ((zcx xs).map nV)) → Q (.ref p) H'
theorem zke (T : Txt K mg) (D_turned : DF K mg "turned" zbW zcD) (F_lowest_unlike : FC P w K mg base 1 "lowest_unlike" zaP zn8) : FC P w K mg base 2 "turned" zcD (zh2 K) := by
 refine D_turned.ok sc_turned (fun vs H Q E h => ?_) (fun f cdv A outer s H vs Q E hr h => ?_)
 ·obtain ⟨a, xs, rfl, _⟩ := h
  rfl
 obtain ⟨a, xs, rfl, hS, hu, hz, q⟩ := h
 refine ⟨_, (zag (zat (i := 1) sc_turned.nd rfl (Or.inl rfl) (zcJ zae))
   (zag (zbu PassesOwn.never rfl (zda rfl T.m_enumerate (zaa (pv 0) zae)) (zgA rfl (zbO (zaq (i := 2) sc_turned.nd rfl (Or.inl rfl)) (zbO (zaq (i := 3) sc_turned.nd rfl (Or.inl rfl)) zeO))) (zai (zdw (zaJ zff (pv 2) zaf (zbc _)) (zai (zcy (zfe F.plainAttrs_list F.slot_list_append F.type_list_append zbl (pv 1) (zaa (zav zeq (pv 3) zaf) zae)))) (zag (zat (i := 4) sc_turned.nd rfl (Or.inl rfl) (zaM F_lowest_unlike hr (zaa (zaZ zaK (pv 0) (zav zcu (pv 2) zaf) (fun _ _ => rfl)) (zaa (pv 3) zae))))
   (zai (zcy (zfe F.plainAttrs_list F.slot_list_append F.type_list_append zbl (pv 1) (zaa (zav zbv (zav zcK zaf (pv 4)) (zav zmI (zav zor (pv 3) (pv 4)) zaf)) zae))))))))
   (zai (zaC (pv 1))))), ?_⟩
 refine ⟨(by show 0 ≤ sizeLine; decide), fun p hp => ?_⟩
 have k0 : But p H (upd H p (.lst [])) := fun b o n e => by rw [zah n]; exact e
 refine ⟨_, rfl, a, rfl, ⟨_, k0.sq hS hp⟩, ?_⟩
 refine zgf (xs := xs.map nV) (fun i σ H2 => ∃ x2 x3 x4 : Option V, σ = [some (.ref a), some (.ref p), x2, x3, x4] ∧ H2 p = some (.lst (((zcx xs).take i).map nV)) ∧ But p H H2) ?_ ?_ ?_ ?_
 ·exact ⟨_, _, _, rfl, zac, k0⟩
 ·rintro i σ H2 _ ⟨x2, x3, x4, rfl, _, k2⟩
  exact k2.sq hS hp
 ·rintro i x σ H2 r hx ⟨x2, x3, x4, rfl, h2, k2⟩ hr
  obtain ⟨hi, rfl⟩ := ziA hx
  have hS2 := k2.sq hS hp
  have np : p ≠ r := zab h2 hr
  have h3 : upd H2 r (.tup [.int i, nV (xs.getD i 0)]) p = some (.lst (((zcx xs).take i).map nV)) := by rw [zah np]; exact h2
  have k3 : But p H (upd H2 r (.tup [.int i, nV (xs.getD i 0)])) := fun b o n e => (zal hr _) b o (k2 b o n e)
  have hS3 := k3.sq hS hp
  have hlen : (((zcx xs).take i).map nV).length < sizeLine := zau (by rw [List.length_map, List.length_take, zbd]; omega)
  refine ⟨r, _, rfl, SqT.of zac, rfl, _, _, rfl, _, _, rfl, rfl, ?_⟩
  generalize upd H2 r (.tup [.int i, nV (xs.getD i 0)]) = H3 at h3 k3 hS3 ⊢
  have fin : ∀ v : V, v = nV (zdz xs i) → ∃ y2 y3 y4 : Option V, [some (V.ref a), some (V.ref p), y2, y3, y4] = [some (V.ref a), some (V.ref p), y2, y3, y4] ∧ upd H3 p (.lst (((zcx xs).take i).map nV ++ [v])) p = some (.lst (((zcx xs).take (i + 1)).map nV)) ∧ But p H (upd H3 p (.lst (((zcx xs).take i).map nV ++ [v]))) := by
   rintro v rfl
   refine ⟨none, none, none, rfl, ?_, fun b o n e => by rw [zah n]; exact k3 b o n e⟩
   rw [zac, ziU hi, List.map_append]
   rfl
  refine ⟨_, rfl, rfl, _, rfl, ?_⟩
  refine ite2 (fun c => ?_) (fun c => ?_)
  ·have c' : i = 0 := by
    have := V.int.inj (of_decide_eq_true c)
    omega
   refine ⟨_, rfl, .inl ⟨rfl, _, SqL.of h3⟩, _, rfl, _, _, rfl, rfl, (by show (0 : Int) < 2; decide), _, _, _, rfl, rfl, h3, hlen, ?_⟩
   obtain ⟨_, _, _, _, g2, g3⟩ := fin (.int (((xs.getD i 0 : Nat) : Int) % 2)) (by
    unfold zdz
    rw [if_pos c', c']
    show V.int _ = V.int _
    rw [Int.natCast_emod]
    rfl)
   exact ⟨_, _, _, rfl, g2, g3⟩
  ·have c' : i ≠ 0 := fun z => c (by subst z; decide)
   have hne : xs.getD (i - 1) 0 ≠ xs.getD i 0 := by
    have := hu (i - 1) (by omega)
    rw [show i - 1 + 1 = i by omega] at this
    exact this
   refine ⟨_, rfl, _, rfl, _, _, rfl, rfl, _, _, _, _, rfl, rfl, hS3, znK c' hi, _, rfl, _, _, rfl, hne, ?_⟩
   refine ⟨_, rfl, .inl ⟨rfl, _, SqL.of h3⟩, _, rfl, _, _, rfl, rfl, .inl ⟨by decide, by decide⟩, _, rfl, _, rfl, _, _, rfl, rfl, Int.natCast_nonneg _, _, _, rfl, rfl, _, _, rfl, rfl, _, _, _, rfl, rfl, h3, hlen, ?_⟩
   obtain ⟨_, _, _, _, g2, g3⟩ := fin (.int (2 * ((lu (xs.getD (i - 1) 0) (xs.getD i 0) : Nat) : Int) + Builtin.bitAnd (((xs.getD i 0 : Nat) : Int) / 2 ^ ((lu (xs.getD (i - 1) 0) (xs.getD i 0) : Nat) : Int).toNat) 1)) (by
    unfold zdz
    rw [if_neg c', fig_is])
   exact ⟨_, _, _, rfl, g2, g3⟩
 ·rintro σ H2 ⟨x2, x3, x4, rfl, h2, k2⟩
  refine ⟨_, rfl, ?_⟩
  refine q p H2 hp (fun b o e => k2 b o (zab e hp) e) ?_
  rw [h2, List.take_of_length_le (by rw [zbd, List.length_map]; exact Nat.le_refl _)]
def zc5 : Nat → List Nat → List Nat
 | 0, xs => xs
 | n + 1, xs => zcx (zc5 n xs)
theorem zct (n : Nat) (xs : List Nat) : (zc5 n xs).length = xs.length := by
 induction n with
 | zero => rfl
 | succ n ih => rw [zc5, zbd, ih]
theorem zcB {xs : List Nat} (h : Unl xs) (n : Nat) : Unl (zc5 n xs) := by
 induction n with
 | zero => exact h
 | succ n ih => exact zjK ih
theorem zdu {m k : Nat} {xs : List Nat} (h : zc6 m xs) (hk : m ≤ k) : zc6 k xs := fun i hi => Nat.lt_of_lt_of_le (h i hi) hk
theorem zmZ {xs : List Nat} (h : Unl xs) (hb : zc6 (2 ^ 207) xs) : zc6 414 (zc5 1 xs) := zcg (k := 207) (by decide) h hb
theorem zmY {xs : List Nat} (h : Unl xs) (hb : zc6 (2 ^ 207) xs) : zc6 18 (zc5 2 xs) := zcg (k := 9) (by decide) (zcB h 1) (zdu (zmZ h hb) (by decide))
theorem zmX {xs : List Nat} (h : Unl xs) (hb : zc6 (2 ^ 207) xs) : zc6 10 (zc5 3 xs) := zcg (k := 5) (by decide) (zcB h 2) (zdu (zmY h hb) (by decide))
theorem zmW {xs : List Nat} (h : Unl xs) (hb : zc6 (2 ^ 207) xs) : zc6 8 (zc5 4 xs) := zcg (k := 4) (by decide) (zcB h 3) (zdu (zmX h hb) (by decide))
theorem zmV {xs : List Nat} (h : Unl xs) (hb : zc6 (2 ^ 207) xs) : zc6 6 (zc5 5 xs) := zcg (k := 3) (by decide) (zcB h 4) (zdu (zmW h hb) (by decide))
def zcP (es : List (Int × Int)) : List Nat := es.map zfi
theorem zaV (es : List (Int × Int)) : (zcP es).length = es.length := List.length_map _
theorem zek {es : List (Int × Int)} {i : Nat} (h : i < es.length) : (zcP es).getD i 0 = zfi es[i] := by
 unfold zcP
 rw [List.getD_eq_getElem?_getD, List.getElem?_map, List.getElem?_eq_getElem h]
 rfl
theorem zhN {es : List (Int × Int)} (h : ∀ e ∈ es, zdy 64 e) : zc6 (2 ^ 207) (zcP es) := fun i hi => by
 rw [zaV] at hi
 rw [zek hi]
 exact zmf (h _ (List.getElem_mem hi))
theorem ze5 {es : List (Int × Int)} (h : ∀ e ∈ es, zdy 64 e) (hr : Rise es) : Unl (zcP es) := fun i hi => by
 rw [zaV] at hi
 rw [zek (by omega), zek hi]
 intro z
 have e := zk6 (h _ (List.getElem_mem (by omega))) (h _ (List.getElem_mem hi)) z
 have := List.pairwise_iff_getElem.mp hr i (i + 1) (by omega) hi (by omega)
 rw [e] at this
 have q := zcX.mp this
 omega
theorem zjq {es : List (Int × Int)} {i : Nat} (h : i < es.length) : (zcP es).take (i + 1) = (zcP es).take i ++ [zfi es[i]] := by
 have h' : i < (zcP es).length := by rw [zaV]; exact h
 have z : (zcP es)[i]'h' = zfi es[i] := List.getElem_map zfi
 rw [List.take_succ_eq_append_getElem h', z]
def zh4 (K : PySem.W.Frag) : Sp := fun vs H Q _ => ∃ (a : Addr) (ws : List V) (es : List (Int × Int)), vs = [.ref a] ∧ SqL K H a ws ∧ zaj K H es ws ∧ es.length ≤ 1000 ∧ (∀ e ∈ es, zdy 64 e) ∧ Rise es ∧
 ∀ (p : Addr) (H' : Hp), H p = none → Same H H' → H' p = some (.lst ((zc5 5 (zcP es)).map nV)) → Q (.ref p) H'
theorem zjr {K : PySem.W.Frag} {H0 H2 : Hp} {D : Addr} {es : List (Int × Int)} {ws : List V} {i : Nat} {x : V} (hD : H0 D = none) (hw : zaj K H0 es ws) (hx : ws[i]? = some x) (k : But D H0 H2) : ∃ h : i < es.length, Rep.has K H2 es[i] x := by
 obtain ⟨e, h1, h2⟩ := hw.get hx
 have hi := (List.getElem?_eq_some_iff.mp h1).1
 refine ⟨hi, ?_⟩
 have z : es[i] = e := (List.getElem?_eq_some_iff.mp h1).2
 rw [z]
 obtain ⟨a, x1, x2, rfl, q, e1, e2⟩ := (show hasP K H0 e x from h2)
 exact ⟨a, x1, x2, rfl, k _ _ (zab q hD) q, e1, e2⟩
theorem zki (T : Txt K mg) (D_labels : DF K mg "labels" zbX zcE) (F_code : FC P w K mg base 1 "code" zec (zmv K)) (F_turned : FC P w K mg base 2 "turned" zcD (zh2 K)) : FC P w K mg base 3 "labels" zcE (zh4 K) := by
 refine D_labels.ok sc_labels (fun vs H Q E h => ?_) (fun f cdv A outer s H vs Q E hr h => ?_)
 ·obtain ⟨a, ws, es, rfl, _⟩ := h
  rfl
 obtain ⟨a, ws, es, rfl, hS, hw, hz, he, hri, q⟩ := h
 have hlen := hw.length
 refine ⟨_, (zag (zeK (i := 1) (N := ["entry"]) (own := 1) (cap := []) sc_labels.nd rfl rfl rfl (zcz (pv 0)) ⟨rfl, rfl, rfl, rfl, rfl, rfl⟩ (fun _ _ _ _ _ => (zaq (i := 0) (show List.Nodup (["entry"] : List Str) by decide +kernel) rfl (Or.inl rfl))) (fun _ _ _ _ _ => zdI) (fun _ _ _ _ _ => (zaM F_code hr (zaa (pv 0) zae))))
   (zag (zbu PassesOwn.never rfl (zcI rfl T.m_range (zaa (zie rfl T.g_TURNS) zae)) (zaq (i := 2) sc_labels.nd rfl (Or.inl rfl)) (zai (zat (i := 1) sc_labels.nd rfl (Or.inl rfl) (zaM F_turned hr (zaa (pv 1) zae)))))
   (zai (zaC (pv 1))))), ?_⟩
 refine ⟨_, rfl, a, rfl, ⟨_, hS⟩, fun D hD => ?_⟩
 have k0 : But D H (upd H D (.lst [])) := fun b o n e => by rw [zah n]; exact e
 refine zcO (xs := ws) (fun i σ H2 => ∃ x0 : Option V, σ = [x0] ∧ H2 D = some (.lst (((zcP es).take i).map nV)) ∧ But D H H2) ?_ ?_ ?_ ?_
 ·exact ⟨_, rfl, zac, k0⟩
 ·rintro i σ H2 _ ⟨x0, rfl, _, k2⟩
  exact k2.sq hS hD
 ·rintro i m x σ H2 hx hm ⟨x0, rfl, h2, k2⟩
  obtain ⟨hi, hhas⟩ := zjr hD hw hx k2
  refine zeX ?_
  refine ⟨_, rfl, x, es[i], rfl, hhas, ?_⟩
  refine ⟨_, h2, zau (by rw [List.length_map, List.length_take, zaV]; omega), m - 1, by omega, by omega, _, rfl, ?_, fun b o n e => by rw [zah n]; exact k2 b o n e⟩
  rw [zac, zjq hi, List.map_append, ← zeE (he _ (List.getElem_mem hi))]
  rfl
 ·rintro σ H2 ⟨x0, rfl, h2, k2⟩
  have e0 : H2 D = some (.lst ((zcP es).map nV)) := by
   rw [h2, List.take_of_length_le (by rw [zaV]; omega)]
  have same0 : Same H H2 := fun b o e => k2 b o (zab e hD) e
  refine ⟨5, rfl, by decide, by decide, ?_⟩
  refine zbS (n := 5) (fun i σ H3 => ∃ (p : Addr) (x2 x3 : Option V), σ = [some (.ref a), some (.ref p), x2] ∧ H p = none ∧ Same H H3 ∧ H3 p = some (.lst ((zc5 i (zcP es)).map nV))) ?_ ?_ ?_
  ·exact ⟨D, _, none, rfl, hD, same0, e0⟩
  ·rintro i σ H3 hi ⟨p, x2, x3, rfl, hp, s3, h3⟩
   refine ⟨_, rfl, p, _, rfl, SqL.of h3, zcB (ze5 he hri) i, by rw [zct, zaV]; exact hz, fun p4 H4 hp4 s4 h4 => ?_⟩
   exact ⟨p4, _, none, rfl, s3.free hp4, s3.trans s4, h4⟩
  ·rintro σ H3 ⟨p, x2, x3, rfl, hp, s3, h3⟩
   refine ⟨_, rfl, ?_⟩
   exact q p H3 hp s3 h3
theorem zhe {n d i : Nat} : HT.sIx n d (some (i : Int)) = min i n := by
 unfold HT.sIx
 simp
 try omega
theorem ziF (xs : List V) (a b : Nat) : cutV xs (some (a : Int)) (some (b : Int)) = (xs.drop a).take (b - a) := by
 unfold cutV
 rw [zhe, zhe]
 by_cases h : a ≤ xs.length
 ·rw [Nat.min_eq_left h]
  by_cases h2 : b ≤ xs.length
  ·rw [Nat.min_eq_left h2]
  ·rw [Nat.min_eq_right (by omega), List.take_of_length_le (by rw [List.length_drop]; exact Nat.le_refl _), List.take_of_length_le (by rw [List.length_drop]; omega)]
 ·rw [Nat.min_eq_right (show xs.length ≤ a by omega), List.drop_eq_nil_of_le (Nat.le_refl _), List.drop_eq_nil_of_le (show xs.length ≤ a by omega)]
  simp
theorem zfn {α : Type} (xs : List α) (k : Nat) : (xs.drop k).take 1 = xs[k]?.toList := by
 by_cases h : k < xs.length
 ·rw [List.drop_eq_getElem_cons h, List.getElem?_eq_getElem h]
  rfl
 ·rw [List.drop_eq_nil_of_le (by omega), List.getElem?_eq_none (by omega)]
  rfl
theorem zk4 {xs : List V} {k : Nat} {i j : Int} (hi : i = if (k : Int) - 1 > 0 then (k : Int) - 1 else 0) (hj : j = (k : Int)) : cutV xs (some i) (some j) = (if k = 0 then none else xs[k - 1]?).toList := by
 subst hj
 have e : i = ((k - 1 : Nat) : Int) := by
  rw [hi]
  split <;> omega
 subst e
 rw [ziF]
 split
 ·rename_i h
  subst h
  simp
 ·rw [show k - (k - 1) = 1 by omega, zfn]
theorem zjp {xs : List V} {k : Nat} {i j : Int} (hi : i = (k : Int) + 1) (hj : j = (k : Int) + 2) : cutV xs (some i) (some j) = xs[k + 1]?.toList := by
 subst hi hj
 rw [show (k : Int) + 1 = ((k + 1 : Nat) : Int) by omega, show (k : Int) + 2 = ((k + 2 : Nat) : Int) by omega, ziF, show k + 2 - (k + 1) = 1 by omega, zfn]
theorem zld (xs : List Nat) (k : Nat) : (if k = 0 then none else (xs.map nV)[k - 1]?).toList ++ (xs.map nV)[k + 1]?.toList = (zaX xs k).map nV := by
 unfold zaX
 rw [List.map_append, List.getElem?_map, List.getElem?_map]
 congr 1
 ·split
  ·rfl
  ·cases xs[k - 1]? <;> rfl
 ·cases xs[k + 1]? <;> rfl
theorem But.new {p b : Addr} {H H2 : Hp} (k : But p H H2) (hb : H2 b = none) (o : HO) : But p H (upd H2 b o) := fun x o' n e => (zal hb o) x o' (k x o' n e)
def zgu (K : PySem.W.Frag) : Sp := fun vs H Q _ => ∃ (a : Addr) (xs : List Nat), vs = [.ref a] ∧ SqL K H a (xs.map nV) ∧ Unl xs ∧ zc6 6 xs ∧ xs.length ≤ 1000 ∧
 ∀ (p : Addr) (H' : Hp), H p = none → Same H H' → H' p = some (.lst ((colL xs).map nV)) → Q (.ref p) H'
def zbU (es : List (Int × Int)) : List Bool := zdd (colL (zc5 5 (zcP es)))
theorem zbj (es : List (Int × Int)) : (zbU es).length = es.length := by
 unfold zbU
 rw [zdW, ze4, zct, zaV]
theorem zhu {es : List (Int × Int)} (he : ∀ e ∈ es, zdy 64 e) (hri : Rise es) : Unl (zc5 5 (zcP es)) := zcB (ze5 he hri) 5
theorem zgN {es : List (Int × Int)} (he : ∀ e ∈ es, zdy 64 e) (hri : Rise es) : zc6 6 (zc5 5 (zcP es)) := zmV (ze5 he hri) (zhN he)
theorem zlf {xs : List Nat} (h : zc6 6 xs) : ∀ i x, atZ xs i = some x → x ≤ 5 := fun i x e => by
 obtain ⟨h0, h1⟩ := zgj e
 have := h i.toNat (by omega)
 unfold atZ at e
 rw [if_pos h0] at e
 rw [List.getD_eq_getElem?_getD, e] at this
 exact Nat.lt_succ_iff.mp this
theorem zgH {es : List (Int × Int)} (he : ∀ e ∈ es, zdy 64 e) (hri : Rise es) : zdi (zbU es) := zkt (ziG (unlZ (zhu he hri))) (znH (zlf (zgN he hri)))
def zjW (K : PySem.W.Frag) : Sp := fun vs H Q _ => ∃ (a : Addr) (ws : List V) (es : List (Int × Int)), vs = [.ref a] ∧ H a = some (.lst ws) ∧ zaj K H es ws ∧ es.length ≤ 1000 ∧ (∀ e ∈ es, zdy 64 e) ∧ Rise es ∧
 ∀ (p : Addr) (H' : Hp), H p = none → Same H H' → H' p = some (.lst ((zbU es).map V.bl)) → Q (.ref p) H'
def zfP (K : PySem.W.Frag) : Sp := fun vs H Q _ => ∃ (a : Addr) (ws : List V) (es : List (Int × Int)), vs = [.ref a] ∧ H a = some (.lst ws) ∧ zaj K H es ws ∧ es.length ≤ 1000 ∧ (∀ e ∈ es, zdy 64 e) ∧ Rise es ∧
 ∀ (p : Addr) (H' : Hp), H p = none → Same H H' → H' p = some (.lst (zcN ws (zbU es))) → Q (.ref p) H'
theorem zfm (o : Option Bool) : o.toList.any id = o.getD false := by
 cases o with
 | none => rfl
 | some b => cases b <;> rfl
theorem zl1 (ms : List Bool) : inV (.bl true) (ms.map V.bl) = ms.any id := by
 unfold inV
 induction ms with
 | nil => rfl
 | cons m ms ih =>
  rw [List.map_cons, List.any_cons, ih, List.any_cons]
  cases m <;> rfl
theorem znE (ms : List Bool) : (ms.map V.bl).all zfg = true := by
 rw [List.all_eq_true]
 intro x hx
 obtain ⟨n, _, rfl⟩ := List.mem_map.mp hx
 rfl
theorem zgP {α : Type} {as : List α} {bs : List Bool} {a : α} {b : Bool} (h : as.length = bs.length) : zcN (as ++ [a]) (bs ++ [b]) = zcN as bs ++ (if b = true then [a] else []) := by
 unfold zcN
 rw [List.zip_append h, List.filter_append, List.map_append]
 congr 1
 cases b <;> rfl
theorem zhB {α : Type} (as : List α) (bs : List Bool) : (zcN as bs).length ≤ as.length := by
 unfold zcN
 rw [List.length_map]
 refine Nat.le_trans (List.length_filter_le _ _) ?_
 rw [List.length_zip]
 omega
theorem zgb {α : Type} [Rep α] {K : PySem.W.Frag} {H : Hp} : ∀ {es : List α} {ws : List V} {ms : List Bool}, zaj K H es ws → zaj K H (zcN es ms) (zcN ws ms)
 | _, _, _, .nil => by
  unfold zcN
  exact .nil
 | e :: es, w :: ws, [], .cons h t => by
  unfold zcN
  exact .nil
 | e :: es, w :: ws, m :: ms, .cons h t => by
  have := zgb (ms := ms) t
  unfold zcN at this ⊢
  cases m with
  | false => exact this
  | true => exact .cons h this
theorem zdG (bs : List Nat) (c : Nat) : ((List.range (c + 1)).filter fun c => !decide (c ∈ bs)) = ((List.range c).filter fun c => !decide (c ∈ bs)) ++ (if c ∈ bs then [] else [c]) := by
 rw [List.range_succ, List.filter_append]
 congr 1
 by_cases h : c ∈ bs
 ·rw [if_pos h]
  simp [List.filter, h]
 ·rw [if_neg h]
  simp [List.filter, h]
theorem zdC {H : Hp} {p t : Addr} {xs ys : List V} (h1 : H p = some (.lst xs)) (h2 : H t = some (.tup ys)) : p ≠ t := fun z => by
 rw [z, h2] at h1
 cases h1
theorem zkG {n k : Nat} (h : k < n) : ixN n (k : Int) = some k := by
 unfold ixN
 simp
 omega
def besV (xs : List V) (k : Nat) : List V := (if k = 0 then none else xs[k - 1]?).toList ++ xs[k + 1]?.toList
theorem zhO (xs : List V) (k : Nat) : (besV xs k).length ≤ 2 := by
 have e : ∀ o : Option V, o.toList.length ≤ 1 := fun o => by cases o <;> simp
 unfold besV
 rw [List.length_append]
 have := e (if k = 0 then none else xs[k - 1]?)
 have := e xs[k + 1]?
 omega
def spNb (K : PySem.W.Frag) : Sp := fun vs H Q _ => ∃ (a : Addr) (xs : List V) (k : Nat), vs = [.ref a, .int k] ∧ H a = some (.lst xs) ∧
 ∀ (g : Addr) (H' : Hp), H g = none → Same H H' → H' g = some (.lst (besV xs k)) → Q (.ref g) H'
theorem zf4 (T : Txt K mg) (D_neighbours : DF K mg "neighbours" zaR za6) : FC P w K mg base 1 "neighbours" za6 (spNb K) := by
 refine D_neighbours.ok sc_neighbours (fun vs H Q E h => ?_) (fun f cdv A outer s H vs Q E hr h => ?_)
 ·obtain ⟨a, xs, k, rfl, _⟩ := h
  rfl
 obtain ⟨a, xs, k, rfl, ha, q⟩ := h
 refine ⟨_, (zai (zaC (zav zmH (zic zjZ (pv 0) (zfY (zaD (zgX rfl) rfl T.m_max boot_max (zaa (zav zcu (pv 1) zaf) (zaa zaf zae)))) (zfY (pv 1))) (zic zjZ (pv 0) (zfY (zav zbv (pv 1) zaf)) (zfY (zav zbv (pv 1) zaf)))))), ?_⟩
 refine ⟨_, rfl, _, rfl, _, _, rfl, rfl, _, _, rfl, _, rfl, _, rfl, _, rfl, _, _, rfl, SqL.of ha, fun b hb => ?_⟩
 have kb := zal hb (.lst (cutV xs (some (if 0 > (k : Int) - 1 then 0 else (k : Int) - 1)) (some (k : Int))))
 have hbb : upd H b (.lst (cutV xs (some (if 0 > (k : Int) - 1 then 0 else (k : Int) - 1)) (some (k : Int)))) b = some (.lst (if k = 0 then none else xs[k - 1]?).toList) := by
  rw [zac, zk4 (k := k) (by split <;> split <;> omega) rfl]
 generalize upd H b (.lst (cutV xs (some (if 0 > (k : Int) - 1 then 0 else (k : Int) - 1)) (some (k : Int)))) = H3 at kb hbb ⊢
 refine ⟨_, rfl, _, rfl, _, _, rfl, rfl, _, rfl, _, rfl, _, _, rfl, rfl, _, rfl, _, _, rfl, SqL.of (kb _ _ ha), fun c hc => ?_⟩
 have kc := zal hc (.lst (cutV xs (some ((k : Int) + 1)) (some ((k : Int) + 2))))
 have hcb := kc _ _ hbb
 have hcc : upd H3 c (.lst (cutV xs (some ((k : Int) + 1)) (some ((k : Int) + 2)))) c = some (.lst xs[k + 1]?.toList) := by
  rw [zac, zjp (k := k) rfl rfl]
 generalize upd H3 c (.lst (cutV xs (some ((k : Int) + 1)) (some ((k : Int) + 2)))) = H4 at kc hcb hcc ⊢
 refine ⟨b, c, _, _, rfl, rfl, hcb, hcc, ?_, fun g hg => ?_⟩
 ·rw [← List.length_append]
  exact Nat.le_trans (zhO xs k) (by decide)
 exact q g _ (kb.free (kc.free hg)) (kb.trans (kc.trans (zal hg _))) zac
def zmu (K : PySem.W.Frag) : Sp := fun vs H Q _ => ∃ (a : Addr) (xs : List Nat) (k : Nat), vs = [.ref a] ∧ H a = some (.lst ((zaX xs k).map nV)) ∧
 ∀ H' : Hp, Same H H' → Q (.int (zdF xs k : Nat)) H'
theorem zf5 (T : Txt K mg) (D_least_free : DF K mg "least_free" zaS zbh) : FC P w K mg base 1 "least_free" zbh (zmu K) := by
 refine D_least_free.ok sc_least_free (fun vs H Q E h => ?_) (fun f cdv A outer s H vs Q E hr h => ?_)
 ·obtain ⟨a, xs, k, rfl, _⟩ := h
  rfl
 obtain ⟨a, xs, k, rfl, ha, q⟩ := h
 refine ⟨_, (zai (zaC (zaD (zla rfl) rfl T.m_min boot_min (zaa (zdJ (N := ["colour", "taken"]) (own := 1) (cap := [0]) rfl (zeN (zdU (zaa zaf (zaa zaf (zaa zaf zae))))) ⟨rfl, rfl, rfl, rfl, rfl, rfl⟩ (fun _ _ _ _ _ => (zaq (i := 0) (show List.Nodup (["colour", "taken"] : List Str) by decide +kernel) rfl (Or.inl rfl))) (fun _ _ _ _ _ => (zeJ (zaJ (zf3 (K := K)) (pv 0) (pv 1) (by with_unfolding_all rfl)))) (fun _ _ _ _ _ => (pv 0))) zae)))), ?_⟩
 refine ⟨(by show 3 ≤ sizeLine; decide), fun t ht => ?_⟩
 have st := zal ht (.tup [V.int 0, V.int 1, V.int 2])
 have ht1 : upd H t (.tup [V.int 0, V.int 1, V.int 2]) t = some (.tup [V.int 0, V.int 1, V.int 2]) := zac
 generalize upd H t (.tup [V.int 0, V.int 1, V.int 2]) = H1 at st ht1 ⊢
 have h1a := st _ _ ha
 refine ⟨t, rfl, ⟨_, SqT.of ht1⟩, fun D hD => ?_⟩
 refine zgh (xs := [V.int 0, V.int 1, V.int 2]) (fun c σ H6 => ∃ x0 : Option V, σ = [x0, some (.ref a)] ∧ H6 D = some (.lst (((List.range c).filter fun c => !decide (c ∈ zaX xs k)).map nV)) ∧ But D H1 H6) ?_ ?_ ?_ ?_
 ·exact ⟨_, rfl, zac, fun b o n e => by rw [zah n]; exact e⟩
 ·rintro i σ H6 _ ⟨x0, rfl, _, k6⟩
  exact SqT.of (k6 _ _ (zab ht1 hD) ht1)
 ·rintro c m x σ H6 hx hm ⟨x0, rfl, h6, k6⟩
  obtain ⟨hi, rfl⟩ : c < 3 ∧ x = V.int (c : Int) := by
   rcases c with _ | _ | _ | c
   ·exact ⟨by decide, (Option.some.inj hx).symm⟩
   ·exact ⟨by decide, (Option.some.inj hx).symm⟩
   ·exact ⟨by decide, (Option.some.inj hx).symm⟩
   ·cases hx
  have h6g := k6 _ _ (zab h1a hD) h1a
  have hlen := List.length_filter_le (fun c => !decide (c ∈ zaX xs k)) (List.range c)
  rw [List.length_range] at hlen
  refine ⟨_, rfl, _, rfl, _, _, rfl, .inl (SqL.of h6g), rfl, zkS _, _, rfl, ?_⟩
  show if (!inV (.int (c : Int)) ((zaX xs k).map nV)) = true then _ else _
  rw [zmL]
  have hm3 : c + m = 3 := hm
  refine ite2 (fun e => ?_) (fun e => ?_)
  ·have e' : c ∉ zaX xs k := fun z => by
    rw [decide_eq_true z] at e
    cases e
   refine ⟨_, rfl, _, h6, zau (by rw [List.length_map]; omega), m - 1, by omega, (by show c + 1 + (m - 1) = 3; omega), _, rfl, ?_, fun b o n e => by rw [zah n]; exact k6 b o n e⟩
   rw [zac, zdG, if_neg e', List.map_append]
   rfl
  ·have e' : c ∈ zaX xs k := Decidable.byContradiction fun z => e (by rw [decide_eq_false z]; rfl)
   refine ⟨m - 1, by omega, (by show c + 1 + (m - 1) = 3; omega), _, rfl, ?_, k6⟩
   rw [h6, zdG, if_pos e', List.append_nil]
 ·rintro σ H6 ⟨x0, rfl, h6, k6⟩
  have h6 : H6 D = some (.lst (((List.range 3).filter fun c => !decide (c ∈ zaX xs k)).map nV)) := h6
  have s6 : Same H1 H6 := fun b o e => k6 b o (zab e hD) e
  have mem : ∀ c, c ∈ ((List.range 3).filter fun c => !decide (c ∈ zaX xs k)) ↔ c < 3 ∧ c ∉ zaX xs k := fun c => by
   rw [List.mem_filter, List.mem_range]
   constructor
   ·rintro ⟨h1, h2⟩
    refine ⟨h1, fun z => ?_⟩
    rw [decide_eq_true z] at h2
    cases h2
   ·rintro ⟨h1, h2⟩
    exact ⟨h1, by rw [decide_eq_false h2]; rfl⟩
  have hf : zdF xs k ∈ ((List.range 3).filter fun c => !decide (c ∈ zaX xs k)) := (mem _).mpr ⟨Nat.lt_succ_of_le (zkR xs k), zjl⟩
  refine ⟨D, ((List.range 3).filter fun c => !decide (c ∈ zaX xs k)).map fun n : Nat => (n : Int), rfl, ?_, ?_, fun M hM hL => ?_⟩
  ·rw [List.map_map]
   exact SqL.of h6
  ·rw [List.length_map]
   exact List.length_pos_of_mem hf
  have eM : M = (zdF xs k : Int) := by
   have h1 := hL _ (List.mem_map.mpr ⟨_, hf, rfl⟩)
   obtain ⟨c, hc, rfl⟩ := List.mem_map.mp hM
   have h2 : ¬ c < zdF xs k := fun z => ((mem c).mp hc).2 (zgR z)
   omega
  rw [eM]
  exact q _ (st.trans s6)
theorem znI (xs : List Nat) (k : Nat) : besV (xs.map nV) k = (zaX xs k).map nV := zld xs k
theorem zi5 (T : Txt K mg) (D_colours : DF K mg "colours" zbC zcd) (F_neighbours : FC P w K mg base 1 "neighbours" za6 (spNb K)) (F_least_free : FC P w K mg base 1 "least_free" zbh (zmu K)) : FC P w K mg base 3 "colours" zcd (zgu K) := by
 refine D_colours.ok sc_colours (fun vs H Q E h => ?_) (fun f cdv A outer s H vs Q E hr h => ?_)
 ·obtain ⟨a, xs, rfl, _⟩ := h
  rfl
 obtain ⟨a, xs, rfl, hS, hu, hb, hz, q⟩ := h
 refine ⟨_, (zag (zat (i := 1) sc_colours.nd rfl (Or.inl rfl) (zci zgY rfl T.m_list boot_list (zaa (pv 0) zae)))
   (zag (zbu PassesOwn.never rfl (zeN (zdU (zaa zaf (zaa zaf (zaa zaf zae))))) (zaq (i := 2) sc_colours.nd rfl (Or.inl rfl)) (zai (zbu PassesOwn.never rfl (zcI rfl T.m_range (zaa (zaD zaz rfl T.m_len boot_len (zaa (pv 0) zae)) zae)) (zaq (i := 3) sc_colours.nd rfl (Or.inl rfl)) (zai (zdw (zaJ zff (zaZ zaK (pv 1) (pv 3) (fun _ _ => rfl)) (pv 2) (zbc _)) (zai (zj7 (zaM F_least_free hr (zaa (zaM F_neighbours hr (zaa (pv 1) (zaa (pv 3) zae))) zae)) (zmE (pv 1) (pv 3) zh9))) zbF)))))
   (zai (zaC (pv 1))))), ?_⟩
 refine ⟨_, rfl, a, _, rfl, .inl hS, fun p hp => ?_⟩
 have k0 : But p H (upd H p (.lst (xs.map nV))) := fun b o n e => by rw [zah n]; exact e
 refine ⟨(by show 3 ≤ sizeLine; decide), fun t ht => ?_⟩
 have npt : p ≠ t := zab zac ht
 refine ⟨t, rfl, ⟨_, SqT.of zac⟩, ?_⟩
 refine zge (xs := [V.int 3, V.int 4, V.int 5]) (fun i σ H2 => ∃ x2 x3 : Option V, σ = [some (.ref a), some (.ref p), x2, x3] ∧ H2 p = some (.lst ((colN xs i).map nV)) ∧ H2 t = some (.tup [V.int 3, V.int 4, V.int 5]) ∧ But p H H2) ?_ ?_ ?_ ?_
 ·exact ⟨_, _, rfl, by rw [zah npt]; exact zac, zac, k0.new ht _⟩
 ·rintro i σ H2 _ ⟨x2, x3, rfl, _, h2t, _⟩
  exact SqT.of h2t
 ·rintro i x σ H2 hx ⟨x2, x3, rfl, h2, h2t, k2⟩
  obtain ⟨hi, rfl⟩ : i < 3 ∧ x = V.int ((3 + i : Nat) : Int) := by
   rcases i with _ | _ | _ | i
   ·exact ⟨by decide, (Option.some.inj hx).symm⟩
   ·exact ⟨by decide, (Option.some.inj hx).symm⟩
   ·exact ⟨by decide, (Option.some.inj hx).symm⟩
   ·cases hx
  have hyl := zhM xs i
  have hyu := zme hu i
  have hnx : colN xs (i + 1) = recL (3 + i) (colN xs i) := rfl
  rw [hnx]
  generalize colN xs i = ys at h2 hyl hyu ⊢
  generalize 3 + i = v
  have hSa : SqL K H2 a (xs.map nV) := k2.sq hS hp
  refine ⟨_, rfl, _, _, rfl, .inl hSa, _, rfl, by rw [List.length_map]; omega, by rw [List.length_map]; omega, ?_⟩
  have el : ((((xs.map nV).length : Nat) : Int)).toNat = ys.length := by rw [List.length_map, Int.toNat_natCast, hyl]
  rw [el]
  refine zbS (n := ys.length) (fun k σ H3 => ∃ x3 : Option V, σ = [some (.ref a), some (.ref p), some (.int v), x3] ∧ H3 p = some (.lst ((mixL v ys k).map nV)) ∧ H3 t = some (.tup [V.int 3, V.int 4, V.int 5]) ∧ But p H H3) ?_ ?_ ?_
  ·exact ⟨_, rfl, h2, h2t, k2⟩
  ·rintro k σ H3 hk ⟨x3, rfl, h3, h3t, k3⟩
   rw [Int.zero_add]
   have ml := zeT v ys k
   have eg : (mixL v ys k).getD k 0 = ys.getD k 0 := by
    rw [List.getD_eq_getElem?_getD, zks (Nat.le_refl k), ← List.getD_eq_getElem?_getD]
   have hat : atI ((mixL v ys k).map nV) (k : Int) = some (nV (ys.getD k 0)) := by
    rw [← eg]
    exact zlj (by omega)
   refine ⟨_, rfl, _, rfl, _, _, _, _, rfl, rfl, SqL.of h3, hat, _, rfl, rfl, _, rfl, ?_⟩
   refine ite2 (fun c => ?_) (fun c => ?_)
   ·have c' : ys.getD k 0 = v := by
     have := V.int.inj (of_decide_eq_true c)
     omega
    refine ⟨_, rfl, _, rfl, p, _, k, rfl, h3, fun g H4 hg s4 h4 => ?_⟩
    rw [znI, zhn hyu hk c'] at h4
    refine ⟨g, ys, k, rfl, h4, fun H5 s5 => ?_⟩
    have s35 := s4.trans s5
    have same : ∀ b o, b ≠ p → H3 b = some o → upd H5 p (.lst (((mixL v ys k).map nV).set k (nV (zdF ys k)))) b = some o := fun b o n e => by
     rw [zah n]
     exact s35 _ _ e
    refine ⟨_, rfl, _, rfl, _, _, _, k, rfl, rfl, s35 _ _ h3, zkG (by rw [List.length_map, ml]; exact hk), ?_⟩
    refine ⟨_, rfl, ?_, same _ _ (Ne.symm (zdC h3 h3t)) h3t, fun b o n e => same _ _ n (k3 b o n e)⟩
    rw [zac, zlS hk c', List.map_set]
   ·have c' : ys.getD k 0 ≠ v := fun z => c (by rw [z]; exact decide_eq_true rfl)
    exact ⟨_, rfl, by rw [zkq hk c']; exact h3, h3t, k3⟩
  ·rintro σ H3 ⟨x3, rfl, h3, h3t, k3⟩
   rw [zlT (Nat.le_refl _)] at h3
   exact ⟨_, _, rfl, h3, h3t, k3⟩
 ·rintro σ H2 ⟨x2, x3, rfl, h2, _, k2⟩
  refine ⟨_, rfl, ?_⟩
  exact q p H2 hp (fun b o e => k2 b o (zab e hp) e) h2
def zdf (ms : List Bool) (k : Nat) : Bool := !ms.getD (k - 1) false && !ms.getD (k + 1) false
def besB (ms : List Bool) (k : Nat) : List Bool := (if k = 0 then none else ms[k - 1]?).toList ++ ms[k + 1]?.toList
theorem znJ (ms : List Bool) (k : Nat) : besV (ms.map V.bl) k = (besB ms k).map V.bl := by
 unfold besV besB
 rw [List.map_append, List.getElem?_map, List.getElem?_map]
 congr 1
 ·split
  ·rfl
  ·cases ms[k - 1]? <;> rfl
 ·cases ms[k + 1]? <;> rfl
theorem zmg {ms : List Bool} {k : Nat} (h : 1 ≤ k) : (besB ms k).any id = !zdf ms k := by
 unfold besB zdf
 rw [if_neg (by omega), List.any_append, zfm, zfm, List.getD_eq_getElem?_getD, List.getD_eq_getElem?_getD]
 generalize ms[k - 1]?.getD false = x
 generalize ms[k + 1]?.getD false = z
 cases x <;> cases z <;> rfl
theorem zhm {sh : Nat} {cs : List Nat} {ms : List Bool} (hu : Unl cs) (hl : cs.length = ms.length) {k : Nat} (h : k < cs.length) (h1 : 1 ≤ k) (hs : cs.getD k 0 = sh) : zdf (mixM sh cs ms k) k = zdf ms k := by
 unfold zdf
 have e : ∀ j, k ≤ j → (mixM sh cs ms k).getD j false = ms.getD j false := fun j hj => by
  rw [List.getD_eq_getElem?_getD, List.getD_eq_getElem?_getD, zcv hl, if_neg (by omega)]
 rw [e (k + 1) (by omega)]
 have e2 : (mixM sh cs ms k).getD (k - 1) false = ms.getD (k - 1) false := by
  rw [List.getD_eq_getElem?_getD, zcv hl, if_pos (by omega), zdm hl (by omega)]
  have := hu (k - 1) (by omega)
  rw [show k - 1 + 1 = k by omega, hs] at this
  rw [decide_eq_false this]
  simp
 rw [e2]
theorem zfw {sh : Nat} {cs : List Nat} {ms : List Bool} (hl : cs.length = ms.length) {k : Nat} (h : k < cs.length) (hn : ¬ (cs.getD k 0 = sh ∧ zdf ms k = true)) : mixM sh cs ms (k + 1) = mixM sh cs ms k := by
 apply List.ext_getElem?
 intro j
 rw [zcv hl, zcv hl]
 by_cases c : j < k
 ·rw [if_pos c, if_pos (by omega)]
 ·rw [if_neg c]
  split
  ·have : j = k := by omega
   subst this
   rw [zdm hl h]
   unfold zdf at hn
   rw [List.getElem?_eq_getElem (by omega)]
   have e : ms.getD j false = ms[j]'(by omega) := by
    rw [List.getD_eq_getElem?_getD, List.getElem?_eq_getElem (by omega)]
    rfl
   rw [e]
   congr 1
   generalize ms[j] = a
   generalize ms.getD (j - 1) false = b at hn ⊢
   generalize ms.getD (j + 1) false = d at hn ⊢
   by_cases z : cs.getD j 0 = sh
   ·have hn' : ¬ ((!b && !d) = true) := fun y => hn ⟨z, y⟩
    cases b with
    | true => simp
    | false =>
     cases d with
     | true => simp
     | false => exact absurd rfl hn'
   ·rw [decide_eq_false z]
    simp
  ·rfl
theorem zkp {sh : Nat} {cs : List Nat} {ms : List Bool} (hl : cs.length = ms.length) {k : Nat} (h : k < cs.length) (hp : 1 ≤ k ∧ cs.getD k 0 = sh ∧ zdf ms k = true) : mixM sh cs ms (k + 1) = (mixM sh cs ms k).set k true := by
 apply List.ext_getElem?
 intro j
 rw [List.getElem?_set, zeS hl, zcv hl, zcv hl]
 by_cases c : k = j
 ·subst c
  rw [if_pos rfl, if_pos h, if_pos (by omega), zdm hl h]
  obtain ⟨p1, p2, p3⟩ := hp
  unfold zdf at p3
  simp only [Bool.and_eq_true, Bool.not_eq_true'] at p3
  rw [p2, p3.1, p3.2, decide_eq_true p1]
  simp
 ·rw [if_neg c]
  by_cases c2 : j < k
  ·rw [if_pos c2, if_pos (by omega)]
  ·rw [if_neg c2, if_neg (by omega)]
theorem zlJ (T : Txt K mg) (D_marks : DF K mg "marks" zcT zdj) (F_labels : FC P w K mg base 3 "labels" zcE (zh4 K)) (F_colours : FC P w K mg base 3 "colours" zcd (zgu K)) (F_neighbours : FC P w K mg base 1 "neighbours" za6 (spNb K)) : FC P w K mg base 5 "marks" zdj (zjW K) := by
 refine D_marks.ok sc_marks (fun vs H Q E h => ?_) (fun f cdv A outer s H vs Q E hr h => ?_)
 ·obtain ⟨a, ws, es, rfl, _⟩ := h
  rfl
 obtain ⟨a, ws, es, rfl, ha, hw, hz, he, hri, q⟩ := h
 refine ⟨_, (zag (zat (i := 1) sc_marks.nd rfl (Or.inl rfl) (zaM F_colours hr (zaa (zaM F_labels hr (zaa (pv 0) zae)) zae)))
   (zag (zeK (i := 2) (N := ["tint"]) (own := 1) (cap := []) sc_marks.nd rfl rfl rfl (zcz (pv 1)) ⟨rfl, rfl, rfl, rfl, rfl, rfl⟩ (fun _ _ _ _ _ => (zaq (i := 0) (show List.Nodup (["tint"] : List Str) by decide +kernel) rfl (Or.inl rfl))) (fun _ _ _ _ _ => zdI) (fun _ _ _ _ _ => zhg))
   (zag (zbu PassesOwn.never rfl (zeN (zdU (zaa zaf (zaa zaf (zaa zaf zae))))) (zaq (i := 3) sc_marks.nd rfl (Or.inl rfl)) (zai (zbu PassesOwn.never rfl (zdT rfl T.m_range (zaa zaf (zaa (zaD zaz rfl T.m_len boot_len (zaa (pv 1) zae)) zae))) (zaq (i := 4) sc_marks.nd rfl (Or.inl rfl)) (zai (zdw (PW.pt (zmB (zaJ zff (zaZ zaK (pv 1) (pv 4) (fun _ _ => rfl)) (pv 3) (zbc _)) (zj4 (zaJ zep zhg (zaM F_neighbours hr (zaa (pv 2) (zaa (pv 4) zae))) (by with_unfolding_all rfl))))) (zai (zj7 zhg (zmE (pv 2) (pv 4) zh9))) zbF)))))
   (zai (zaC (pv 2)))))), ?_⟩
 refine ⟨_, rfl, a, ws, es, rfl, SqL.of ha, hw, hz, he, hri, fun p H3 hp s3 h3 => ?_⟩
 refine ⟨p, _, rfl, SqL.of h3, zhu he hri, zgN he hri, by rw [zct, zaV]; exact hz, fun c H4 hc s4 h4 => ?_⟩
 have cu : Unl (colL (zc5 5 (zcP es))) := zmm (ziG (unlZ (zhu he hri)))
 have cl : (colL (zc5 5 (zcP es))).length = es.length := by rw [ze4, zct, zaV]
 have fin : zbU es = mkN (colL (zc5 5 (zcP es))) 3 := (zkn _).symm
 generalize colL (zc5 5 (zcP es)) = cs at h4 cu cl fin
 have s04 := s3.trans s4
 refine ⟨_, rfl, c, rfl, ⟨_, SqL.of h4⟩, fun F hF => ?_⟩
 refine zcO (xs := cs.map nV) (fun i σ H5 => ∃ x0 : Option V, σ = [x0] ∧ H5 F = some (.lst ((List.replicate i false).map V.bl)) ∧ But F H4 H5) ?_ ?_ ?_ ?_
 ·exact ⟨_, rfl, zac, fun b o n e => by rw [zah n]; exact e⟩
 ·rintro i σ H5 _ ⟨x0, rfl, _, k5⟩
  exact k5.sq (SqL.of h4) hF
 ·rintro i m x σ H5 hx hm ⟨x0, rfl, h5, k5⟩
  have hi := (List.getElem?_eq_some_iff.mp hx).1
  rw [List.length_map] at hi hm
  refine zeX ?_
  refine ⟨_, h5, zau (by rw [List.length_map, List.length_replicate]; omega), m - 1, by omega, by rw [List.length_map]; omega, _, rfl, ?_, fun b o n e => by rw [zah n]; exact k5 b o n e⟩
  rw [zac, List.replicate_succ', List.map_append]
  rfl
 rintro σ H5 ⟨x0, rfl, h5, k5⟩
 have s45 : Same H4 H5 := fun b o e => k5 b o (zab e hF) e
 have h5c := s45 _ _ h4
 have nFc : c ≠ F := zab h4 hF
 have hF0 : H F = none := s04.free hF
 have k05 : But F H H5 := fun b o _ e => s45 _ _ (s04 _ _ e)
 have e5 : H5 F = some (.lst ((mkN cs 0).map V.bl)) := by
  rw [h5, mkN, List.length_map, show List.replicate cs.length false = cs.map (fun _ => false) from by rw [List.map_const']]
 refine ⟨(by show 3 ≤ sizeLine; decide), fun t ht => ?_⟩
 have st := zal ht (.tup [V.int 2, V.int 1, V.int 0])
 refine ⟨t, rfl, ⟨_, SqT.of zac⟩, ?_⟩
 refine zge (xs := [V.int 2, V.int 1, V.int 0]) (fun i σ H6 => ∃ (x3 x4 : Option V), σ = [some (.ref a), some (.ref c), some (.ref F), x3, x4] ∧ H6 F = some (.lst ((mkN cs i).map V.bl)) ∧ H6 c = some (.lst (cs.map nV)) ∧ H6 t = some (.tup [V.int 2, V.int 1, V.int 0]) ∧ But F H H6) ?_ ?_ ?_ ?_
 ·exact ⟨_, _, rfl, st _ _ e5, st _ _ h5c, zac, k05.new ht _⟩
 ·rintro i σ H6 _ ⟨x3, x4, rfl, _, _, h6t, _⟩
  exact SqT.of h6t
 ·rintro i x σ H6 hx ⟨x3, x4, rfl, h6, h6c, h6t, k6⟩
  obtain ⟨hi, rfl⟩ : i < 3 ∧ x = V.int ((2 - i : Nat) : Int) := by
   rcases i with _ | _ | _ | i
   ·exact ⟨by decide, (Option.some.inj hx).symm⟩
   ·exact ⟨by decide, (Option.some.inj hx).symm⟩
   ·exact ⟨by decide, (Option.some.inj hx).symm⟩
   ·cases hx
  have hml := zi9 cs i
  have hnx : mkN cs (i + 1) = zcj (2 - i) cs (mkN cs i) := rfl
  rw [hnx]
  generalize mkN cs i = ms at h6 hml ⊢
  generalize 2 - i = sh
  refine ⟨_, rfl, _, _, rfl, .inl (SqL.of h6c), 1, _, rfl, ⟨by omega, by omega, by rw [List.length_map]; omega, by rw [List.length_map]; omega⟩, ?_⟩
  have en : ((((cs.map nV).length : Nat) : Int) - 1).toNat = cs.length - 1 := by rw [List.length_map]; omega
  rw [en]
  have km : ∀ k, (mixM sh cs ms k).length = cs.length := zeS hml
  refine zbS (n := cs.length - 1) (fun j σ H7 => ∃ (x4 : Option V), σ = [some (.ref a), some (.ref c), some (.ref F), some (.int sh), x4] ∧ H7 F = some (.lst ((mixM sh cs ms (1 + j)).map V.bl)) ∧ H7 c = some (.lst (cs.map nV)) ∧ H7 t = some (.tup [V.int 2, V.int 1, V.int 0]) ∧ But F H H7) ?_ ?_ ?_
  ·exact ⟨_, rfl, by rw [zlQ hml]; exact h6, h6c, h6t, k6⟩
  ·rintro j σ H7 hj ⟨x4, rfl, h7, h7c, h7t, k7⟩
   have ek : (1 : Int) + (j : Int) = ((1 + j : Nat) : Int) := by omega
   have hk1 : 1 ≤ 1 + j := by omega
   have hkl : 1 + j < cs.length := by omega
   rw [ek]
   have es1 : 1 + (j + 1) = 1 + j + 1 := by omega
   rw [es1]
   generalize 1 + j = k at h7 hk1 hkl ⊢
   have hat := zlj (xs := cs) hkl
   have mc : cs.getD k 0 = sh → zdf (mixM sh cs ms k) k = zdf ms k := fun z => zhm cu hml hkl hk1 z
   refine ⟨_, rfl, _, rfl, _, _, _, _, rfl, rfl, SqL.of h7c, hat, _, rfl, rfl, _, rfl, ?_⟩
   refine ite2 (fun e => ?_) (fun e => ?_)
   ·have e' : cs.getD k 0 = sh := by
     have := V.int.inj (of_decide_eq_true e)
     omega
    refine ⟨_, rfl, _, rfl, F, _, k, rfl, h7, fun b H8 hb sb hbb => ?_⟩
    rw [znJ] at hbb
    have kb : But F H H8 := fun x o n e => sb _ _ (k7 x o n e)
    refine ⟨_, _, rfl, .inl (SqL.of hbb), rfl, znE _, _, rfl, ?_⟩
    show if (!inV (.bl true) ((besB (mixM sh cs ms k) k).map V.bl)) = true then _ else _
    rw [zl1, zmg hk1, mc e', Bool.not_not]
    refine ite2 (fun y => ?_) (fun y => ?_)
    ·refine ⟨_, rfl, _, rfl, _, _, _, k, rfl, rfl, sb _ _ h7, zkG (by rw [List.length_map, km]; exact hkl), ?_⟩
     have same : ∀ b o, b ≠ F → H8 b = some o → upd H8 F (.lst (((mixM sh cs ms k).map V.bl).set k (.bl true))) b = some o := fun b o n e => by
      rw [zah n]
      exact e
     refine ⟨_, rfl, ?_, same _ _ (fun z => ?_) (sb _ _ h7c), same _ _ (Ne.symm (zdC (sb _ _ h7) (sb _ _ h7t))) (sb _ _ h7t), fun b o n e => same _ _ n (kb b o n e)⟩
     ·rw [zac, zkp hml hkl ⟨hk1, e', y⟩, List.map_set]
     ·exact nFc z
    ·exact ⟨_, rfl, by rw [zfw hml hkl (fun z => y z.2)]; exact sb _ _ h7, sb _ _ h7c, sb _ _ h7t, kb⟩
   ·have e' : cs.getD k 0 ≠ sh := fun z => e (by rw [z]; exact decide_eq_true rfl)
    refine iteF ?_
    exact ⟨_, rfl, by rw [zfw hml hkl (fun z => e' z.1)]; exact h7, h7c, h7t, k7⟩
  ·rintro σ H7 ⟨x4, rfl, h7, h7c, h7t, k7⟩
   rw [zlR hml (by omega)] at h7
   exact ⟨_, _, rfl, h7, h7c, h7t, k7⟩
 ·rintro σ H6 ⟨x3, x4, rfl, h6, _, _, k6⟩
  refine ⟨_, rfl, ?_⟩
  refine q F H6 hF0 (fun b o e => k6 b o (zab e hF0) e) ?_
  rw [fin]
  exact h6
theorem zl6 {α : Type} : zcN ([] : List α) [] = [] := rfl
theorem get_bl {ms : List Bool} {i : Nat} {x : V} (h : (ms.map V.bl)[i]? = some x) : ∃ hi : i < ms.length, x = .bl ms[i] := by
 rw [List.getElem?_map] at h
 cases e : ms[i]? with
 | none => rw [e] at h; cases h
 | some y =>
  rw [e] at h
  obtain ⟨hi, rfl⟩ := List.getElem?_eq_some_iff.mp e
  exact ⟨hi, (Option.some.inj h).symm⟩
theorem zdN {α : Type} {l : List α} {i : Nat} (h : i < l.length) : l.take (i + 1) = l.take i ++ [l[i]] := List.take_succ_eq_append_getElem h
theorem zkk (T : Txt K mg) (D_handed : DF K mg "handed" zb2 zch) (F_marks : FC P w K mg base 5 "marks" zdj (zjW K)) : FC P w K mg base 6 "handed" zch (zfP K) := by
 refine D_handed.ok sc_handed (fun vs H Q E h => ?_) (fun f cdv A outer s H vs Q E hr h => ?_)
 ·obtain ⟨a, ws, es, rfl, _⟩ := h
  rfl
 obtain ⟨a, ws, es, rfl, ha, hw, hz, he, hri, q⟩ := h
 have hwl := hw.length
 have hml := zbj es
 refine ⟨_, (zai (zaC (zdJ (N := ["entry", "mark"]) (own := 2) (cap := []) rfl (zoi rfl T.m_zip (zaa (pv 0) (zaa (zaM F_marks hr (zaa (pv 0) zae)) zae))) ⟨rfl, rfl, rfl, rfl, rfl, rfl⟩ (fun _ _ _ _ _ => (znb (K := K) (n := 2) rfl (zbO (zaq (i := 0) (show List.Nodup (["entry", "mark"] : List Str) by decide +kernel) rfl (Or.inl rfl)) (zbO (zaq (i := 1) (show List.Nodup (["entry", "mark"] : List Str) by decide +kernel) rfl (Or.inl rfl)) zeO)))) (fun _ _ _ _ _ => (zeJ (zj6 (pv 1)))) (fun _ _ _ _ _ => (pv 0))))), ?_⟩
 refine ⟨_, rfl, _, rfl, a, ws, es, rfl, ha, hw, hz, he, hri, fun u H6 hu g6 h6u => ?_⟩
 have h6p := g6 _ _ ha
 generalize zbU es = ms at hml h6u q
 refine ⟨a, u, rfl, ⟨_, SqL.of h6p⟩, ⟨_, SqL.of h6u⟩, fun D hD => ?_⟩
 refine zmc (xs := ws) (ys := ms.map V.bl) (by rw [List.length_map, hml]; exact hwl.symm) (fun j σ H7 => ∃ x0 x1 : Option V, σ = [x0, x1] ∧ H7 D = some (.lst (zcN (ws.take j) (ms.take j))) ∧ But D H6 H7) ?_ ?_ ?_ ?_
 ·exact ⟨_, _, rfl, by rw [List.take_zero, List.take_zero, zl6]; exact zac, fun b o n e => by rw [zah n]; exact e⟩
 ·rintro j σ H7 _ ⟨x0, x1, rfl, _, k7⟩
  exact ⟨k7.sq (SqL.of h6p) hD, k7.sq (SqL.of h6u) hD⟩
 ·rintro j m' x y σ H7 r' hx hy hm' ⟨x0, x1, rfl, h7, k7⟩ hr'
  obtain ⟨hj, rfl⟩ := get_bl hy
  obtain ⟨hjw, rfl⟩ := List.getElem?_eq_some_iff.mp hx
  have hsn := zgP (a := ws[j]) (b := ms[j]) (show (ws.take j).length = (ms.take j).length by rw [List.length_take, List.length_take]; omega)
  rw [← zdN hjw, ← zdN hj] at hsn
  refine ⟨r', _, rfl, SqT.of zac, rfl, _, _, rfl, _, _, rfl, rfl, ?_⟩
  have s7 := zal hr' (.tup [ws[j], .bl ms[j]])
  have h8 := s7 _ _ h7
  have k8 := k7.new hr' (.tup [ws[j], .bl ms[j]])
  generalize upd H7 r' (.tup [ws[j], .bl ms[j]]) = H8 at h8 k8 ⊢
  refine ⟨_, rfl, _, rfl, ?_⟩
  have hl8 := zhB (ws.take j) (ms.take j)
  rw [List.length_take] at hl8
  refine ite2 (fun e => ?_) (fun e => ?_)
  ·refine ⟨_, rfl, _, h8, zau (by omega), m' - 1, by omega, by omega, _, _, rfl, ?_, fun b o n e => by rw [zah n]; exact k8 b o n e⟩
   rw [zac, hsn, if_pos e]
  ·refine ⟨m' - 1, by omega, by omega, _, _, rfl, ?_, k8⟩
   rw [h8, hsn, if_neg e, List.append_nil]
 ·rintro σ H7 ⟨x0, x1, rfl, h7, k7⟩
  rw [List.take_of_length_le (Nat.le_refl _), List.take_of_length_le (by omega)] at h7
  have s7 : Same H6 H7 := fun b o e => k7 b o (zab e hD) e
  exact q D H7 (g6.free hD) (g6.trans s7) h7
theorem zbH {K : PySem.W.Frag} {H : Hp} {q : Addr} {zs : List V} {o : HO} (hq : H q = some (.lst zs)) : ∀ {es : List (Int × Int)} {ws : List V}, zaj K H es ws → zaj K (upd H q o) es ws
 | _, _, .nil => .nil
 | _, _, .cons h t => by
  refine .cons ?_ (zbH hq t)
  obtain ⟨a, x1, x2, rfl, hT, e1, e2⟩ := (show hasP K H _ _ from h)
  exact ⟨a, x1, x2, rfl, by rw [zah (zoD hT hq (by intro z; cases z))]; exact hT, e1, e2⟩
def Own (K : PySem.W.Frag) (H : Hp) : List Addr → List (List (Int × Int)) → Prop := Paired fun q l => ∃ ws, H q = some (.lst ws) ∧ zaj K H l ws
section
variable {K : PySem.W.Frag} {H H' : Hp}
theorem Own.length {qs : List Addr} {ls : List (List (Int × Int))} (h : Own K H qs ls) : qs.length = ls.length := Paired.length h
theorem Own.ext (e : Ext H H') : ∀ {qs : List Addr} {ls : List (List (Int × Int))}, Own K H qs ls → Own K H' qs ls
 | _, _, .nil => .nil
 | _, _, .cons ⟨ws, h1, h2⟩ t => .cons ⟨ws, e _ _ h1 (fun _ z => nomatch z), zaj.mono e h2⟩ (Own.ext e t)
theorem Own.all : ∀ {qs : List Addr} {ls : List (List (Int × Int))}, Own K H qs ls → zaj K H ls (qs.map V.ref)
 | _, _, .nil => .nil
 | _, _, .cons ⟨ws, h1, h2⟩ t => .cons ⟨_, ws, rfl, SqL.of h1, h2⟩ (Own.all t)
theorem Own.has {qs : List Addr} {ls : List (List (Int × Int))} {p : Addr} (h : Own K H qs ls) (hp : H p = some (.lst (qs.map V.ref))) : Rep.has K H ls (.ref p) := ⟨p, _, rfl, SqL.of hp, h.all⟩
theorem Own.get : ∀ {qs : List Addr} {ls : List (List (Int × Int))} {i : Nat} {x : V}, Own K H qs ls → (qs.map V.ref)[i]? = some x → ∃ q l ws, qs[i]? = some q ∧ x = .ref q ∧ ls[i]? = some l ∧ H q = some (.lst ws) ∧ zaj K H l ws
 | _, _, _, _, .nil, e => by simp at e
 | _, _, 0, _, .cons ⟨ws, h1, h2⟩ _, e => by
  simp at e
  exact ⟨_, _, ws, rfl, e.symm, rfl, h1, h2⟩
 | _, _, i + 1, x, .cons _ t, e => by
  obtain ⟨q, l, ws, h1, h2, h3, h4, h5⟩ := Own.get (i := i) (x := x) t (by simpa using e)
  exact ⟨q, l, ws, by simpa using h1, h2, by simpa using h3, h4, h5⟩
theorem Own.append : ∀ {qs qs' : List Addr} {ls ls' : List (List (Int × Int))}, Own K H qs ls → Own K H qs' ls' → Own K H (qs ++ qs') (ls ++ ls')
 | _, _, _, _, .nil, s => s
 | _, _, _, _, .cons r t, s => .cons r (Own.append t s)
theorem Own.rev : ∀ {qs : List Addr} {ls : List (List (Int × Int))}, Own K H qs ls → Own K H qs.reverse ls.reverse
 | _, _, .nil => .nil
 | _, _, .cons r t => by
  rw [List.reverse_cons, List.reverse_cons]
  exact Own.append (Own.rev t) (.cons r .nil)
theorem Own.other {q : Addr} {o : HO} {zs : List V} (hq : H q = some (.lst zs)) : ∀ {qs : List Addr} {ls : List (List (Int × Int))}, Own K H qs ls → q ∉ qs → Own K (upd H q o) qs ls
 | _, _, .nil, _ => .nil
 | _, _, .cons ⟨ws, h1, h2⟩ t, hn => by
  rw [List.mem_cons, not_or] at hn
  exact .cons ⟨ws, by rw [zah (Ne.symm hn.1)]; exact h1, zbH hq h2⟩ (Own.other hq t hn.2)
theorem Own.put {e : Int × Int} {x : V} (hx : Rep.has K H e x) : ∀ {qs : List Addr} {ls : List (List (Int × Int))} {i : Nat} {q : Addr} {ws : List V}, Own K H qs ls → qs.Nodup → qs[i]? = some q → H q = some (.lst ws) →
  ∃ ls', Own K (upd H q (.lst (ws ++ [x]))) qs ls' ∧ ls'.length = ls.length ∧ ls'.flatten.length = ls.flatten.length + 1
 | _, _, _, _, _, .nil, _, e, _ => by simp at e
 | q' :: qs, l :: ls, 0, q, ws, .cons ⟨ws', h1, h2⟩ t, hn, e, hq => by
  have e : q' = q := by simpa using e
  subst e
  rw [h1] at hq
  cases hq
  rw [List.nodup_cons] at hn
  refine ⟨(l ++ [_]) :: ls, .cons ⟨_, zac, (zbH h1 h2).append (zbH h1 (.one hx))⟩ (Own.other h1 t hn.1), rfl, ?_⟩
  rw [List.flatten_cons, List.flatten_cons, List.length_append, List.length_append, List.length_append, List.length_singleton]
  omega
 | q' :: qs, l :: ls, i + 1, q, ws, .cons ⟨ws', h1, h2⟩ t, hn, e, hq => by
  have e : qs[i]? = some q := by simpa using e
  rw [List.nodup_cons] at hn
  obtain ⟨ls', g1, g2, g3⟩ := Own.put hx t hn.2 e hq
  have hne : q' ≠ q := fun z => hn.1 (by rw [z]; exact List.mem_of_getElem? e)
  refine ⟨l :: ls', .cons ⟨ws', by rw [zah hne]; exact h1, zbH hq h2⟩ g1, by rw [List.length_cons, List.length_cons, g2], ?_⟩
  rw [List.flatten_cons, List.flatten_cons, List.length_append, List.length_append, g3]
  omega
end
theorem zgS {ls : List (List (Int × Int))} {i : Nat} {l : List (Int × Int)} (h : ls[i]? = some l) : (ls.take (i + 1)).flatten = (ls.take i).flatten ++ l := by
 have hi := (List.getElem?_eq_some_iff.mp h).1
 rw [List.take_succ_eq_append_getElem hi, List.flatten_append, (List.getElem?_eq_some_iff.mp h).2]
 simp
theorem znD {ls : List (List (Int × Int))} (i : Nat) : (ls.take i).flatten.length ≤ ls.flatten.length := by
 have e : ls.flatten = (ls.take i).flatten ++ (ls.drop i).flatten := by rw [← List.flatten_append, List.take_append_drop]
 rw [e, List.length_append]
 omega
def zmt (K : PySem.W.Frag) : Sp := fun vs H Q _ => ∃ (a : Addr) (qs : List Addr) (ls : List (List (Int × Int))), vs = [.ref a] ∧ H a = some (.lst (qs.map V.ref)) ∧ Own K H qs ls ∧ ls.flatten.length ≤ 1000 ∧
 ∀ (p : Addr) (ws : List V) (H' : Hp), H p = none → Same H H' → H' p = some (.lst ws) → zaj K H' (zcp ls.flatten) ws → Q (.ref p) H'
theorem zkj (T : Txt K mg) (D_joined_up : DF K mg "joined_up" za3 zbt) : FC P w K mg base 1 "joined_up" zbt (zmt K) := by
 refine D_joined_up.ok sc_joined_up (fun vs H Q E h => ?_) (fun f cdv A outer s H vs Q E hr h => ?_)
 ·obtain ⟨a, qs, ls, rfl, _⟩ := h
  rfl
 obtain ⟨a, qs, ls, rfl, ha, ho, hz, q⟩ := h
 have hll := ho.length
 refine ⟨_, (zag (zat (i := 1) sc_joined_up.nd rfl (Or.inl rfl) (zcJ zae))
   (zag (zbu PassesOwn.never rfl (zcz (pv 0)) (zaq (i := 2) sc_joined_up.nd rfl (Or.inl rfl)) (zai (zcy (zfe F.plainAttrs_list F.slot_list_extend F.type_list_extend zkm (pv 1) (zaa (pv 2) zae)))))
   (zai (zaC (zaD (zfG (Int × Int)) rfl T.m_sorted boot_sorted (zaa (pv 1) zae)))))), ?_⟩
 refine ⟨(by show 0 ≤ sizeLine; decide), fun t ht => ?_⟩
 have k0 : But t H (upd H t (.lst [])) := fun b o n e => by rw [zah n]; exact e
 refine ⟨_, rfl, a, rfl, ⟨_, SqL.of (k0 _ _ (zab ha ht) ha)⟩, ?_⟩
 refine zeD (xs := qs.map V.ref) (fun i σ H2 => ∃ (zs : List V) (x2 : Option V), σ = [some (.ref a), some (.ref t), x2] ∧ H2 t = some (.lst zs) ∧ zaj K H2 (ls.take i).flatten zs ∧ But t H H2 ∧ Own K H2 qs ls) ?_ ?_ ?_ ?_
 ·exact ⟨[], _, rfl, zac, .nil, k0, ho.ext (zal ht _).ext⟩
 ·rintro i σ H2 _ ⟨zs, x2, rfl, h2, _, k2, _⟩
  exact SqL.of (k2 _ _ (zab ha ht) ha)
 ·rintro i x σ H2 hx ⟨zs, x2, rfl, h2, hw, k2, o2⟩
  obtain ⟨g, l, ws, e1, rfl, e3, e4, e5⟩ := o2.get hx
  have hlen : zs.length + ws.length ≤ 1000 := by
   have z1 := hw.length
   have z2 := e5.length
   have z3 := znD (ls := ls) (i + 1)
   rw [zgS e3, List.length_append] at z3
   omega
  have hgo : ∀ b ∈ qs, b ≠ t := fun b hb z => by
   obtain ⟨j, hj, rfl⟩ := List.getElem_of_mem hb
   obtain ⟨_, _, ws0, f1, f2, _, f4, _⟩ := ho.get (i := j) (x := .ref qs[j]) (by rw [List.getElem?_map, List.getElem?_eq_getElem hj]; rfl)
   cases f2
   rw [z, ht] at f4
   cases f4
  refine ⟨_, rfl, .inl ⟨rfl, _, SqL.of h2⟩, _, rfl, t, g, zs, ws, rfl, rfl, h2, e4, Nat.le_of_lt (zau hlen), ?_⟩
  refine ⟨_, _, rfl, zac, ?_, fun b o n e => by rw [zah n]; exact k2 b o n e, o2.other h2 (fun z => hgo t z rfl)⟩
  rw [zgS e3]
  exact (zbH h2 hw).append (zbH h2 e5)
 ·rintro σ H2 ⟨zs, x2, rfl, h2, hw, k2, o2⟩
  rw [List.take_of_length_le (by rw [List.length_map]; omega)] at hw
  refine ⟨_, rfl, t, zs, _, rfl, SqL.of h2, hw, fun l ws hl hs => ?_⟩
  have e2 := zal hl (.lst ws)
  have s2 : Same H H2 := fun b o e => k2 b o (zab e ht) e
  exact q l ws _ (s2.free hl) (s2.trans e2) zac (zaj.mono e2.ext hs)
def zdv (ps : List Nat) : List V := .non :: ps.map nV
def parV (ps : List Nat) (k : Nat) : V := match par ps k with
 | none => .non
 | some p => nV p
theorem zaG (ps : List Nat) : (zdv ps).length = ps.length + 1 := by
 unfold zdv
 rw [List.length_cons, List.length_map]
theorem zhT {ps : List Nat} {k : Nat} (h : k < ps.length + 1) : atI (zdv ps) (k : Int) = some (parV ps k) := by
 refine zbk ?_
 unfold zdv parV
 cases k with
 | zero => rfl
 | succ k =>
  show (ps.map nV)[k]? = some (match ps[k]? with | none => _ | some p => nV p)
  rw [List.getElem?_map, List.getElem?_eq_getElem (show k < ps.length by omega)]
  rfl
theorem zeQ {ps : List Nat} {k p : Nat} (h : par ps k = some p) : parV ps k = nV p := by
 unfold parV
 rw [h]
theorem zgB {ps : List Nat} {k : Nat} (h : par ps k = none) : parV ps k = .non := by
 unfold parV
 rw [h]
theorem zhi {ps : List Nat} {k m : Nat} : parV ps k = .int (m : Int) ↔ par ps k = some m := by
 cases e : par ps k with
 | none =>
  rw [zgB e]
  exact ⟨(fun z => nomatch z), (fun z => nomatch z)⟩
 | some p =>
  rw [zeQ e]
  constructor
  ·intro z
   have := Int.ofNat.inj (V.int.inj z)
   rw [this]
  ·intro z
   rw [Option.some.inj z]
theorem zj2 (ps : List Nat) (k : Nat) (i : Int) : scal (parV ps k) (.int i) = true := by
 cases e : par ps k with
 | none => rw [zgB e]; rfl
 | some p => rw [zeQ e]; rfl
theorem But.new' {p b : Addr} {H H2 : Hp} (k : But p H H2) (hb : H2 b = none) (o : HO) : But p H (upd H2 b o) := fun x o' n e => (zal hb o) x o' (k x o' n e)
def zmp (K : PySem.W.Frag) : Sp := fun vs H Q _ => ∃ (d L : Addr) (m : Int), vs = [.ref d, .int m] ∧ (0 < m ∧ m ≤ 40) ∧ LS K L d H ∧
 ∀ (t : Addr) (ps : List Nat) (H' : Hp), H t = none → zaF ps → (ps.length : Int) < m → H' t = some (.tup (zdv ps)) → Keep d H H' → LS K L d H' → Q (.ref t) H'
theorem zjN {ps : List Nat} {u : Nat} (T : zaF ps) (h : u ≤ ps.length) : zaF (ps ++ [u]) := by
 intro i hi
 rw [List.length_append, List.length_singleton] at hi
 by_cases c : i < ps.length
 ·rw [List.getElem_append_left c]
  exact T i c
 ·have : i = ps.length := by omega
  subst this
  rw [List.getElem_append_right (Nat.le_refl _)]
  simp
  exact h
theorem zlK (T : Txt K mg) (D_l_tree : DF K mg "_law_tree" zbY zcF) (F_l_take : FC P w K mg base 2 "_law_take" zbG (zgr K)) : FC P w K mg base 3 "_law_tree" zcF (zmp K) := by
 refine D_l_tree.ok sc_l_tree (fun vs H Q E h => ?_) (fun f cdv A outer s H vs Q E hr h => ?_)
 ·obtain ⟨d, L, m, rfl, _⟩ := h
  rfl
 obtain ⟨d, L, m, rfl, ⟨hm0, hm1⟩, hs, q⟩ := h
 refine ⟨_, (zag (zat (i := 2) sc_l_tree.nd rfl (Or.inl rfl) (zaM F_l_take hr (zaa (pv 0) (zaa zaf zae))))
   (zag (zat (i := 3) sc_l_tree.nd rfl (Or.inl rfl) (zcJ (zaa zol zae)))
   (zag (zbu PassesOwn.never rfl (zdT rfl T.m_range (zaa zaf (zaa (zav zbv zaf (zaM F_l_take hr (zaa (pv 0) (zaa (pv 1) zae)))) zae))) (zaq (i := 4) sc_l_tree.nd rfl (Or.inl rfl)) (zai (zcy (zfe F.plainAttrs_list F.slot_list_append F.type_list_append zbl (pv 3) (zaa (zaZ zaK (zcJ (zaa (zav zcu (pv 4) zaf) (zaa zaf (zaa (zaM F_l_take hr (zaa (pv 0) (zaa (pv 4) zae))) (zaa (zaD (zgX rfl) rfl T.m_max boot_max (zaa zaf (zaa (zav zcu (zav zcu (pv 4) zaf) (zaM F_l_take hr (zaa (pv 0) (zaa zaf zae)))) zae))) zae))))) (pv 2) (fun _ _ => rfl)) zae)))))
   (zai (zaC (zci zc2 rfl T.m_tuple boot_tuple (zaa (pv 3) zae))))))), ?_⟩
 refine ⟨_, rfl, d, L, 4, rfl, by decide, hs, fun w1 H1 w0 w4 k1 s1 => ?_⟩
 refine ⟨(by show 1 ≤ sizeLine; decide), fun p hp => ?_⟩
 have g0 := zal hp (.lst [V.non])
 have hpd : p ≠ d := by
  obtain ⟨ns, a, l, e, _⟩ := s1.ex
  exact Ne.symm (zab e hp)
 have hp0 : H p = none := by
  cases e : H p with
  | none => rfl
  | some o =>
   have := k1 p o hpd e
   rw [hp] at this
   cases this
 refine ⟨_, rfl, _, rfl, d, L, m, rfl, ⟨hm0, by omega⟩, s1.same g0, fun n H2 n0 n1 k2 s2 => ⟨_, _, rfl, rfl, 1, _, rfl, ⟨by omega, by omega, by omega, by omega⟩, ?_⟩⟩
 have en : ((1 : Int) + n - 1).toNat = n.toNat := by omega
 rw [en]
 refine zbS (n := n.toNat) (fun i σ H3 => ∃ (ps : List Nat) (x4 : Option V), σ = [some (.ref d), some (.int m), some (.int w1), some (.ref p), x4] ∧ H3 p = some (.lst (zdv ps)) ∧ ps.length = i ∧ zaF ps ∧ (∀ b o, b ≠ d → b ≠ p → H b = some o → H3 b = some o) ∧ LS K L d H3) ?_ ?_ ?_
 ·exact ⟨[], _, rfl, k2 p _ hpd zac, rfl, fun i hi => absurd hi (by simp), fun b o n1 n2 e => k2 b o n1 (g0 b o (k1 b o n1 e)), s2⟩
 ·rintro i σ H3 hi ⟨ps, x4, rfl, h3, rfl, hT, k3, s3⟩
  have ek : (1 : Int) + ((ps.length : Nat) : Int) = ((ps.length + 1 : Nat) : Int) := by omega
  rw [ek]
  refine ⟨_, rfl, .inl ⟨rfl, _, SqL.of h3⟩, ?_⟩
  refine ⟨_, rfl, _, _, rfl, rfl, _, rfl, _, rfl, d, L, _, rfl, ⟨by omega, by omega⟩, s3, fun v1 H4 v10 v11 k4 s4 => ?_⟩
  refine ⟨_, rfl, _, _, rfl, rfl, _, rfl, d, L, 2, rfl, by decide, s4, fun v2 H5 v20 v21 k5 s5 => ⟨_, _, rfl, rfl, _, _, rfl, (by show 4 ≤ sizeLine; decide), fun l hl => ?_⟩⟩
  have h4 := k4 p _ hpd h3
  have h5 := k5 p _ hpd h4
  obtain ⟨u, hat, hu⟩ : ∃ u : Nat, atI [V.int (((ps.length + 1 : Nat) : Int) - 1), V.int 0, V.int v1, V.int (if ((ps.length + 1 : Nat) : Int) - 1 - v2 > 0 then ((ps.length + 1 : Nat) : Int) - 1 - v2 else 0)] w1 = some (nV u) ∧ u ≤ ps.length := by
   have z : w1 = 0 ∨ w1 = 1 ∨ w1 = 2 ∨ w1 = 3 := by omega
   rcases z with rfl | rfl | rfl | rfl
   ·refine ⟨ps.length, ?_, Nat.le_refl _⟩
    rw [show ((ps.length + 1 : Nat) : Int) - 1 = ((ps.length : Nat) : Int) by omega]
    rfl
   ·exact ⟨0, rfl, Nat.zero_le _⟩
   ·obtain ⟨u, rfl⟩ := zoE v10
    exact ⟨u, rfl, by omega⟩
   ·refine ⟨(if ((ps.length + 1 : Nat) : Int) - 1 - v2 > 0 then ((ps.length + 1 : Nat) : Int) - 1 - v2 else 0).toNat, ?_, ?_⟩
    ·show some (V.int _) = some (V.int _)
     rw [Int.toNat_of_nonneg (by split <;> omega)]
    ·split <;> omega
  refine ⟨_, rfl, _, _, _, _, rfl, rfl, SqL.of zac, hat, _, _, _, rfl, rfl, by rw [zah (zab h5 hl)]; exact h5, zau (by rw [zaG]; omega), ?_⟩
  refine ⟨ps ++ [u], _, rfl, ?_, by rw [List.length_append, List.length_singleton], zjN hT hu, fun b o n1 n2 e => ?_, ?_⟩
  ·rw [zac]
   unfold zdv
   rw [List.map_append]
   rfl
  ·rw [zah n2]
   have e5 := k5 b o n1 (k4 b o n1 (k3 b o n1 n2 e))
   exact (zal hl _) _ _ e5
  ·exact LS.put hs hp0 (fun b o n1 n2 e => (zal hl _) _ _ (k5 b o n1 (k4 b o n1 (k3 b o n1 n2 e)))) (s5.of_new hl _)
 ·rintro σ H3 ⟨ps, x4, rfl, h3, hl, hT, k3, s3⟩
  refine ⟨_, rfl, p, _, rfl, .inl ⟨SqL.of h3, fun t ht => ?_⟩⟩
  have sn := zal ht (.tup (zdv ps))
  have htp : t ≠ p := Ne.symm (zab h3 ht)
  have ht0 : H t = none := by
   cases e : H t with
   | none => rfl
   | some o =>
    have htd : t ≠ d := by
     obtain ⟨ns, a, l, e, _⟩ := s3.ex
     exact Ne.symm (zab e ht)
    have := k3 t o htd htp e
    rw [ht] at this
    cases this
  exact q t ps _ ht0 hT (by omega) zac (fun b o n e => sn _ _ (k3 b o n (zab e hp0) e)) (s3.of_new ht _)
def zea (K : PySem.W.Frag) : Sp := fun vs H Q _ => ∃ (t : Addr) (ps : List Nat) (k : Nat), vs = [.ref t, .int k] ∧ H t = some (.tup (zdv ps)) ∧ ps.length ≤ 900 ∧
 ∀ (p : Addr) (H' : Hp), H p = none → Same H H' → H' p = some (.lst ((zaY ps k (ps.length + 1)).map nV)) → Q (.ref p) H'
theorem zhl (T : Txt K mg) (D_children : DF K mg "children" zbg zbr) : FC P w K mg base 1 "children" zbr (zea K) := by
 refine D_children.ok sc_children (fun vs H Q E h => ?_) (fun f cdv A outer s H vs Q E hr h => ?_)
 ·obtain ⟨t, ps, k, rfl, _⟩ := h
  rfl
 obtain ⟨t, ps, k, rfl, ht, hz, q⟩ := h
 refine ⟨_, (zai (zaC (zdJ (N := ["other", "tree", "knot"]) (own := 1) (cap := [0, 1]) rfl (zcI rfl T.m_range (zaa (zaD zaz rfl T.m_len boot_len (zaa (pv 0) zae)) zae)) ⟨rfl, rfl, rfl, rfl, rfl, rfl⟩ (fun _ _ _ _ _ => (zaq (i := 0) (show List.Nodup (["other", "tree", "knot"] : List Str) by decide +kernel) rfl (Or.inl rfl))) (fun _ _ _ _ _ => (zeJ (zaJ zff (zaZ (zhA (K := K)) (pv 1) (pv 0) (fun _ _ => rfl)) (pv 2) (zbc _)))) (fun _ _ _ _ _ => (pv 0))))), ?_⟩
 refine ⟨_, rfl, _, _, rfl, .inr (SqT.of ht), _, rfl, by omega, by rw [zaG]; omega, fun D hD => ?_⟩
 have el : ((((zdv ps).length : Nat) : Int)).toNat = ps.length + 1 := by rw [zaG, Int.toNat_natCast]
 rw [el]
 refine zfE (n := ps.length + 1) (fun j σ H3 => ∃ x0 : Option V, σ = [x0, some (.ref t), some (.int k)] ∧ H3 D = some (.lst ((zaY ps k j).map nV)) ∧ But D H H3) ?_ ?_ ?_
 ·exact ⟨_, rfl, zac, fun b o n e => by rw [zah n]; exact e⟩
 ·rintro j m σ H3 hm hj ⟨x0, rfl, h3, k3⟩
  rw [Int.zero_add]
  have h3t := k3 _ _ (zab ht hD) ht
  have hlen := zel ps k j
  refine ⟨_, rfl, _, rfl, _, _, _, _, rfl, rfl, SqT.of h3t, zhT hj, _, rfl, zj2 _ _ _, _, rfl, ?_⟩
  refine ite2 (fun c => ?_) (fun c => ?_)
  ·have c' : par ps j = some k := zhi.mp (of_decide_eq_true c)
   refine ⟨_, rfl, _, h3, zau (by rw [List.length_map]; omega), m - 1, by omega, by omega, _, rfl, ?_, fun b o n e => by rw [zah n]; exact k3 b o n e⟩
   rw [zac, ze9, if_pos c', List.map_append]
   rfl
  ·have c' : ¬ par ps j = some k := fun z => c (decide_eq_true (zhi.mpr z))
   refine ⟨m - 1, by omega, by omega, _, rfl, ?_, k3⟩
   rw [h3, ze9, if_neg c', List.append_nil]
 ·rintro σ H3 ⟨x0, rfl, h3, k3⟩
  exact q D H3 hD (fun b o e => k3 b o (zab e hD) e) h3
def zgv (K : PySem.W.Frag) : Sp := fun vs H Q _ => ∃ (t : Addr) (ps : List Nat) (k : Nat), vs = [.ref t, .int k] ∧ H t = some (.tup (zdv ps)) ∧ zaF ps ∧ k < ps.length + 1 ∧ ps.length ≤ 900 ∧
 ∀ (p : Addr) (H' : Hp), H p = none → Same H H' → H' p = some (.lst ((benL ps k (ps.length + 1)).map nV)) → Q (.ref p) H'
theorem zi7 (T : Txt K mg) (D_beneath : DF K mg "beneath" zbE zcf) : FC P w K mg base 1 "beneath" zcf (zgv K) := by
 refine D_beneath.ok sc_beneath (fun vs H Q E h => ?_) (fun f cdv A outer s H vs Q E hr h => ?_)
 ·obtain ⟨t, ps, k, rfl, _⟩ := h
  rfl
 obtain ⟨t, ps, k, rfl, ht, hT, hk, hz, q⟩ := h
 refine ⟨_, (zag (zat (i := 2) sc_beneath.nd rfl (Or.inl rfl) (zcJ (zaa (pv 1) zae)))
   (zag (zbu PassesOwn.never rfl (zdT rfl T.m_range (zaa (zav zbv (pv 1) zaf) (zaa (zaD zaz rfl T.m_len boot_len (zaa (pv 0) zae)) zae))) (zaq (i := 3) sc_beneath.nd rfl (Or.inl rfl)) (zai (zdw (zaJ zkd (zaZ zcm (pv 0) (pv 3) (fun _ _ => rfl)) (pv 2) (by with_unfolding_all rfl)) (zai (zcy (zfe F.plainAttrs_list F.slot_list_append F.type_list_append zbl (pv 2) (zaa (pv 3) zae)))) zbF)))
   (zai (zaC (pv 2))))), ?_⟩
 refine ⟨_, rfl, (by show 1 ≤ sizeLine; decide), fun p hp => ?_⟩
 have k0 : But p H (upd H p (.lst [.int (k : Int)])) := fun b o n e => by rw [zah n]; exact e
 have ntp : t ≠ p := zab ht hp
 refine ⟨_, rfl, _, _, rfl, rfl, _, rfl, _, _, rfl, .inr (SqT.of (k0 _ _ ntp ht)), _, _, rfl, ⟨by omega, by omega, by omega, by rw [zaG]; omega⟩, ?_⟩
 have en : ((((zdv ps).length : Nat) : Int) - ((k : Int) + 1)).toNat = ps.length - k := by rw [zaG]; omega
 rw [en]
 refine zbS (n := ps.length - k) (fun i σ H3 => ∃ x3 : Option V, σ = [some (.ref t), some (.int k), some (.ref p), x3] ∧ H3 p = some (.lst ((benL ps k (k + 1 + i)).map nV)) ∧ But p H H3) ?_ ?_ ?_
 ·refine ⟨_, rfl, ?_, k0⟩
  rw [zac, Nat.add_zero, zmh hT]
  rfl
 ·rintro i σ H3 hi ⟨x3, rfl, h3, k3⟩
  have ek : (k : Int) + 1 + (i : Int) = ((k + 1 + i : Nat) : Int) := by omega
  rw [ek]
  have hj : k + 1 + i < ps.length + 1 := by omega
  have hj1 : 1 ≤ k + 1 + i := by omega
  have hjk : k + 1 + i ≠ k := by omega
  have ei : k + 1 + (i + 1) = k + 1 + i + 1 := by omega
  rw [ei]
  generalize k + 1 + i = j at h3 hj hj1 hjk ⊢
  obtain ⟨u, hu⟩ := zfZ hj1 hj
  have h3t := k3 _ _ ntp ht
  have hat := zhT hj
  rw [zeQ hu] at hat
  have hlen := ziI ps k j
  refine ⟨_, rfl, _, rfl, _, _, _, _, rfl, rfl, SqT.of h3t, hat, _, rfl, _, _, rfl, .inl (SqL.of h3), rfl, zkS _, _, rfl, ?_⟩
  show if inV (.int (u : Int)) ((benL ps k j).map nV) = true then _ else _
  rw [zmL]
  have hB : isB ps k j = isB ps k u := zbP hT hjk hu
  have hult := (za0 hT hu).1
  refine ite2 (fun c => ?_) (fun c => ?_)
  ·have c' : isB ps k u = true := (zb5.mp (of_decide_eq_true c)).2
   refine ⟨_, rfl, .inl ⟨rfl, _, SqL.of h3⟩, _, rfl, _, _, _, rfl, rfl, h3, zau (by rw [List.length_map]; omega), ?_⟩
   refine ⟨_, rfl, ?_, fun b o n e => by rw [zah n]; exact k3 b o n e⟩
   rw [zac, zg3, hB, if_pos c', List.map_append]
   rfl
  ·have c' : ¬ isB ps k u = true := fun z => c (decide_eq_true (zb5.mpr ⟨hult, z⟩))
   refine ⟨_, rfl, ?_, k3⟩
   rw [h3, zg3, hB, if_neg c', List.append_nil]
 ·rintro σ H3 ⟨x3, rfl, h3, k3⟩
  refine ⟨_, rfl, ?_⟩
  rw [show k + 1 + (ps.length - k) = ps.length + 1 by omega] at h3
  exact q p H3 hp (fun b o e => k3 b o (zab e hp) e) h3
def zbI (es : List (Int × Int)) : List (Int × Int) := zcN es (zbU es)
def zb3 (rows : List (List Int)) (k : Nat) : List Int := rows.getD k []
def ownE (rows : List (List Int)) (k : Nat) : List (Int × Int) := (zb3 rows k).map fun x => (x, (k : Int))
def zjk (ps : List Nat) (rows : List (List Int)) : Nat → Nat → List (Int × Int)
 | 0, _ => []
 | f + 1, k => zcp (((zaY ps k (ps.length + 1)).map fun c => zbI (zjk ps rows f c)).flatten ++ ownE rows k)
theorem zfC {ps : List Nat} (T : zaF ps) {rows : List (List Int)} : ∀ f g k, k < ps.length + 1 → ps.length + 1 - k ≤ f → ps.length + 1 - k ≤ g → zjk ps rows f k = zjk ps rows g k
 | 0, _, k, hk, h, _ => by omega
 | _, 0, k, hk, _, h => by omega
 | f + 1, g + 1, k, hk, hf, hg => by
  unfold zjk
  congr 3
  refine List.map_congr_left fun c hc => ?_
  have h := zaw.mp hc
  have := za0 T h.2
  show zbI _ = zbI _
  rw [zfC T f g c h.1 (by omega) (by omega)]
def zak (ps : List Nat) (rows : List (List Int)) (k : Nat) : List (Int × Int) := zjk ps rows (ps.length + 1 - k) k
def zdB (ps : List Nat) (rows : List (List Int)) (k : Nat) : List (List (Int × Int)) := ((zaY ps k (ps.length + 1)).map fun c => zbI (zak ps rows c)) ++ [ownE rows k]
theorem zcw {ps : List Nat} (T : zaF ps) {rows : List (List Int)} {k : Nat} (hk : k < ps.length + 1) : zak ps rows k = zcp (zdB ps rows k).flatten := by
 unfold zak zdB
 obtain ⟨f, hf⟩ : ∃ f, ps.length + 1 - k = f + 1 := ⟨ps.length - k, by omega⟩
 rw [hf, zjk, List.flatten_append, List.flatten_singleton]
 congr 3
 refine List.map_congr_left fun c hc => ?_
 have h := zaw.mp hc
 have := za0 T h.2
 show zbI _ = zbI _
 rw [zfC T f (ps.length + 1 - c) c h.1 (by omega) (by omega)]
 rfl
structure zbp (rows : List (List Int)) : Prop where
 up : ∀ row ∈ rows, row.Pairwise (· < ·)
 key : ∀ row ∈ rows, ∀ x ∈ row, -(10 ^ 60) < x ∧ x < 10 ^ 60
theorem zbp.at_up {rows : List (List Int)} (R : zbp rows) (k : Nat) : (zb3 rows k).Pairwise (· < ·) := by
 unfold zb3
 rw [List.getD_eq_getElem?_getD]
 cases e : rows[k]? with
 | none => exact .nil
 | some row => exact R.up row (List.mem_of_getElem? e)
theorem zbp.at_key {rows : List (List Int)} (R : zbp rows) (k : Nat) : ∀ x ∈ zb3 rows k, -(10 ^ 60) < x ∧ x < 10 ^ 60 := by
 unfold zb3
 rw [List.getD_eq_getElem?_getD]
 cases e : rows[k]? with
 | none => exact fun x hx => nomatch hx
 | some row => exact R.key row (List.mem_of_getElem? e)
theorem zgQ {α : Type} : ∀ (es : List α) (ms : List Bool), (zcN es ms).Sublist es
 | [], _ => by
  unfold zcN
  exact List.Sublist.refl _
 | e :: es, [] => by
  unfold zcN
  exact List.nil_sublist _
 | e :: es, m :: ms => by
  have ih := zgQ es ms
  unfold zcN at ih ⊢
  cases m with
  | false => exact List.Sublist.cons e ih
  | true => exact List.Sublist.cons₂ e ih
theorem zbn (es : List (Int × Int)) : (zbI es).Sublist es := zgQ _ _
def Of (ps : List Nat) (rows : List (List Int)) (k : Nat) (e : Int × Int) : Prop := ∃ j, j < ps.length + 1 ∧ isB ps k j = true ∧ e.2 = (j : Int) ∧ e.1 ∈ zb3 rows j
theorem zkb {ps : List Nat} {rows : List (List Int)} {k : Nat} (hk : k < ps.length + 1) {e : Int × Int} (h : e ∈ ownE rows k) : Of ps rows k e ∧ e.2 = (k : Int) := by
 obtain ⟨x, hx, rfl⟩ := List.mem_map.mp h
 exact ⟨⟨k, hk, zc1, rfl, hx⟩, rfl⟩
theorem zkc {rows : List (List Int)} (R : zbp rows) (k : Nat) : (ownE rows k).Nodup := by
 unfold ownE
 rw [List.nodup_iff_pairwise_ne, List.pairwise_map]
 exact List.Pairwise.imp (fun {a b} (h : a < b) z => by
  have := congrArg Prod.fst z
  have : a = b := this
  omega) (R.at_up k)
theorem zeC {ps : List Nat} (T : zaF ps) {rows : List (List Int)} (R : zbp rows) : ∀ (m k : Nat), ps.length + 1 - k ≤ m → k < ps.length + 1 → (∀ e ∈ zak ps rows k, Of ps rows k e) ∧ (zdB ps rows k).flatten.Nodup
 | 0, k, hm, hk => by omega
 | m + 1, k, hm, hk => by
  have ih : ∀ c, par ps c = some k → (∀ e ∈ zak ps rows c, Of ps rows c e) ∧ (zak ps rows c).Nodup := fun c hc => by
   have := za0 T hc
   have q := zeC T R m c (by omega) this.2
   refine ⟨q.1, ?_⟩
   rw [zcw T this.2]
   exact (zb6 _).nodup_iff.mpr q.2
  have up : ∀ {c : Nat} {e : Int × Int}, par ps c = some k → Of ps rows c e → Of ps rows k e := fun {c e} hc h => by
   obtain ⟨j, h1, h2, h3, h4⟩ := h
   exact ⟨j, h1, (zdZ T j j (Nat.le_refl _) h1).mpr (.inr ⟨c, hc, h2⟩), h3, h4⟩
  refine ⟨fun e he => ?_, ?_⟩
  ·rw [zcw T hk, zeG] at he
   obtain ⟨l, hl, he⟩ := List.mem_flatten.mp he
   rcases List.mem_append.mp hl with q | q
   ·obtain ⟨c, hc, rfl⟩ := List.mem_map.mp q
    have hp := (zaw.mp hc).2
    exact up hp ((ih c hp).1 e ((zbn _).mem he))
   ·rw [List.mem_singleton.mp q] at he
    exact (zkb hk he).1
  ·show List.Pairwise _ _
   unfold zdB
   rw [List.pairwise_flatten]
   refine ⟨fun l hl => ?_, ?_⟩
   ·rcases List.mem_append.mp hl with q | q
    ·obtain ⟨c, hc, rfl⟩ := List.mem_map.mp q
     exact (ih c (zaw.mp hc).2).2.sublist (zbn _)
    ·rw [List.mem_singleton.mp q]
     exact zkc R k
   ·rw [List.pairwise_append]
    refine ⟨?_, List.pairwise_singleton _ _, ?_⟩
    ·rw [List.pairwise_map]
     refine List.Pairwise.imp_of_mem (fun {c d} hc hd hcd => ?_) (zgW ps k _)
     intro x hx y hy z
     subst z
     have pc := (zaw.mp hc).2
     have pd := (zaw.mp hd).2
     obtain ⟨j, _, h2, h3, _⟩ := (ih c pc).1 x ((zbn _).mem hx)
     obtain ⟨i, _, g2, g3, _⟩ := (ih d pd).1 x ((zbn _).mem hy)
     have : j = i := by omega
     subst this
     exact zd0 T pc pd (Nat.ne_of_lt hcd) j j (Nat.le_refl _) h2 g2
    ·intro l hl l' hl' x hx y hy z
     subst z
     obtain ⟨c, hc, rfl⟩ := List.mem_map.mp hl
     rw [List.mem_singleton.mp hl'] at hy
     have pc := (zaw.mp hc).2
     obtain ⟨j, _, h2, h3, _⟩ := (ih c pc).1 x ((zbn _).mem hx)
     have h4 := (zkb hk hy).2
     have : j = k := by omega
     subst this
     rw [zeY T (za0 T pc).1] at h2
     cases h2
theorem zgd {ps : List Nat} (T : zaF ps) {rows : List (List Int)} (R : zbp rows) {k : Nat} (hk : k < ps.length + 1) : ∀ e ∈ zak ps rows k, Of ps rows k e := (zeC T R _ k (Nat.le_refl _) hk).1
theorem ze1 {ps : List Nat} (T : zaF ps) {rows : List (List Int)} (R : zbp rows) {k : Nat} (hk : k < ps.length + 1) : (zak ps rows k).Nodup := by
 rw [zcw T hk]
 exact (zb6 _).nodup_iff.mpr (zeC T R _ k (Nat.le_refl _) hk).2
theorem zbb {ps : List Nat} (T : zaF ps) {rows : List (List Int)} (R : zbp rows) {k : Nat} (hk : k < ps.length + 1) : Rise (zak ps rows k) := by
 rw [zcw T hk]
 exact zfp (zeC T R _ k (Nat.le_refl _) hk).2
theorem zd1 {ps : List Nat} (T : zaF ps) {rows : List (List Int)} (R : zbp rows) (hz : ps.length ≤ 40) {k : Nat} (hk : k < ps.length + 1) : ∀ e ∈ zak ps rows k, zdy 64 e := fun e he => by
 obtain ⟨j, h1, h2, h3, h4⟩ := zgd T R hk e he
 have := R.at_key j _ h4
 exact ⟨this.1, this.2, by omega, by omega⟩
def wtR (ps : List Nat) (rows : List (List Int)) (k : Nat) : Nat := ((benL ps k (ps.length + 1)).map fun j => (zb3 rows j).length).sum
def wtF (ps : List Nat) (rows : List (List Int)) (k : Nat) : Nat := ((benL ps k (ps.length + 1)).map fun j => (zak ps rows j).length).sum
theorem zly {l m : List Nat} (h : l.Perm m) : l.sum = m.sum := by
 induction h with
 | nil => rfl
 | cons x _ ih => rw [List.sum_cons, List.sum_cons, ih]
 | swap x y l => rw [List.sum_cons, List.sum_cons, List.sum_cons, List.sum_cons]; omega
 | trans _ _ h1 h2 => rw [h1, h2]
theorem zhZ (f : Nat → Nat) : ∀ (ls : List (List Nat)), (ls.flatten.map f).sum = (ls.map fun l => (l.map f).sum).sum
 | [] => rfl
 | l :: ls => by
  rw [List.flatten_cons, List.map_append, List.sum_append, zhZ f ls, List.map_cons, List.sum_cons]
theorem zjz {ps : List Nat} (T : zaF ps) (f : Nat → Nat) {k : Nat} (hk : k < ps.length + 1) : ((benL ps k (ps.length + 1)).map f).sum = f k + ((zaY ps k (ps.length + 1)).map fun c => ((benL ps c (ps.length + 1)).map f).sum).sum := by
 have h := zly ((zi1 T hk).map f)
 rw [List.map_cons, List.sum_cons, zhZ, List.map_map] at h
 exact h.symm
theorem zmo {f g : Nat → Nat} : ∀ {l : List Nat}, (∀ x ∈ l, f x ≤ g x) → (l.map f).sum ≤ (l.map g).sum
 | [], _ => Nat.le_refl _
 | x :: l, h => by
  rw [List.map_cons, List.sum_cons, List.map_cons, List.sum_cons]
  have h1 := h x List.mem_cons_self
  have h2 := zmo (f := f) (g := g) (l := l) fun y hy => h y (List.mem_cons_of_mem _ hy)
  omega
theorem zin {α : Type} : ∀ (ls : List (List α)), ls.flatten.length = (ls.map List.length).sum
 | [] => rfl
 | l :: ls => by
  rw [List.flatten_cons, List.length_append, zin ls, List.map_cons, List.sum_cons]
theorem zkQ {ps : List Nat} (T : zaF ps) {rows : List (List Int)} {k : Nat} (hk : k < ps.length + 1) : (zak ps rows k).length = (zb3 rows k).length + ((zaY ps k (ps.length + 1)).map fun c => (zbI (zak ps rows c)).length).sum := by
 rw [zcw T hk, zc9]
 unfold zdB
 rw [List.flatten_append, List.length_append, List.flatten_singleton, zin, List.map_map]
 unfold ownE
 rw [List.length_map, Nat.add_comm]
 rfl
theorem zfB {ps : List Nat} (T : zaF ps) {rows : List (List Int)} : ∀ (m k : Nat), ps.length + 1 - k ≤ m → k < ps.length + 1 → (zak ps rows k).length ≤ wtR ps rows k
 | 0, k, hm, hk => by omega
 | m + 1, k, hm, hk => by
  unfold wtR
  rw [zkQ T hk, zjz T _ hk]
  refine Nat.add_le_add_left (zmo fun c hc => ?_) _
  have h := zaw.mp hc
  have := za0 T h.2
  exact Nat.le_trans (zbn _).length_le (zfB T m c (by omega) h.1)
theorem zfo (f : Nat → Nat) (P : Nat → Bool) : ∀ (l : List Nat), ((l.filter P).map f).sum ≤ (l.map f).sum
 | [] => Nat.le_refl _
 | x :: l => by
  have ih := zfo f P l
  rw [List.map_cons, List.sum_cons]
  by_cases h : P x = true
  ·rw [List.filter_cons_of_pos h, List.map_cons, List.sum_cons]
   omega
  ·rw [List.filter_cons_of_neg h]
   omega
def zdx (rows : List (List Int)) : Nat := (rows.map List.length).sum
theorem zjR (rows : List (List Int)) : ((List.range rows.length).map fun j => (zb3 rows j).length).sum = zdx rows := by
 unfold zdx
 congr 1
 apply List.ext_getElem?
 intro i
 rw [List.getElem?_map, List.getElem?_map]
 by_cases h : i < rows.length
 ·rw [List.getElem?_range h, List.getElem?_eq_getElem h]
  show some (zb3 rows i).length = some rows[i].length
  unfold zb3
  rw [List.getD_eq_getElem?_getD, List.getElem?_eq_getElem h]
  rfl
 ·rw [List.getElem?_eq_none (by rw [List.length_range]; omega), List.getElem?_eq_none (by omega)]
  rfl
theorem zmk {ps : List Nat} {rows : List (List Int)} (hl : rows.length = ps.length + 1) (k : Nat) : wtR ps rows k ≤ zdx rows := by
 unfold wtR benL
 refine Nat.le_trans (zfo _ _ _) ?_
 rw [← hl, zjR]
 exact Nat.le_refl _
theorem ze0 {ps : List Nat} (T : zaF ps) {rows : List (List Int)} (hl : rows.length = ps.length + 1) {k : Nat} (hk : k < ps.length + 1) : (zak ps rows k).length ≤ zdx rows := Nat.le_trans (zfB T _ k (Nat.le_refl _) hk) (zmk hl k)
def za7 (H : Hp) (as : List Addr) (rows : List (List Int)) : Prop := Paired (fun a row => H a = some (.tup (row.map V.int))) as rows
theorem za7.ext {H H' : Hp} (e : ∀ b o, H b = some o → H' b = some o) : ∀ {as : List Addr} {rows : List (List Int)}, za7 H as rows → za7 H' as rows
 | _, _, .nil => .nil
 | _, _, .cons h t => .cons (e _ _ h) (za7.ext e t)
theorem za7.keep {d p : Addr} {H H' : Hp} (hd : ∀ a row, H a = some (.tup row) → a ≠ d) (e : ∀ b o, b ≠ d → H b = some o → H' b = some o) : ∀ {as : List Addr} {rows : List (List Int)}, za7 H as rows → za7 H' as rows
 | _, _, .nil => .nil
 | _, _, .cons h t => .cons (e _ _ (hd _ _ h) h) (za7.keep (p := p) hd e t)
theorem za7.length {H : Hp} {as : List Addr} {rows : List (List Int)} (h : za7 H as rows) : as.length = rows.length := Paired.length h
theorem za7.get {H : Hp} : ∀ {as : List Addr} {rows : List (List Int)} {k : Nat}, za7 H as rows → k < rows.length → ∃ a, as[k]? = some a ∧ H a = some (.tup ((zb3 rows k).map V.int))
 | _, _, _, .nil, hk => by simp at hk
 | a :: as, row :: rows, 0, .cons h t, _ => ⟨a, rfl, h⟩
 | a :: as, row :: rows, k + 1, .cons h t, hk => by
  obtain ⟨b, h1, h2⟩ := za7.get (k := k) t (by simpa using hk)
  refine ⟨b, by rw [List.getElem?_cons_succ]; exact h1, ?_⟩
  have : zb3 (row :: rows) (k + 1) = zb3 rows k := by
   unfold zb3
   rw [List.getD_eq_getElem?_getD, List.getD_eq_getElem?_getD, List.getElem?_cons_succ]
  rw [this]
  exact h2
theorem za7.snoc {H : Hp} {a : Addr} {row : List Int} : ∀ {as : List Addr} {rows : List (List Int)}, za7 H as rows → H a = some (.tup (row.map V.int)) → za7 H (as ++ [a]) (rows ++ [row])
 | _, _, .nil, h => .cons h .nil
 | _, _, .cons h t, h2 => .cons h (za7.snoc t h2)
structure zcA (H : Hp) (st : Addr) (ps : List Nat) (rows : List (List Int)) (t rs : Addr) (as : List Addr) : Prop where
 st : H st = some (.tup [.ref t, .ref rs])
 tr : H t = some (.tup (zdv ps))
 rs : H rs = some (.tup (as.map V.ref))
 at_ : za7 H as rows
 len : rows.length = ps.length + 1
 T : zaF ps
 R : zbp rows
 few : ps.length ≤ 40
 keys : zdx rows ≤ 400
theorem zcA.same {H H' : Hp} {st t rs : Addr} {ps : List Nat} {rows : List (List Int)} {as : List Addr} (S : zcA H st ps rows t rs as) (e : Same H H') : zcA H' st ps rows t rs as :=
 ⟨e _ _ S.st, e _ _ S.tr, e _ _ S.rs, S.at_.ext e, S.len, S.T, S.R, S.few, S.keys⟩
theorem zli {as : List Addr} {k : Nat} {a : Addr} (h : as[k]? = some a) : atI (as.map V.ref) (k : Int) = some (.ref a) := zbk (by rw [List.getElem?_map, h]; rfl)
theorem zgE {α : Type} {l : List α} (h : l.Nodup) : l.reverse.Nodup := (List.reverse_perm l).nodup_iff.mpr h
def zfc (K : PySem.W.Frag) (H : Hp) (ps : List Nat) (rows : List (List Int)) (j : Nat) (q : Addr) : Prop := ∃ ws, H q = some (.lst ws) ∧ zaj K H (zak ps rows j) ws
def zas (K : PySem.W.Frag) (H : Hp) (ps : List Nat) (rows : List (List Int)) : List Nat → List Addr → Prop := Paired (zfc K H ps rows)
theorem zfc.same {K : PySem.W.Frag} {H H' : Hp} {ps : List Nat} {rows : List (List Int)} {j : Nat} {q : Addr} (h : zfc K H ps rows j q) (e : Same H H') : zfc K H' ps rows j q := by
 obtain ⟨ws, h1, h2⟩ := h
 exact ⟨ws, e _ _ h1, h2.mono e.ext⟩
theorem zas.same {K : PySem.W.Frag} {H H' : Hp} {ps : List Nat} {rows : List (List Int)} (e : Same H H') : ∀ {js : List Nat} {qs : List Addr}, zas K H ps rows js qs → zas K H' ps rows js qs
 | _, _, .nil => .nil
 | _, _, .cons h t => .cons (zfc.same h e) (zas.same e t)
theorem zas.ext {K : PySem.W.Frag} {H H' : Hp} {ps : List Nat} {rows : List (List Int)} (e : Ext H H') : ∀ {js : List Nat} {qs : List Addr}, zas K H ps rows js qs → zas K H' ps rows js qs
 | _, _, .nil => .nil
 | _, _, .cons h t => by
  obtain ⟨ws, a1, a2⟩ := h
  exact .cons ⟨ws, e _ _ a1 (fun _ z => nomatch z), a2.mono e⟩ (zas.ext e t)
theorem zas.length {K : PySem.W.Frag} {H : Hp} {ps : List Nat} {rows : List (List Int)} {js : List Nat} {qs : List Addr} (h : zas K H ps rows js qs) : js.length = qs.length := Paired.length h
theorem zas.snoc {K : PySem.W.Frag} {H : Hp} {ps : List Nat} {rows : List (List Int)} {j : Nat} {q : Addr} : ∀ {js : List Nat} {qs : List Addr}, zas K H ps rows js qs → zfc K H ps rows j q → zas K H ps rows (js ++ [j]) (qs ++ [q])
 | _, _, .nil, h => .cons h .nil
 | _, _, .cons h t, h2 => .cons h (zas.snoc t h2)
theorem zas.get {K : PySem.W.Frag} {H : Hp} {ps : List Nat} {rows : List (List Int)} : ∀ {js : List Nat} {qs : List Addr} {i j : Nat}, zas K H ps rows js qs → js[i]? = some j → ∃ q, qs[i]? = some q ∧ zfc K H ps rows j q
 | _, _, i, j, .nil, h => by simp at h
 | _ :: _, q :: _, 0, j, .cons h t, e => by
  have := Option.some.inj (show some _ = some j from e)
  subst this
  exact ⟨q, rfl, h⟩
 | _ :: _, _ :: _, i + 1, j, .cons h t, e => by
  obtain ⟨q, h1, h2⟩ := zas.get (i := i) t (by simpa using e)
  exact ⟨q, by simpa using h1, h2⟩
theorem zas.rev {K : PySem.W.Frag} {H : Hp} {ps : List Nat} {rows : List (List Int)} : ∀ {js : List Nat} {qs : List Addr}, zas K H ps rows js qs → zas K H ps rows js.reverse qs.reverse
 | _, _, .nil => .nil
 | j :: js, q :: qs, .cons h t => by
  rw [List.reverse_cons, List.reverse_cons]
  exact zas.snoc (zas.rev t) h
theorem zas.alloc {K : PySem.W.Frag} {H : Hp} {ps : List Nat} {rows : List (List Int)} : ∀ {js : List Nat} {qs : List Addr}, zas K H ps rows js qs → ∀ q ∈ qs, ∃ ws, H q = some (.lst ws)
 | _, _, .nil => fun q hq => nomatch hq
 | _ :: _, _ :: _, .cons h t => fun q hq => by
  rcases List.mem_cons.mp hq with e | e
  ·obtain ⟨ws, h1, _⟩ := h
   exact ⟨ws, e ▸ h1⟩
  ·exact zas.alloc t q e
abbrev kN (j : Nat) : Key := Sum.inl (j : Int)
def zde : List Nat → List Addr → List (Key × V)
 | j :: js, q :: qs => (kN j, .ref q) :: zde js qs
 | _, _ => []
theorem ziq {j : Nat} : ∀ {js : List Nat} {qs : List Addr}, j ∉ js → valV (zde js qs) (kN j) = none
 | [], _, _ => rfl
 | _ :: _, [], _ => rfl
 | i :: js, q :: qs, h => by
  have h1 : ¬ kN i = kN j := fun z => h (by
   have := Int.ofNat.inj (Sum.inl.inj z)
   rw [this]
   exact List.mem_cons_self)
  show valV ((kN i, V.ref q) :: zde js qs) (kN j) = none
  rw [zbq h1]
  exact ziq fun z => h (List.mem_cons_of_mem _ z)
theorem zhv {j : Nat} {q : Addr} : ∀ {js : List Nat} {qs : List Addr} {i : Nat}, js.Nodup → js[i]? = some j → qs[i]? = some q → valV (zde js qs) (kN j) = some (.ref q)
 | [], _, _, _, h, _ => by simp at h
 | _ :: _, [], _, _, _, h => by simp at h
 | a :: js, b :: qs, 0, _, h1, h2 => by
  have := Option.some.inj (show some a = some j from h1)
  subst this
  have := Option.some.inj (show some b = some q from h2)
  subst this
  exact zcs (p := (kN a, V.ref b)) rfl
 | a :: js, b :: qs, i + 1, hn, h1, h2 => by
  have g1 : js[i]? = some j := by simpa using h1
  have hne : ¬ kN a = kN j := fun z => by
   have e := Int.ofNat.inj (Sum.inl.inj z)
   exact (List.nodup_cons.mp hn).1 (e ▸ List.mem_of_getElem? g1)
  show valV ((kN a, V.ref b) :: zde js qs) (kN j) = _
  rw [zbq hne]
  exact zhv (List.nodup_cons.mp hn).2 g1 (by simpa using h2)
theorem zio {j : Nat} {q : Addr} : ∀ {js : List Nat} {qs : List Addr}, js.length = qs.length → zde (js ++ [j]) (qs ++ [q]) = zde js qs ++ [(kN j, .ref q)]
 | [], [], _ => rfl
 | [], _ :: _, h => by cases h
 | _ :: _, [], h => by cases h
 | a :: js, b :: qs, h => by
  show (kN a, V.ref b) :: zde (js ++ [j]) (qs ++ [q]) = (kN a, V.ref b) :: (zde js qs ++ [(kN j, V.ref q)])
  rw [zio (Nat.succ.inj h)]
theorem znt {j : Nat} {q : Addr} {js : List Nat} {qs : List Addr} (hl : js.length = qs.length) (h : j ∉ js) : putK (zde js qs) (kN j) (.ref q) = zde (js ++ [j]) (qs ++ [q]) := by
 rw [zdR _ (ziq h), zio hl]
theorem zkx : ∀ {js : List Nat} {qs : List Addr}, js.length = qs.length → (zde js qs).length = js.length
 | [], [], _ => rfl
 | [], _ :: _, h => by cases h
 | _ :: _, [], h => by cases h
 | a :: js, b :: qs, h => by
  show (zde js qs).length + 1 = js.length + 1
  rw [zkx (Nat.succ.inj h)]
theorem zmi {l : List Nat} (h : l.Pairwise (· > ·)) {i j c : Nat} (hj : l[i]? = some j) (hc : c ∈ l) (hcj : j < c) : c ∈ l.take i := by
 obtain ⟨u, hu, rfl⟩ := List.getElem_of_mem hc
 obtain ⟨hi, rfl⟩ := List.getElem?_eq_some_iff.mp hj
 have : u < i := by
  refine Nat.lt_of_not_le fun z => ?_
  by_cases e : i = u
  ·subst e
   omega
  ·have := List.pairwise_iff_getElem.mp h i u hi hu (by omega)
   omega
 rw [List.mem_iff_getElem?]
 exact ⟨u, by rw [List.getElem?_take, if_pos this, List.getElem?_eq_getElem hu]⟩
theorem zlZ {ps : List Nat} (T : zaF ps) {k j c : Nat} (h : isB ps k j = true) (hc : par ps c = some j) : isB ps k c = true := by
 by_cases e : c = k
 ·rw [e]
  exact zc1
 ·rw [zbP T e hc]
  exact h
def zn7 (K : PySem.W.Frag) : Sp := fun vs H Q _ => ∃ (st : Addr) (ps : List Nat) (rows : List (List Int)) (t rs : Addr) (as : List Addr) (j : Nat), vs = [.ref st, .int j] ∧ zcA H st ps rows t rs as ∧ j < ps.length + 1 ∧
 ∀ (D : Addr) (us : List V) (H' : Hp), H D = none → Same H H' → H' D = some (.lst us) → zaj K H' (ownE rows j) us → Q (.ref D) H'
theorem zow (T : Txt K mg) (D_own_entries : DF K mg "own_entries" zaI zba) : FC P w K mg base 1 "own_entries" zba (zn7 K) := by
 refine D_own_entries.ok sc_own_entries (fun vs H Q E h => ?_) (fun f cdv A outer s H vs Q E hr h => ?_)
 ·obtain ⟨st, ps, rows, t, rs, as, k, rfl, _⟩ := h
  rfl
 obtain ⟨st, ps, rows, t, rs, as, j, rfl, S4, hjn, q⟩ := h
 refine ⟨_, (zai (zaC (zdJ (N := ["key", "knot"]) (own := 1) (cap := [1]) rfl (zeN (zaZ zcm (zaZ zcm (pv 0) zaf (fun _ _ => rfl)) (pv 1) (fun _ _ => rfl))) ⟨rfl, rfl, rfl, rfl, rfl, rfl⟩ (fun _ _ _ _ _ => (zaq (i := 0) (show List.Nodup (["key", "knot"] : List Str) by decide +kernel) rfl (Or.inl rfl))) (fun _ _ _ _ _ => zdI) (fun _ _ _ _ _ => (zdU (zaa (pv 0) (zaa (pv 1) zae))))))), ?_⟩
 obtain ⟨a, ha1, ha4⟩ := S4.at_.get (k := j) (by rw [S4.len]; exact hjn)
 have hkeys := S4.keys
 refine ⟨_, rfl, _, _, _, _, rfl, rfl, SqT.of S4.st, rfl, _, rfl, _, _, _, _, rfl, rfl, SqT.of S4.rs, zli ha1, a, rfl, ⟨_, SqT.of ha4⟩, fun D3 hD3 => ?_⟩
 refine zgh (xs := (zb3 rows j).map V.int) (fun m σ H5 => ∃ (us : List V) (x0 : Option V), σ = [x0, some (.int j)] ∧ H5 D3 = some (.lst us) ∧ zaj K H5 ((ownE rows j).take m) us ∧ But D3 H H5) ?_ ?_ ?_ ?_
 ·exact ⟨[], _, rfl, zac, .nil, fun b o n e => by rw [zah n]; exact e⟩
 ·rintro m σ H5 _ ⟨us, x0, rfl, _, _, k5⟩
  exact SqT.of (k5 _ _ (zab ha4 hD3) ha4)
 ·rintro m r x σ H5 hx hm ⟨us, x0, rfl, h5, hw5, k5⟩
  rw [List.getElem?_map] at hx
  obtain ⟨y, hy, rfl⟩ := Option.map_eq_some_iff.mp hx
  have hlow := (List.getElem?_eq_some_iff.mp hy).1
  have htk3 : (ownE rows j).take (m + 1) = (ownE rows j).take m ++ [(y, (j : Int))] := by
   unfold ownE
   rw [← List.map_take, ← List.map_take, List.take_succ_eq_append_getElem hlow, List.map_append]
   rw [(List.getElem?_eq_some_iff.mp hy).2]
   rfl
  have hul := hw5.length
  rw [List.length_take] at hul
  rw [List.length_map] at hm
  have hrl : (zb3 rows j).length ≤ zdx rows := by
   have := zmk S4.len (k := j) (ps := ps)
   have e2 : wtR ps rows j = (zb3 rows j).length + _ := zjz S4.T _ hjn
   omega
  refine zeX ?_
  refine ⟨_, rfl, _, rfl, (by show 2 ≤ sizeLine; decide), fun u hu => ?_⟩
  have su := zal hu (.tup [.int y, .int (j : Int)])
  have h6 := su _ _ h5
  have hut : upd H5 u (.tup [.int y, .int (j : Int)]) u = some (.tup [.int y, .int (j : Int)]) := zac
  have k6 := k5.new' hu (.tup [.int y, .int (j : Int)])
  have hw6 := hw5.mono su.ext
  generalize upd H5 u (.tup [.int y, .int (j : Int)]) = H6 at su h6 hut k6 hw6 ⊢
  refine ⟨_, h6, zau (by omega), r - 1, by omega, by rw [List.length_map]; omega, us ++ [.ref u], _, rfl, zac, ?_, fun b o n e => by rw [zah n]; exact k6 b o n e⟩
  rw [htk3]
  exact (zbH h6 hw6).append (zbH h6 (.cons ⟨u, .int y, .int (j : Int), rfl, hut, rfl, rfl⟩ .nil))
 ·rintro σ H5 ⟨us, x0, rfl, h5, hw5, k5⟩
  rw [List.length_map, List.take_of_length_le (by unfold ownE; rw [List.length_map]; exact Nat.le_refl _)] at hw5
  exact q D3 us H5 hD3 (fun x o e => k5 x o (zab e hD3) e) h5 hw5
def zob (K : PySem.W.Frag) : Sp := fun vs H Q _ => ∃ (st : Addr) (ps : List Nat) (rows : List (List Int)) (t rs : Addr) (as : List Addr) (k : Nat), vs = [.ref st, .int k] ∧ zcA H st ps rows t rs as ∧ k < ps.length + 1 ∧
 ∀ (D : Addr) (qs : List Addr) (H' : Hp), H D = none → Same H H' → H' D = some (.dK (zde (benL ps k (ps.length + 1)).reverse qs)) → qs.Nodup → (∀ q ∈ qs, H q = none) → zas K H' ps rows (benL ps k (ps.length + 1)).reverse qs → Q (.ref D) H'
theorem zoB (T : Txt K mg) (D_full_rows_beneath : DF K mg "full_rows_beneath" zao zaE) (F_beneath : FC P w K mg base 1 "beneath" zcf (zgv K)) (F_children : FC P w K mg base 1 "children" zbr (zea K)) (F_handed : FC P w K mg base 6 "handed" zch (zfP K)) (F_own_entries : FC P w K mg base 1 "own_entries" zba (zn7 K)) (F_joined_up : FC P w K mg base 1 "joined_up" zbt (zmt K)) : FC P w K mg base 7 "full_rows_beneath" zaE (zob K) := by
 refine D_full_rows_beneath.ok sc_full_rows_beneath (fun vs H Q E h => ?_) (fun f cdv A outer s H vs Q E hr h => ?_)
 ·obtain ⟨st, ps, rows, t, rs, as, k, rfl, _⟩ := h
  rfl
 obtain ⟨st, ps, rows, t, rs, as, k, rfl, S, hk, q⟩ := h
 refine ⟨_, (zag (zat (i := 2) sc_full_rows_beneath.nd rfl (Or.inl rfl) (zaZ zcm (pv 0) zaf (fun _ _ => rfl)))
   (zag (zat (i := 3) sc_full_rows_beneath.nd rfl (Or.inr rfl) zif)
   (zag (zbu PassesOwn.never rfl (zhf rfl T.m_reversed (zaa (zaM F_beneath hr (zaa (pv 2) (zaa (pv 1) zae))) zae)) (zaq (i := 4) sc_full_rows_beneath.nd rfl (Or.inl rfl)) (zag (zeK (i := 5) (N := ["child", "told"]) (own := 1) (cap := [3]) sc_full_rows_beneath.nd rfl rfl rfl (zcz (zaM F_children hr (zaa (pv 2) (zaa (pv 4) zae)))) ⟨rfl, rfl, rfl, rfl, rfl, rfl⟩ (fun _ _ _ _ _ => (zaq (i := 0) (show List.Nodup (["child", "told"] : List Str) by decide +kernel) rfl (Or.inl rfl))) (fun _ _ _ _ _ => zdI) (fun _ _ _ _ _ => (zaM F_handed hr (zaa (zdc (zdK hr) (pv 1) (pv 0) (fun _ _ => rfl)) zae))))
   (zag (zcy (zfe F.plainAttrs_list F.slot_list_append F.type_list_append zbl (pv 5) (zaa (zaM F_own_entries hr (zaa (pv 0) (zaa (pv 4) zae))) zae)))
   (zai (zeb (zdK hr) (pv 3) (pv 4) (zaM F_joined_up hr (zaa (pv 5) zae)) rfl)))))
   (zai (zaC (pv 3)))))), ?_⟩
 refine ⟨_, rfl, _, _, _, _, rfl, rfl, SqT.of S.st, rfl, fun D hD => ?_⟩
 have s0 := zal hD (.dK [])
 have hD0 : upd H D (.dK []) D = some (.dK []) := zac
 generalize upd H D (.dK []) = H0 at s0 hD0 ⊢
 refine ⟨_, rfl, _, rfl, t, ps, k, rfl, s0 _ _ S.tr, S.T, hk, by have := S.few; omega, fun b H1 hb s1 h1 => ?_⟩
 refine ⟨b, _, rfl, SqL.of h1, ?_⟩
 have hup := zhQ ps k (ps.length + 1)
 have hmem := fun j => zb5 (ps := ps) (k := k) (n := ps.length + 1) (j := j)
 have hbl := ziI ps k (ps.length + 1)
 generalize benL ps k (ps.length + 1) = bs at h1 q hup hmem hbl ⊢
 have hdn : bs.reverse.Pairwise (· > ·) := by
  rw [List.pairwise_reverse]
  exact hup
 have hnd : bs.reverse.Nodup := List.Pairwise.imp (fun {a b} (q : a > b) => Nat.ne_of_gt q) hdn
 refine znC (xs := bs.map nV) (fun i σ H2 => ∃ (qs : List Addr) (x5 x6 : Option V), σ = [some (.ref st), some (.int k), some (.ref t), some (.ref D), x5, x6] ∧ H2 D = some (.dK (zde (bs.reverse.take i) qs)) ∧ qs.Nodup ∧ (∀ q ∈ qs, H q = none) ∧ zas K H2 ps rows (bs.reverse.take i) qs ∧ H2 b = some (.lst (bs.map nV)) ∧ But D H H2) ?_ ?_ ?_ ?_
 ·exact ⟨[], _, _, rfl, s1 _ _ hD0, List.nodup_nil, (fun q hq => nomatch hq), .nil, h1, fun x o _ e => s1 _ _ (s0 _ _ e)⟩
 ·rintro i σ H2 _ ⟨qs, x5, x6, rfl, _, _, _, _, h2b, _⟩
  exact SqL.of h2b
 ·rintro i x σ H2 hx ⟨qs, x5, x6, rfl, h2, hqn, hqf, hF, h2b, k2⟩
  rw [← List.map_reverse] at hx
  obtain ⟨hi, hxe⟩ := ziA hx
  have hji : bs.reverse[i]? = some (bs.reverse.getD i 0) := by
   rw [List.getD_eq_getElem?_getD, List.getElem?_eq_getElem hi]
   rfl
  subst hxe
  have htk : bs.reverse.take (i + 1) = bs.reverse.take i ++ [bs.reverse.getD i 0] := by
   rw [List.take_succ_eq_append_getElem hi, List.getD_eq_getElem?_getD, List.getElem?_eq_getElem hi]
   rfl
  rw [htk]
  generalize bs.reverse.getD i 0 = j at hji htk ⊢
  have hjm : j ∈ bs := List.mem_reverse.mp (List.mem_of_getElem? hji)
  obtain ⟨hjn, hjB⟩ := (hmem j).mp hjm
  have hjnot : j ∉ bs.reverse.take i := fun z => by
   have hnd' := hnd
   rw [← List.take_append_drop (i + 1) bs.reverse, htk] at hnd'
   have := (List.nodup_append.mp hnd').1
   exact (List.nodup_append.mp this).2.2 j z j (List.mem_singleton.mpr rfl) rfl
  have noD : ∀ {p : Addr} {o : HO}, H p = some o → p ≠ D := fun {p o} e => zab e hD
  have S2 : zcA H2 st ps rows t rs as := ⟨k2 _ _ (noD S.st) S.st, k2 _ _ (noD S.tr) S.tr, k2 _ _ (noD S.rs) S.rs, za7.keep (p := D) (d := D) (fun a row e => noD e) k2 S.at_, S.len, S.T, S.R, S.few, S.keys⟩
  have hkeys := S.keys
  have hfew := S.few
  refine ⟨_, rfl, _, rfl, t, ps, j, rfl, S2.tr, by omega, fun c H3 hc s3 h3 => ?_⟩
  refine ⟨c, rfl, ⟨_, SqL.of h3⟩, fun D2 hD2 => ?_⟩
  have hcmem := fun m => zaw (ps := ps) (k := j) (n := ps.length + 1) (j := m)
  have hcl := zel ps j (ps.length + 1)
  have hparts : zdB ps rows j = ((zaY ps j (ps.length + 1)).map fun c => zbI (zak ps rows c)) ++ [ownE rows j] := rfl
  generalize zaY ps j (ps.length + 1) = cs at h3 hcmem hcl hparts ⊢
  have h3D := s3 _ _ h2
  have nDD2 : D ≠ D2 := zab h3D hD2
  have F3 : zas K H3 ps rows (bs.reverse.take i) qs := hF.same s3
  refine zcO (xs := cs.map nV) (fun m σ H4 => ∃ (gs : List Addr) (x0 : Option V), σ = [x0, some (.ref D)] ∧ H4 D2 = some (.lst (gs.map V.ref)) ∧ Own K H4 gs ((cs.take m).map fun c => zbI (zak ps rows c)) ∧ D2 ∉ gs ∧ But D2 H3 H4) ?_ ?_ ?_ ?_
  ·exact ⟨[], _, rfl, zac, .nil, (fun z => nomatch z), fun b o n e => by rw [zah n]; exact e⟩
  ·rintro m σ H4 _ ⟨gs, x0, rfl, _, _, _, k4⟩
   exact k4.sq (SqL.of h3) hD2
  ·rintro m r x σ H4 hx hm ⟨gs, x0, rfl, h4, hO, hg, k4⟩
   obtain ⟨hmi, rfl⟩ := ziA hx
   have hcm : cs[m]? = some (cs.getD m 0) := by
    rw [List.getD_eq_getElem?_getD, List.getElem?_eq_getElem hmi]
    rfl
   have htk2 : cs.take (m + 1) = cs.take m ++ [cs.getD m 0] := by
    rw [List.take_succ_eq_append_getElem hmi, List.getD_eq_getElem?_getD, List.getElem?_eq_getElem hmi]
    rfl
   rw [htk2]
   generalize cs.getD m 0 = ch at hcm ⊢
   obtain ⟨hchn, hchp⟩ := (hcmem ch).mp (List.mem_of_getElem? hcm)
   have hlt := (za0 S.T hchp).1
   have hin : ch ∈ bs.reverse.take i := zmi hdn hji (List.mem_reverse.mpr ((hmem ch).mpr ⟨hchn, zlZ S.T hjB hchp⟩)) hlt
   obtain ⟨u, hu, hue⟩ := List.getElem_of_mem hin
   have hu2 : (bs.reverse.take i)[u]? = some ch := by rw [List.getElem?_eq_getElem hu, hue]
   obtain ⟨qq, hq1, ws, hq2, hq3⟩ := F3.get hu2
   have hnd2 : (bs.reverse.take i).Nodup := hnd.sublist (List.take_sublist _ _)
   have hv := zhv hnd2 hu2 hq1
   have k4D := k4 _ _ nDD2 h3D
   have hq4 := k4 _ _ (zab hq2 hD2) hq2
   have hq5 : zaj K H4 (zak ps rows ch) ws := by
    have key : ∀ {es : List (Int × Int)} {vs : List V}, zaj K H3 es vs → zaj K H4 es vs := by
     intro es vs hh
     induction hh with
     | nil => exact .nil
     | cons a _ ih =>
      obtain ⟨b, x1, x2, rfl, q, e1, e2⟩ := (show hasP K H3 _ _ from a)
      exact .cons ⟨b, x1, x2, rfl, k4 _ _ (zab q hD2) q, e1, e2⟩ ih
    exact key hq3
   have hlen := ze0 S.T S.len (rows := rows) hchn
   refine zeX ?_
   have hdg : DGet H4 D (.int (ch : Int)) (some (.ref qq)) := by
    rw [← hv]
    exact DGet.k (k := kN ch) k4D
   refine ⟨_, rfl, _, rfl, D, _, rfl, hdg, ?_⟩
   refine ⟨qq, ws, zak ps rows ch, rfl, hq4, hq5, by omega, zd1 S.T S.R hfew hchn, zbb S.T S.R hchn, fun g H5 hg5 s5 h5 => ?_⟩
   have hgl := hO.length
   rw [List.length_map, List.length_take] at hgl
   have h5D2 := s5 _ _ h4
   have ngD2 : D2 ≠ g := zab h4 hg5
   rw [List.length_map] at hm
   refine ⟨_, h5D2, zau (by rw [List.length_map]; omega), r - 1, by omega, by rw [List.length_map]; omega, gs ++ [g], _, rfl, ?_, ?_, ?_, fun x o n e => by rw [zah n]; exact s5 _ _ (k4 x o n e)⟩
   ·rw [zac, List.map_append]
    rfl
   ·rw [List.map_append]
    refine Own.other h5D2 (Own.append (hO.ext s5.ext) (.cons ⟨_, h5, ?_⟩ .nil)) ?_
    ·exact zgb (hq5.mono s5.ext)
    ·intro z
     rcases List.mem_append.mp z with z | z
     ·exact hg z
     ·exact ngD2 (List.mem_singleton.mp z)
   ·intro z
    rcases List.mem_append.mp z with z | z
    ·exact hg z
    ·exact ngD2 (List.mem_singleton.mp z)
  ·rintro σ H4 ⟨gs, x0, rfl, h4, hO, hg, k4⟩
   rw [List.length_map, List.take_of_length_le (Nat.le_refl _)] at hO
   have hgl := hO.length
   rw [List.length_map] at hgl
   have s34 : Same H3 H4 := fun x o e => k4 x o (zab e hD2) e
   have s24 : Same H2 H4 := s3.trans s34
   have S4 := S2.same s24
   refine ⟨_, rfl, .inl ⟨rfl, _, SqL.of h4⟩, _, rfl, _, rfl, st, ps, rows, t, rs, as, j, rfl, S4, hjn, fun D3 us H5 hD3 s45 h5 hw5 => ?_⟩
   have h5D2 := s45 _ _ h4
   have n23 : D2 ≠ D3 := zab h4 hD3
   refine ⟨_, _, _, rfl, rfl, h5D2, zau (by rw [List.length_map]; omega), ?_⟩
   have O5 : Own K H5 (gs ++ [D3]) (zdB ps rows j) := by
    rw [hparts]
    exact Own.append (hO.ext s45.ext) (.cons ⟨us, h5, hw5⟩ .nil)
   have nin : D2 ∉ gs ++ [D3] := fun z => by
    rcases List.mem_append.mp z with z | z
    ·exact hg z
    ·exact n23 (List.mem_singleton.mp z)
   have O6 := O5.other (o := .lst (gs.map V.ref ++ [.ref D3])) h5D2 nin
   have h6 : upd H5 D2 (.lst (gs.map V.ref ++ [.ref D3])) D2 = some (.lst ((gs ++ [D3]).map V.ref)) := by
    rw [zac, List.map_append]
    rfl
   have k26 : ∀ x o, H2 x = some o → upd H5 D2 (.lst (gs.map V.ref ++ [.ref D3])) x = some o := fun x o e => by
    rw [zah (zab (s3 _ _ e) hD2)]
    exact s45 _ _ (s24 _ _ e)
   generalize upd H5 D2 (.lst (gs.map V.ref ++ [.ref D3])) = H6 at O6 h6 k26 ⊢
   have hfl : (zdB ps rows j).flatten.length ≤ 1000 := by
    have := ze0 S.T S.len (rows := rows) hjn
    rw [zcw S.T hjn, zc9] at this
    omega
   refine ⟨_, rfl, D2, gs ++ [D3], zdB ps rows j, rfl, h6, O6, hfl, fun p ws H7 hp s7 h7 hw7 => ?_⟩
   rw [← zcw S.T hjn] at hw7
   have s27 : Same H2 H7 := fun x o e => s7 _ _ (k26 x o e)
   have h7D := s27 _ _ h2
   have hql := hF.length
   have hpD : p ≠ D := Ne.symm (zab (k26 _ _ h2) hp)
   refine ⟨_, rfl, _, rfl, D, _, rfl, DPut.k (k := kN j) h7D (zau (by rw [zkx hql, List.length_take, List.length_reverse]; omega)), ?_⟩
   rw [znt hql hjnot]
   have e78 : Ext H7 (upd H7 D (.dK (zde (bs.reverse.take i ++ [j]) (qs ++ [p])))) := fun x o e n => by
    rw [zah (fun z => by
     rw [z, h7D] at e
     cases e
     exact n _ rfl)]
    exact e
   have F8 : zas K (upd H7 D (.dK (zde (bs.reverse.take i ++ [j]) (qs ++ [p])))) ps rows (bs.reverse.take i ++ [j]) (qs ++ [p]) := by
    exact zas.ext e78 (zas.snoc (hF.same s27) ⟨ws, h7, hw7⟩)
   refine ⟨qs ++ [p], _, _, rfl, zac, ?_, ?_, F8, ?_, fun x o n e => ?_⟩
   ·rw [List.nodup_append]
    refine ⟨hqn, List.nodup_cons.mpr ⟨(fun z => nomatch z), List.nodup_nil⟩, fun a ha b hb z => ?_⟩
    rw [List.mem_singleton.mp hb] at z
    subst z
    obtain ⟨ws', hws⟩ := hF.alloc a ha
    have := k26 _ _ hws
    rw [hp] at this
    cases this
   ·intro x hx
    rcases List.mem_append.mp hx with z | z
    ·exact hqf x z
    ·rw [List.mem_singleton.mp z]
     cases e : H p with
     | none => rfl
     | some o =>
      have := k26 _ _ (k2 p o hpD e)
      rw [hp] at this
      cases this
   ·rw [zah (fun z => by rw [z, h2] at h2b; cases h2b)]
    exact s27 _ _ h2b
   ·rw [zah n]
    exact s27 _ _ (k2 x o n e)
 ·rintro σ H2 ⟨qs, x5, x6, rfl, h2, hqn, hqf, hF, h2b, k2⟩
  refine ⟨_, rfl, ?_⟩
  rw [List.length_map, List.take_of_length_le (by rw [List.length_reverse]; exact Nat.le_refl _)] at h2 hF
  exact q D qs H2 hD (fun x o e => k2 x o (zab e hD) e) h2 hqn hqf hF
def zhd (K : PySem.W.Frag) : Sp := fun vs H Q _ => ∃ (st : Addr) (ps : List Nat) (rows : List (List Int)) (t rs : Addr) (as : List Addr), vs = [.ref st] ∧ zcA H st ps rows t rs as ∧
 ∀ (p : Addr) (qs : List Addr) (H' : Hp), H p = none → Same H H' → H' p = some (.lst (qs.map V.ref)) → qs.Nodup → (∀ q ∈ qs, H q = none) → p ∉ qs → zas K H' ps rows (List.range (ps.length + 1)) qs → Q (.ref p) H'
theorem zfW {n i : Nat} (h : i < n) : (List.range n).reverse[n - 1 - i]? = some i := by
 rw [List.getElem?_reverse (by rw [List.length_range]; omega), List.length_range, List.getElem?_range (by omega)]
 congr 1
 omega
theorem zlM (T : Txt K mg) (D_full_rows : DF K mg "full_rows" za4 zbe) (F_full_rows_beneath : FC P w K mg base 7 "full_rows_beneath" zaE (zob K)) : FC P w K mg base 8 "full_rows" zbe (zhd K) := by
 refine D_full_rows.ok sc_full_rows (fun vs H Q E h => ?_) (fun f cdv A outer s H vs Q E hr h => ?_)
 ·obtain ⟨st, ps, rows, t, rs, as, rfl, _⟩ := h
  rfl
 obtain ⟨st, ps, rows, t, rs, as, rfl, S, q⟩ := h
 refine ⟨_, (zag (zat (i := 1) sc_full_rows.nd rfl (Or.inr rfl) (zaM F_full_rows_beneath hr (zaa (pv 0) (zaa zaf zae))))
   (zai (zaC (zdJ (N := ["knot", "told"]) (own := 1) (cap := [1]) rfl (zcI rfl T.m_range (zaa (zaD zaz rfl T.m_len boot_len (zaa (zaZ zcm (pv 0) zaf (fun _ _ => rfl)) zae)) zae)) ⟨rfl, rfl, rfl, rfl, rfl, rfl⟩ (fun _ _ _ _ _ => (zaq (i := 0) (show List.Nodup (["knot", "told"] : List Str) by decide +kernel) rfl (Or.inl rfl))) (fun _ _ _ _ _ => zdI) (fun _ _ _ _ _ => (zdc (zdK hr) (pv 1) (pv 0) (fun _ _ => rfl))))))), ?_⟩
 refine ⟨_, rfl, st, ps, rows, t, rs, as, 0, rfl, S, by omega, fun D qs H1 hD s1 h1 hqn hqf hF => ?_⟩
 rw [zle S.T] at h1 hF
 have S1 := S.same s1
 have hfew := S.few
 have hql := hF.length
 rw [List.length_reverse, List.length_range] at hql
 refine ⟨_, rfl, _, _, _, _, rfl, rfl, SqT.of S1.st, rfl, _, _, rfl, .inr (SqT.of S1.tr), _, rfl, by omega, by rw [zaG]; omega, fun p hp => ?_⟩
 have el : ((((zdv ps).length : Nat) : Int)).toNat = ps.length + 1 := by rw [zaG, Int.toNat_natCast]
 rw [el]
 refine zfE (n := ps.length + 1) (fun i σ H2 => ∃ x0 : Option V, σ = [x0, some (.ref D)] ∧ H2 p = some (.lst ((qs.reverse.take i).map V.ref)) ∧ But p H1 H2) ?_ ?_ ?_
 ·exact ⟨_, rfl, zac, fun b o n e => by rw [zah n]; exact e⟩
 ·rintro i m σ H2 hm hi ⟨x0, rfl, h2, k2⟩
  rw [Int.zero_add]
  have hi2 : i < qs.reverse.length := by rw [List.length_reverse]; omega
  have hq1 : qs[ps.length + 1 - 1 - i]? = some qs.reverse[i] := by
   have := List.getElem?_reverse (l := qs) (i := i) (by omega)
   rw [List.getElem?_eq_getElem hi2] at this
   rw [this]
   congr 1
   omega
  have hv := zhv (zgE List.nodup_range) (zfW hi) hq1
  have h2D := k2 _ _ (zab h1 hp) h1
  have hdg : DGet H2 D (.int (i : Int)) (some (.ref qs.reverse[i])) := by
   rw [← hv]
   exact DGet.k (k := kN i) h2D
  refine zeX ?_
  refine ⟨_, rfl, _, rfl, D, _, rfl, hdg, ?_⟩
  refine ⟨_, h2, zau (by rw [List.length_map, List.length_take]; omega), m - 1, by omega, by omega, _, rfl, ?_, fun b o n e => by rw [zah n]; exact k2 b o n e⟩
  rw [zac, List.take_succ_eq_append_getElem hi2, List.map_append]
  rfl
 ·rintro σ H2 ⟨x0, rfl, h2, k2⟩
  rw [List.take_of_length_le (by rw [List.length_reverse]; omega)] at h2
  have s2 : Same H1 H2 := fun b o e => k2 b o (zab e hp) e
  have F2 := (hF.same s2).rev
  rw [List.reverse_reverse] at F2
  refine q p qs.reverse H2 ?_ (s1.trans s2) h2 (zgE hqn) (fun x hx => hqf x (List.mem_reverse.mp hx)) (fun z => ?_) F2
  ·cases e : H p with
   | none => rfl
   | some o =>
    have := s1 _ _ e
    rw [hp] at this
    cases this
  ·obtain ⟨ws, hws⟩ := hF.alloc p (List.mem_reverse.mp z)
   rw [hp] at hws
   cases hws
def zfJ (x : Key) : Prop := ∃ a : Int, x = .inl a ∧ -(10 ^ 60) < a ∧ a < 10 ^ 60
def toI : Key → Int
 | .inl a => a
 | _ => 0
theorem zm9 {kvs : List (Key × V)} {x : Key} {v : V} (h1 : (kvs.map (·.1)).Nodup) (h2 : ∀ y ∈ kvs.map (·.1), zfJ y) (hx : zfJ x) : ((putK kvs x v).map (·.1)).Nodup ∧ ∀ y ∈ (putK kvs x v).map (·.1), zfJ y := by
 rw [zj5]
 split
 ·exact ⟨h1, h2⟩
 ·rename_i c
  refine ⟨?_, fun y hy => ?_⟩
  ·rw [List.nodup_append]
   refine ⟨h1, List.nodup_cons.mpr ⟨(fun z => nomatch z), List.nodup_nil⟩, fun a ha b hb z => ?_⟩
   rw [List.mem_singleton.mp hb] at z
   subst z
   obtain ⟨p, hp, e⟩ := List.mem_map.mp ha
   exact c (List.any_eq_true.mpr ⟨p, hp, decide_eq_true e⟩)
  ·rcases List.mem_append.mp hy with z | z
   ·exact h2 y z
   ·rw [List.mem_singleton.mp z]
    exact hx
theorem zev : ∀ {l : List Key}, (∀ y ∈ l, zfJ y) → l.map kV = (l.map toI).map V.int
 | [], _ => rfl
 | x :: l, h => by
  obtain ⟨a, rfl, _⟩ := h x List.mem_cons_self
  show V.int a :: l.map kV = V.int a :: (l.map toI).map V.int
  rw [zev fun y hy => h y (List.mem_cons_of_mem _ hy)]
theorem zgp : ∀ {l : List Key}, l.Nodup → (∀ y ∈ l, zfJ y) → (l.map toI).Nodup
 | [], _, _ => List.nodup_nil
 | x :: l, hn, h => by
  rw [List.map_cons, List.nodup_cons]
  have hc := List.nodup_cons.mp hn
  refine ⟨fun z => ?_, zgp hc.2 fun y hy => h y (List.mem_cons_of_mem _ hy)⟩
  obtain ⟨y, hy, e⟩ := List.mem_map.mp z
  obtain ⟨a, rfl, _⟩ := h x List.mem_cons_self
  obtain ⟨b, rfl, _⟩ := h y (List.mem_cons_of_mem _ hy)
  have : b = a := e
  subst this
  exact hc.1 hy
def zn6 (K : PySem.W.Frag) : Sp := fun vs H Q _ => ∃ (d L : Addr) (m : Int), vs = [.ref d, .int m] ∧ (0 ≤ m ∧ m ≤ 40) ∧ LS K L d H ∧
 ∀ (a : Addr) (row : List Int) (H' : Hp), H a = none → row.Pairwise (· < ·) → (∀ x ∈ row, -(10 ^ 60) < x ∧ x < 10 ^ 60) → (row.length : Int) ≤ m → H' a = some (.tup (row.map V.int)) → Keep d H H' → LS K L d H' → Q (.ref a) H'
theorem zni (T : Txt K mg) (D_l_row : DF K mg "_law_row" zcU zdk) (F_l_take : FC P w K mg base 2 "_law_take" zbG (zgr K)) (F_l_key : FC P w K mg base 3 "_law_key" zdl (zn9 K)) : FC P w K mg base 4 "_law_row" zdk (zn6 K) := by
 refine D_l_row.ok sc_l_row (fun vs H Q E h => ?_) (fun f cdv A outer s H vs Q E hr h => ?_)
 ·obtain ⟨d, L, m, rfl, _⟩ := h
  rfl
 obtain ⟨d, L, m, rfl, ⟨hm0, hm1⟩, hs, q⟩ := h
 refine ⟨_, (zag (zat (i := 2) sc_l_row.nd rfl (Or.inl rfl) zif)
   (zag (zbu PassesOwn.never rfl (zcI rfl T.m_range (zaa (zaM F_l_take hr (zaa (pv 0) (zaa (zav zbv (pv 1) zaf) zae))) zae)) (zaq (i := 3) sc_l_row.nd rfl (Or.inl rfl)) (zai (zeb (zdK hr) (pv 2) (zaM F_l_key hr (zaa (pv 0) zae)) zhg rfl)))
   (zai (zaC (zci zc2 rfl T.m_tuple boot_tuple (zaa (zaD (zfG Int) rfl T.m_sorted boot_sorted (zaa (zci (zju rfl) rfl T.m_list boot_list (zaa (pv 2) zae)) zae)) zae)))))), ?_⟩
 intro g hg
 have ngd : g ≠ d := fun z => by
  obtain ⟨_, _, _, e, _⟩ := hs.ex
  rw [← z, hg] at e
  cases e
 refine ⟨_, rfl, _, rfl, _, _, rfl, rfl, d, L, m + 1, rfl, ⟨by omega, by omega⟩, hs.of_new hg _, fun n H1 n0 n1 k1 s1 => ⟨_, rfl, by omega, by omega, ?_⟩⟩
 refine zbS (n := n.toNat) (fun i σ H2 => ∃ (kvs : List (Key × V)) (x3 : Option V), σ = [some (.ref d), some (.int m), some (.ref g), x3] ∧ H2 g = some (.dK kvs) ∧ kvs.length ≤ i ∧ (kvs.map (·.1)).Nodup ∧ (∀ y ∈ kvs.map (·.1), zfJ y) ∧ (∀ b o, b ≠ d → b ≠ g → H b = some o → H2 b = some o) ∧ LS K L d H2) ?_ ?_ ?_
 ·exact ⟨[], _, rfl, k1 g _ ngd zac, Nat.le_refl _, List.nodup_nil, fun y hy => (by simp at hy), fun b o b1 b2 e => k1 b o b1 (by rw [zah b2]; exact e), s1⟩
 ·rintro i σ H2 hi ⟨kvs, x3, rfl, h2, hl, hn, hy, kk, s2⟩
  refine ⟨_, rfl, _, rfl, d, L, rfl, s2, fun v H3 v0 v1 k3 s3 => ?_⟩
  have h3 : H3 g = some (.dK kvs) := k3 g _ ngd h2
  obtain ⟨p1, p2⟩ := zm9 (v := .bl true) hn hy (x := .inl v) ⟨v, rfl, v0, v1⟩
  refine ⟨g, _, rfl, DPut.k (k := .inl v) (kvs := kvs) h3 (zau (by omega)), ?_⟩
  refine ⟨putK kvs (.inl v) (.bl true), _, rfl, zac, ?_, p1, p2, ?_, ?_⟩
  ·have := zcZ kvs (Sum.inl v : Key) (.bl true)
   omega
  ·intro b o b1 b2 e
   rw [zah b2]
   exact k3 b o b1 (kk b o b1 b2 e)
  ·exact LS.put hs hg (fun b o b1 b2 e => k3 b o b1 (kk b o b1 b2 e)) s3
 ·rintro σ H2 ⟨kvs, x3, rfl, h2, hl, hn, hy, kk, s2⟩
  refine ⟨_, rfl, g, kvs, rfl, h2, fun l hl1 => ?_⟩
  have ei : kvs.map (fun kv => kV kv.1) = ((kvs.map (·.1)).map toI).map V.int := by
   rw [← zev hy, List.map_map]
   rfl
  rw [ei]
  have e1 := zal hl1 (.lst (((kvs.map (·.1)).map toI).map V.int))
  refine ⟨l, _, _, rfl, SqL.of zac, zaj.ints, fun l2 ws hl2 hw => ?_⟩
  rw [hw.toInts]
  have e2 := zal hl2 (.lst ((zcp ((kvs.map (·.1)).map toI)).map V.int))
  refine ⟨l2, _, rfl, .inl ⟨SqL.of zac, fun a ha => ?_⟩⟩
  have e3 := zal ha (.tup ((zcp ((kvs.map (·.1)).map toI)).map V.int))
  have e13 := e1.trans (e2.trans e3)
  have free : H a = none := by
   have z2 : H2 a = none := e1.free (e2.free ha)
   cases z : H a with
   | none => rfl
   | some o =>
    by_cases c1 : a = d
    ·obtain ⟨_, _, _, e, _⟩ := s2.ex
     rw [← c1, z2] at e
     cases e
    ·by_cases c2 : a = g
     ·rw [c2, h2] at z2
      cases z2
     ·rw [kk a o c1 c2 z] at z2
      cases z2
  refine q a _ _ free ?_ (fun x hx => ?_) ?_ zac (fun b o b1 e => e13 _ _ (kk b o b1 (zab e hg) e)) (s2.same e13)
  ·exact List.Pairwise.imp (fun {a b} (h : Srt.blt a b = true) => of_decide_eq_true h) (zfp (zgp hn hy))
  ·rw [zeG] at hx
   obtain ⟨y, hy2, rfl⟩ := List.mem_map.mp hx
   obtain ⟨a, rfl, h1, h2⟩ := hy y hy2
   exact ⟨h1, h2⟩
  ·rw [zc9, List.length_map, List.length_map]
   omega
def zmq (K : PySem.W.Frag) : Sp := fun vs H Q _ => ∃ (d L : Addr) (n m : Nat), vs = [.ref d, .int n, .int m] ∧ n ≤ 40 ∧ m ≤ 40 ∧ LS K L d H ∧
 ∀ (r : Addr) (as : List Addr) (rows : List (List Int)) (H' : Hp), H r = none → za7 H' as rows → rows.length = n → zbp rows → (∀ row ∈ rows, row.length ≤ m) → H' r = some (.tup (as.map V.ref)) → Keep d H H' → LS K L d H' → Q (.ref r) H'
theorem zbp.snoc {rows : List (List Int)} {row : List Int} (R : zbp rows) (h1 : row.Pairwise (· < ·)) (h2 : ∀ x ∈ row, -(10 ^ 60) < x ∧ x < 10 ^ 60) : zbp (rows ++ [row]) := by
 refine ⟨fun r hr => ?_, fun r hr => ?_⟩
 ·rcases List.mem_append.mp hr with z | z
  ·exact R.up r z
  ·rw [List.mem_singleton.mp z]
   exact h1
 ·rcases List.mem_append.mp hr with z | z
  ·exact R.key r z
  ·rw [List.mem_singleton.mp z]
   exact h2
theorem zlL (T : Txt K mg) (D_l_rows : DF K mg "_law_rows" zb0 zcG) (F_l_take : FC P w K mg base 2 "_law_take" zbG (zgr K)) (F_l_row : FC P w K mg base 4 "_law_row" zdk (zn6 K)) : FC P w K mg base 5 "_law_rows" zcG (zmq K) := by
 refine D_l_rows.ok sc_l_rows (fun vs H Q E h => ?_) (fun f cdv A outer s H vs Q E hr h => ?_)
 ·obtain ⟨d, L, n, m, rfl, _⟩ := h
  rfl
 obtain ⟨d, L, n, m, rfl, hn, hm, hs, q⟩ := h
 refine ⟨_, (zag (zat (i := 3) sc_l_rows.nd rfl (Or.inl rfl) (zcJ zae))
   (zag (zbu PassesOwn.never rfl (zcI rfl T.m_range (zaa (pv 1) zae)) (zaq (i := 4) sc_l_rows.nd rfl (Or.inl rfl)) (zag (zat (i := 5) sc_l_rows.nd rfl (Or.inl rfl) (zaM F_l_row hr (zaa (pv 0) (zaa (pv 2) zae))))
   (zbN (zdw (zaJ zff (zaM F_l_take hr (zaa (pv 0) (zaa zaf zae))) zaf (zbc _)) (zai (zat (i := 5) sc_l_rows.nd rfl (Or.inl rfl) (zdU zae))) zbF)
   (zbN (zdw (PW.pt (zmB (zaJ zot (pv 4) zaf (zbc _)) (zj4 (zaJ zff (zaM F_l_take hr (zaa (pv 0) (zaa zaf zae))) zaf (zbc _))))) (zai (zat (i := 5) sc_l_rows.nd rfl (Or.inl rfl) (zaZ zaK (pv 3) (zav zcu (pv 4) zaf) (fun _ _ => rfl)))) zbF)
   (zai (zcy (zfe F.plainAttrs_list F.slot_list_append F.type_list_append zbl (pv 3) (zaa (pv 5) zae))))))))
   (zai (zaC (zci zc2 rfl T.m_tuple boot_tuple (zaa (pv 3) zae)))))), ?_⟩
 refine ⟨(by show 0 ≤ sizeLine; decide), fun p hp => ?_⟩
 have g0 := zal hp (.lst [])
 have ndT : ∀ {H' : Hp} {a : Addr} {o : List V}, LS K L d H' → H' a = some (.tup o) → a ≠ d := fun {H' a o} s e z => by
  obtain ⟨_, _, _, e2, _⟩ := s.ex
  rw [← z, e] at e2
  cases e2
 have nd : ∀ {H' : Hp} {a : Addr}, LS K L d H' → H' a = none → a ≠ d := fun {H' a} s e z => by
  obtain ⟨_, _, _, e2, _⟩ := s.ex
  rw [← z, e] at e2
  cases e2
 have hpd : p ≠ d := nd hs hp
 refine ⟨_, rfl, _, rfl, by omega, by omega, ?_⟩
 rw [Int.toNat_natCast]
 refine zbS (n := n) (fun i σ H2 => ∃ (as : List Addr) (rows : List (List Int)) (x4 x5 : Option V), σ = [some (.ref d), some (.int n), some (.int m), some (.ref p), x4, x5] ∧ H2 p = some (.lst (as.map V.ref)) ∧ za7 H2 as rows ∧ rows.length = i ∧ zbp rows ∧ (∀ row ∈ rows, row.length ≤ m) ∧ (∀ b o, b ≠ d → b ≠ p → H b = some o → H2 b = some o) ∧ LS K L d H2) ?_ ?_ ?_
 ·exact ⟨[], [], _, _, rfl, zac, .nil, rfl, ⟨(fun r hr => nomatch hr), (fun r hr => nomatch hr)⟩, (fun r hr => nomatch hr), fun b o _ n e => g0 b o e, hs.same g0⟩
 ·rintro i σ H2 hi ⟨as, rows, x4, x5, rfl, h2, hA, hl, hR, hlen, k2, s2⟩
  rw [Int.zero_add]
  have hal := hA.length
  have old : ∀ {H3 : Hp} {b : Addr} {o : HO}, (∀ b o, b ≠ d → H2 b = some o → H3 b = some o) → b ≠ d → b ≠ p → H b = some o → H3 b = some o := fun k n1 n2 e => k _ _ n1 (k2 _ _ n1 n2 e)
  refine ⟨_, rfl, _, rfl, d, L, m, rfl, ⟨by omega, by omega⟩, s2, fun a row H3 ha hup hky hlr h3 k3 s3 => ?_⟩
  refine ⟨fun σ' H' => ∃ (a : Addr) (row : List Int), σ' = [some (.ref d), some (.int n), some (.int m), some (.ref p), some (.int i), some (.ref a)] ∧ H' a = some (.tup (row.map V.int)) ∧ row.Pairwise (· < ·) ∧ (∀ x ∈ row, -(10 ^ 60) < x ∧ x < 10 ^ 60) ∧ row.length ≤ m ∧ (∀ b o, b ≠ d → H2 b = some o → H' b = some o) ∧ LS K L d H', ?_, ?_⟩
  ·refine ⟨_, rfl, d, L, 4, rfl, by decide, s3, fun v H4 _ _ k4 s4 => ⟨rfl, _, rfl, ?_⟩⟩
   have h4 := k4 _ _ (ndT s3 h3) h3
   refine ite2 (fun _ => ?_) (fun _ => ?_)
   ·refine ⟨(by show 0 ≤ sizeLine; decide), fun u hu => ?_⟩
    have su := zal hu (.tup [])
    exact ⟨u, [], rfl, zac, .nil, (fun x hx => nomatch hx), Nat.zero_le _, fun b o n1 e => su _ _ (k4 _ _ n1 (k3 _ _ n1 e)), s4.same su⟩
   ·exact ⟨a, row, rfl, h4, hup, hky, by omega, fun b o n1 e => k4 _ _ n1 (k3 _ _ n1 e), s4⟩
  rintro σ' H4 ⟨a, row, rfl, h4, hup, hky, hlr, k4, s4⟩
  refine ⟨fun σ' H' => ∃ (a : Addr) (row : List Int), σ' = [some (.ref d), some (.int n), some (.int m), some (.ref p), some (.int i), some (.ref a)] ∧ H' a = some (.tup (row.map V.int)) ∧ row.Pairwise (· < ·) ∧ (∀ x ∈ row, -(10 ^ 60) < x ∧ x < 10 ^ 60) ∧ row.length ≤ m ∧ (∀ b o, b ≠ d → H2 b = some o → H' b = some o) ∧ LS K L d H', ?_, ?_⟩
  ·refine ⟨_, rfl, _, _, rfl, rfl, _, rfl, ?_⟩
   refine ite2 (fun c => ?_) (fun c => ?_)
   ·have c' : (0 : Int) < (i : Int) := of_decide_eq_true c
    refine ⟨_, rfl, d, L, 4, rfl, by decide, s4, fun v H5 _ _ k5 s5 => ⟨rfl, _, rfl, ?_⟩⟩
    have h5 := k5 _ _ (ndT s4 h4) h4
    refine ite2 (fun _ => ?_) (fun _ => ?_)
    ·have h5p : H5 p = some (.lst (as.map V.ref)) := k5 _ _ hpd (k4 _ _ hpd h2)
     obtain ⟨b, hb1, hb2⟩ := hA.get (k := i - 1) (by omega)
     have hb5 := k5 _ _ (ndT s4 (k4 _ _ (ndT s2 hb2) hb2)) (k4 _ _ (ndT s2 hb2) hb2)
     have hat : atI (as.map V.ref) ((i : Int) - 1) = some (.ref b) := by
      rw [show (i : Int) - 1 = ((i - 1 : Nat) : Int) by omega]
      exact zli hb1
     refine ⟨_, rfl, _, rfl, _, _, rfl, rfl, _, _, _, _, rfl, rfl, SqL.of h5p, hat, ?_⟩
     have hmem : zb3 rows (i - 1) ∈ rows := by
      unfold zb3
      rw [List.getD_eq_getElem?_getD, List.getElem?_eq_getElem (show i - 1 < rows.length by omega)]
      exact List.getElem_mem _
     exact ⟨b, zb3 rows (i - 1), rfl, hb5, hR.up _ hmem, hR.key _ hmem, hlen _ hmem, fun b o n1 e => k5 _ _ n1 (k4 _ _ n1 e), s5⟩
    ·exact ⟨a, row, rfl, h5, hup, hky, hlr, fun b o n1 e => k5 _ _ n1 (k4 _ _ n1 e), s5⟩
   ·refine iteF ?_
    exact ⟨a, row, rfl, h4, hup, hky, hlr, k4, s4⟩
  rintro σ' H5 ⟨a, row, rfl, h5, hup, hky, hlr, k5, s5⟩
  have h5p : H5 p = some (.lst (as.map V.ref)) := k5 _ _ hpd h2
  have keep : ∀ b o, b ≠ p → H5 b = some o → upd H5 p (.lst (as.map V.ref ++ [.ref a])) b = some o := fun b o n e => by rw [zah n]; exact e
  have ntp : ∀ {b : Addr} {o : List V}, H5 b = some (.tup o) → b ≠ p := fun {b o} e z => by
   rw [z, h5p] at e
   cases e
  refine ⟨_, rfl, .inl ⟨rfl, _, SqL.of h5p⟩, _, rfl, _, _, _, rfl, rfl, h5p, zau (by rw [List.length_map]; omega), ?_⟩
  refine ⟨as ++ [a], rows ++ [row], _, _, rfl, ?_, ?_, by rw [List.length_append, List.length_singleton, hl], hR.snoc hup hky, fun r hr => ?_, fun b o n1 n2 e => keep _ _ n2 (k5 _ _ n1 (k2 _ _ n1 n2 e)), ?_⟩
  ·rw [zac, List.map_append]
   rfl
  ·refine za7.snoc ?_ (keep _ _ (ntp h5) h5)
   have hA5 : za7 H5 as rows := za7.keep (p := d) (fun a row e => ndT s2 e) k5 hA
   exact za7.keep (p := p) (d := p) (fun a row e => ntp e) keep hA5
  ·rcases List.mem_append.mp hr with z | z
   ·exact hlen r z
   ·rw [List.mem_singleton.mp z]
    exact hlr
  ·exact LS.put hs hp (fun b o n1 n2 e => k5 _ _ n1 (k2 _ _ n1 n2 e)) s5
 ·rintro σ H2 ⟨as, rows, x4, x5, rfl, h2, hA, hl, hR, hlen, k2, s2⟩
  refine ⟨_, rfl, p, _, rfl, .inl ⟨SqL.of h2, fun t ht => ?_⟩⟩
  have sn := zal ht (.tup (as.map V.ref))
  have ht0 : H t = none := by
   cases e : H t with
   | none => rfl
   | some o =>
    have := k2 t o (nd s2 ht) (Ne.symm (zab h2 ht)) e
    rw [ht] at this
    cases this
  exact q t as rows _ ht0 (hA.ext sn) hl hR hlen zac (fun b o n e => sn _ _ (k2 b o n (zab e hp) e)) (s2.same sn)
abbrev En := Int × Int
def zee (k : Nat) (es : List En) : Nat := (es.filter fun e => decide (e.2 = (k : Int))).length
def zoo (k : Nat) (es : List En) : List Nat := (List.range (es.length + 1)).map fun p => zee k (es.take p)
def zn5 (cs : List En) (s : Nat) (e : En) : Nat := if e ∈ cs then cs.idxOf e + 1 else s
def stN (cs es : List En) : Nat := es.foldl (zn5 cs) 0
def zfO (es cs : List En) : List Nat := (List.range (es.length + 1)).map fun p => stN cs (es.take p)
def inN (cs es : List En) : Nat := (es.filter fun e => decide (e ∈ cs)).length
theorem zfq {l : List En} (h : Rise l) : l.Nodup := List.Pairwise.imp (fun {a b} (q : pLt a b = true) z => by
 subst z
 have := zcX.mp q
 omega) h
theorem zm5 {l m : List En} (h1 : Rise l) (h2 : Rise m) (h : ∀ e, e ∈ l ↔ e ∈ m) : l = m := by
 refine List.Perm.eq_of_pairwise (le := fun a b => pLt a b = true) (fun a b _ _ q1 q2 => ?_) h1 h2 ((List.perm_ext_iff_of_nodup (zfq h1) (zfq h2)).mpr h)
 have := zcX.mp q1
 have := zcX.mp q2
 omega
theorem ziC {ps : List Nat} (T : zaF ps) {rows : List (List Int)} {k : Nat} (hk : k < ps.length + 1) {e : En} : e ∈ zak ps rows k ↔ e ∈ ownE rows k ∨ ∃ c, par ps c = some k ∧ e ∈ zbI (zak ps rows c) := by
 rw [zcw T hk, zeG, List.mem_flatten]
 unfold zdB
 constructor
 ·rintro ⟨l, hl, he⟩
  rcases List.mem_append.mp hl with q | q
  ·obtain ⟨c, hc, rfl⟩ := List.mem_map.mp q
   exact .inr ⟨c, (zaw.mp hc).2, he⟩
  ·rw [List.mem_singleton.mp q] at he
   exact .inl he
 ·rintro (h | ⟨c, hc, h⟩)
  ·exact ⟨_, List.mem_append.mpr (.inr (List.mem_singleton.mpr rfl)), h⟩
  ·exact ⟨_, List.mem_append.mpr (.inl (List.mem_map.mpr ⟨c, zaw.mpr ⟨(za0 T hc).2, hc⟩, rfl⟩)), h⟩
theorem zmd {ps : List Nat} (T : zaF ps) {rows : List (List Int)} (R : zbp rows) {k c : Nat} (hk : k < ps.length + 1) (hc : par ps c = some k) {e : En} : (e ∈ zak ps rows k ∧ e ∈ zak ps rows c) ↔ e ∈ zbI (zak ps rows c) := by
 have hcn := (za0 T hc).2
 constructor
 ·rintro ⟨h1, h2⟩
  obtain ⟨j, g1, g2, g3, _⟩ := zgd T R hcn e h2
  rcases (ziC T hk).mp h1 with h | ⟨d, hd, h⟩
  ·have h4 := (zkb hk h).2
   have : j = k := by omega
   subst this
   rw [zeY T (za0 T hc).1] at g2
   cases g2
  ·by_cases z : d = c
   ·rw [z] at h
    exact h
   ·obtain ⟨i, _, f2, f3, _⟩ := zgd T R (za0 T hd).2 e ((zbn _).mem h)
    have : i = j := by omega
    subst this
    exact (zd0 T hd hc z i i (Nat.le_refl _) f2 g2).elim
 ·intro h
  exact ⟨(ziC T hk).mpr (.inr ⟨c, hc, h⟩), (zbn _).mem h⟩
theorem zk5 {ps : List Nat} (T : zaF ps) {rows : List (List Int)} (R : zbp rows) {k c : Nat} (hk : k < ps.length + 1) (hc : par ps c = some k) : ((zak ps rows k).filter fun e => decide (e ∈ zak ps rows c)) = zbI (zak ps rows c) := by
 refine zm5 (List.Pairwise.filter _ (zbb T R hk)) ((zbb T R (za0 T hc).2).sublist (zbn _)) fun e => ?_
 rw [List.mem_filter, decide_eq_true_eq]
 exact zmd T R hk hc
theorem ziV {l : List En} {p : Nat} (h : p < l.length) : l.take (p + 1) = l.take p ++ [l[p]] := List.take_succ_eq_append_getElem h
theorem zi3 (k : Nat) (es : List En) (e : En) : zee k (es ++ [e]) = zee k es + if e.2 = (k : Int) then 1 else 0 := by
 unfold zee
 rw [List.filter_append, List.length_append]
 congr 1
 by_cases h : e.2 = (k : Int)
 ·rw [if_pos h, List.filter_cons_of_pos (by exact decide_eq_true h)]
  rfl
 ·rw [if_neg h, List.filter_cons_of_neg (by rw [decide_eq_false h]; decide)]
  rfl
theorem zl2 (cs es : List En) (e : En) : inN cs (es ++ [e]) = inN cs es + if e ∈ cs then 1 else 0 := by
 unfold inN
 rw [List.filter_append, List.length_append]
 congr 1
 by_cases h : e ∈ cs
 ·rw [if_pos h, List.filter_cons_of_pos (by exact decide_eq_true h)]
  rfl
 ·rw [if_neg h, List.filter_cons_of_neg (by rw [decide_eq_false h]; decide)]
  rfl
theorem zh1 (cs es : List En) (e : En) : stN cs (es ++ [e]) = if e ∈ cs then cs.idxOf e + 1 else stN cs es := by
 unfold stN
 rw [List.foldl_append]
 rfl
def spL (es : List En) : List Nat := (List.range es.length).filter fun j => (zbU es).getD j false
theorem zh5 (es : List En) : zdh (zbU es) (spL es) := by
 have := zlz (zbU es)
 rw [zbj] at this
 exact this
theorem zfy {es : List En} {ms : List Bool} (hl : es.length = ms.length) : ∀ i, i ≤ ms.length → zcN (es.take i) (ms.take i) = ((List.range i).filter fun j => ms.getD j false).map fun j => es.getD j (0, 0)
 | 0, _ => rfl
 | i + 1, h => by
  have ft : ((List.range (i + 1)).filter fun j => ms.getD j false) = ((List.range i).filter fun j => ms.getD j false) ++ (if ms.getD i false = true then [i] else []) := by
   rw [List.range_succ, List.filter_append]
   congr 1
   by_cases h : ms.getD i false = true
   ·rw [if_pos h, List.filter_cons_of_pos (p := fun j => ms.getD j false) (a := i) h]
    rfl
   ·rw [if_neg h, List.filter_cons_of_neg (p := fun j => ms.getD j false) (a := i) h]
    rfl
  rw [zdN (show i < es.length by omega), zdN (show i < ms.length by omega), zgP (by rw [List.length_take, List.length_take]; omega), zfy hl i (by omega), ft, List.map_append]
  congr 1
  have e : ms.getD i false = ms[i]'(by omega) := by
   rw [List.getD_eq_getElem?_getD, List.getElem?_eq_getElem (show i < ms.length by omega)]
   rfl
  rw [e]
  split
  ·rw [List.map_singleton, List.getD_eq_getElem?_getD, List.getElem?_eq_getElem (show i < es.length by omega)]
   rfl
  ·rfl
theorem zfz (es : List En) : zbI es = (spL es).map fun j => es.getD j (0, 0) := by
 have hl := zbj es
 have := zfy (es := es) (ms := zbU es) hl.symm (zbU es).length (Nat.le_refl _)
 rw [List.take_of_length_le (Nat.le_refl _), List.take_of_length_le (by omega), hl] at this
 exact this
def stAt (sp : List Nat) (t : Nat) : Nat := if t = 0 then 0 else sp.getD (t - 1) 0 + 1
theorem zkJ {l : List En} (h : l.Nodup) {j : Nat} (hj : j < l.length) : l.idxOf (l.getD j (0, 0)) = j := by
 rw [List.getD_eq_getElem?_getD, List.getElem?_eq_getElem hj]
 exact List.Nodup.idxOf_getElem h j hj
theorem zhF {P : En → Bool} : ∀ (l : List En) (p : Nat), (l.take p).filter P = (l.filter P).take ((l.take p).filter P).length := by
 intro l p
 have e : l.filter P = (l.take p).filter P ++ (l.drop p).filter P := by rw [← List.filter_append, List.take_append_drop]
 rw [e, List.take_append_of_le_length (Nat.le_refl _), List.take_of_length_le (Nat.le_refl _)]
theorem zn4 {ps : List Nat} (T : zaF ps) {rows : List (List Int)} (R : zbp rows) {k c : Nat} (hk : k < ps.length + 1) (hc : par ps c = some k) : ∀ p, p ≤ (zak ps rows k).length → stN (zak ps rows c) ((zak ps rows k).take p) = stAt (spL (zak ps rows c)) (inN (zak ps rows c) ((zak ps rows k).take p))
 | 0, _ => rfl
 | p + 1, h => by
  have ih := zn4 T R hk hc p (by omega)
  have hp : p < (zak ps rows k).length := by omega
  have hft := zhF (P := fun e => decide (e ∈ zak ps rows c)) (zak ps rows k) (p + 1)
  rw [zk5 T R hk hc] at hft
  rw [ziV hp] at hft ⊢
  rw [zh1, zl2]
  by_cases z : (zak ps rows k)[p] ∈ zak ps rows c
  ·rw [if_pos z, if_pos z]
   unfold stAt
   rw [if_neg (by omega), Nat.add_sub_cancel]
   congr 1
   rw [List.filter_append, List.filter_cons_of_pos (by exact decide_eq_true z), List.filter_nil, List.length_append, List.length_singleton] at hft
   have hin : ((zak ps rows k).take p |>.filter fun e => decide (e ∈ zak ps rows c)).length = inN (zak ps rows c) ((zak ps rows k).take p) := rfl
   generalize inN (zak ps rows c) ((zak ps rows k).take p) = t at hin ⊢
   have hg : (zbI (zak ps rows c))[t]? = some (zak ps rows k)[p] := by
    have h2 : (((zak ps rows k).take p |>.filter fun e => decide (e ∈ zak ps rows c)) ++ [(zak ps rows k)[p]])[t]? = some (zak ps rows k)[p] := by
     rw [List.getElem?_append_right (by omega), hin, Nat.sub_self]
     rfl
    rw [hft, List.getElem?_take] at h2
    split at h2
    ·exact h2
    ·cases h2
   rw [zfz, List.getElem?_map] at hg
   obtain ⟨j, hj, he⟩ := Option.map_eq_some_iff.mp hg
   have hjl : j < (zak ps rows c).length := by
    have := (zh5 (zak ps rows c)).lt (List.mem_of_getElem? hj)
    rw [zbj] at this
    exact this
   rw [← he, zkJ (ze1 T R (za0 T hc).2) hjl, List.getD_eq_getElem?_getD, hj]
   rfl
  ·rw [if_neg z, if_neg z, Nat.add_zero]
   exact ih
theorem zm2 {es : List En} (he : ∀ e ∈ es, zdy 64 e) (hri : Rise es) {t : Nat} (ht : t < (spL es).length) : stAt (spL es) (t + 1) = stAt (spL es) t + 2 ∨ stAt (spL es) (t + 1) = stAt (spL es) t + 3 := by
 have M := zgH he hri
 have S := zh5 es
 have g : ∀ i (h : i < (spL es).length), (spL es).getD i 0 = (spL es)[i] := fun i h => by
  rw [List.getD_eq_getElem?_getD, List.getElem?_eq_getElem h]
  rfl
 unfold stAt
 rw [if_neg (by omega), Nat.add_sub_cancel]
 by_cases z : t = 0
 ·subst z
  rw [if_pos rfl, g 0 ht]
  have hlen : 2 ≤ (zbU es).length := by
   refine Nat.le_of_not_lt fun y => ?_
   have := S.none M (by omega)
   rw [this] at ht
   simp at ht
  obtain ⟨_, h1, h2⟩ := S.first M hlen
  omega
 ·rw [if_neg z, g t ht, g (t - 1) (by omega)]
  have := S.step M (t := t - 1) (by omega)
  have e : t - 1 + 1 = t := by omega
  have e2 : (spL es)[t - 1 + 1]'(by omega) = (spL es)[t] := by congr 1
  rw [e2] at this
  omega
theorem zm1 {es : List En} (he : ∀ e ∈ es, zdy 64 e) (hri : Rise es) : stAt (spL es) (spL es).length ≤ es.length ∧ es.length ≤ stAt (spL es) (spL es).length + 1 := by
 have M := zgH he hri
 have S := zh5 es
 have hl := zbj es
 unfold stAt
 by_cases z : (spL es).length = 0
 ·rw [if_pos z]
  refine ⟨Nat.zero_le _, ?_⟩
  refine Nat.le_of_not_lt fun y => ?_
  obtain ⟨h, _⟩ := S.first M (by omega)
  omega
 ·have g : (spL es).getD ((spL es).length - 1) 0 = (spL es)[(spL es).length - 1]'(by omega) := by
   rw [List.getD_eq_getElem?_getD, List.getElem?_eq_getElem (by omega)]
   rfl
  rw [if_neg z, g]
  have h1 := S.lt (List.getElem_mem (show (spL es).length - 1 < (spL es).length by omega))
  refine ⟨by omega, ?_⟩
  have hlen : 2 ≤ (zbU es).length := Nat.le_of_not_lt fun y => z (by rw [S.none M y]; rfl)
  have h2 := S.last M hlen (by omega)
  omega
theorem zdp {f : Nat → Nat} {i : Nat} : ((List.range (i + 1)).map f).map nV = (((List.range i).map f) ++ [f i]).map nV := by
 rw [List.range_succ, List.map_append]
 rfl
theorem zhU {us : List Nat} {c : Nat} : atI ((us ++ [c]).map nV) (-1) = some (nV c) := by
 unfold atI ixN
 rw [List.map_append]
 simp
 rw [if_pos (by omega)]
 show (List.map nV us ++ [nV c])[(-1 + ((us.length : Int) + 1)).toNat]? = _
 rw [show (-1 + ((us.length : Int) + 1)).toNat = us.length by omega, List.getElem?_append_right (by rw [List.length_map]; exact Nat.le_refl _), List.length_map, Nat.sub_self]
 rfl
def zmr (K : PySem.W.Frag) : Sp := fun vs H Q _ => ∃ (a : Addr) (ws : List V) (es : List En) (k : Nat), vs = [.ref a, .int k] ∧ H a = some (.lst ws) ∧ zaj K H es ws ∧ es.length ≤ 900 ∧
 ∀ (p : Addr) (H' : Hp), H p = none → Same H H' → H' p = some (.lst ((zoo k es).map nV)) → Q (.ref p) H'
theorem zng (T : Txt K mg) (D_owns_of : DF K mg "owns_of" zbx zb8) : FC P w K mg base 1 "owns_of" zb8 (zmr K) := by
 refine D_owns_of.ok sc_owns_of (fun vs H Q E h => ?_) (fun f cdv A outer s H vs Q E hr h => ?_)
 ·obtain ⟨a, ws, es, k, rfl, _⟩ := h
  rfl
 obtain ⟨a, ws, es, k, rfl, ha, hw, hz, q⟩ := h
 have hwl := hw.length
 refine ⟨_, (zag (zat (i := 2) sc_owns_of.nd rfl (Or.inl rfl) (zcJ (zaa zaf zae)))
   (zag (zbu PassesOwn.never rfl (zcz (pv 0)) (zaq (i := 3) sc_owns_of.nd rfl (Or.inl rfl)) (zai (zcy (zfe F.plainAttrs_list F.slot_list_append F.type_list_append zbl (pv 2) (zaa (zid (zaJ zff (zaZ zcm (pv 3) zaf (fun _ _ => rfl)) (pv 1) (zbc _)) (zav zbv (zaZ zaK (pv 2) (ziZ zfk zaf) (fun _ _ => rfl)) zaf) (zaZ zaK (pv 2) (ziZ zfk zaf) (fun _ _ => rfl))) zae)))))
   (zai (zaC (pv 2))))), ?_⟩
 refine ⟨(by show 1 ≤ sizeLine; decide), fun p hp => ?_⟩
 have k0 : But p H (upd H p (.lst [V.int 0])) := fun b o n e => by rw [zah n]; exact e
 have nap : a ≠ p := zab ha hp
 refine ⟨_, rfl, a, rfl, ⟨_, SqL.of (k0 _ _ nap ha)⟩, ?_⟩
 refine zeD (xs := ws) (fun i σ H2 => ∃ x3 : Option V, σ = [some (.ref a), some (.int k), some (.ref p), x3] ∧ H2 p = some (.lst (((List.range (i + 1)).map fun p => zee k (es.take p)).map nV)) ∧ But p H H2) ?_ ?_ ?_ ?_
 ·exact ⟨_, rfl, zac, k0⟩
 ·rintro i σ H2 _ ⟨x3, rfl, _, k2⟩
  exact SqL.of (k2 _ _ nap ha)
 ·rintro i x σ H2 hx ⟨x3, rfl, h2, k2⟩
  obtain ⟨e, he, hhas⟩ := hw.get hx
  obtain ⟨b, y1, y2, rfl, hb, hy1, hy2⟩ := (show hasP K H e x from hhas)
  have hy1 : y1 = .int e.1 := hy1
  have hy2 : y2 = .int e.2 := hy2
  subst hy1 hy2
  have h2b := k2 _ _ (zab hb hp) hb
  have hi := (List.getElem?_eq_some_iff.mp he).1
  have htk : es.take (i + 1) = es.take i ++ [e] := by
   rw [List.take_succ_eq_append_getElem hi, (List.getElem?_eq_some_iff.mp he).2]
  have hon := zi3 k (es.take i) e
  rw [← htk] at hon
  rw [zdp] at h2
  have hlen : ((((List.range i).map fun p => zee k (es.take p)) ++ [zee k (es.take i)]).map nV).length < sizeLine := zau (by
   rw [List.length_map, List.length_append, List.length_map, List.length_range, List.length_singleton]
   omega)
  have fin : ∀ v : Nat, v = zee k (es.take (i + 1)) → upd H2 p (.lst ((((List.range i).map fun p => zee k (es.take p)) ++ [zee k (es.take i)]).map nV ++ [nV v])) p = some (.lst (((List.range (i + 1 + 1)).map fun p => zee k (es.take p)).map nV)) := fun v hv => by
   rw [zac, zdp, List.map_append (l₂ := [zee k (es.take (i + 1))]), zdp, hv]
   rfl
  refine ⟨_, rfl, .inl ⟨rfl, _, SqL.of h2⟩, ?_⟩
  refine ⟨_, rfl, _, _, _, _, rfl, rfl, SqT.of h2b, rfl, _, rfl, rfl, _, rfl, ?_⟩
  refine ite2 (fun c => ?_) (fun c => ?_)
  ·have c' : e.2 = (k : Int) := V.int.inj (of_decide_eq_true c)
   rw [if_pos c'] at hon
   refine ⟨_, rfl, _, rfl, _, _, _, _, rfl, rfl, SqL.of h2, zhU, _, _, rfl, rfl, _, _, _, rfl, rfl, h2, hlen, ?_⟩
   refine ⟨_, rfl, ?_, fun b o n e => by rw [zah n]; exact k2 b o n e⟩
   have := fin (zee k (es.take i) + 1) hon.symm
   rw [← this]
   rfl
  ·have c' : ¬ e.2 = (k : Int) := fun z => c (by rw [z]; exact decide_eq_true rfl)
   rw [if_neg c', Nat.add_zero] at hon
   refine ⟨_, rfl, _, rfl, _, _, _, _, rfl, rfl, SqL.of h2, zhU, _, _, _, rfl, rfl, h2, hlen, ?_⟩
   exact ⟨_, rfl, fin _ hon.symm, fun b o n e => by rw [zah n]; exact k2 b o n e⟩
 ·rintro σ H2 ⟨x3, rfl, h2, k2⟩
  refine ⟨_, rfl, ?_⟩
  rw [← hwl] at h2
  exact q p H2 hp (fun b o e => k2 b o (zab e hp) e) h2
def kvT : Nat → List En → List (List Key × V)
 | _, [] => []
 | o, e :: es => ([.inl e.1, .inl e.2], nV (o + 1)) :: kvT (o + 1) es
abbrev kE (e : En) : List Key := [.inl e.1, .inl e.2]
theorem kE_inj {e f : En} (h : kE e = kE f) : e = f := by
 obtain ⟨a, b⟩ := e
 obtain ⟨c, d⟩ := f
 injection h with h1 h2
 injection h2 with h2 _
 have h1 : a = c := Sum.inl.inj h1
 have h2 : b = d := Sum.inl.inj h2
 rw [h1, h2]
theorem zhw (e : En) : ∀ (o : Nat) (es : List En), valV (kvT o es) (kE e) = if e ∈ es then some (nV (o + es.idxOf e + 1)) else none
 | _, [] => rfl
 | o, f :: es => by
  show valV ((kE f, nV (o + 1)) :: kvT (o + 1) es) (kE e) = _
  by_cases z : f = e
  ·subst z
   rw [zcs rfl, if_pos List.mem_cons_self, List.idxOf_cons_self]
  ·rw [zbq (fun y => z (kE_inj y)), zhw e (o + 1) es]
   have hm : (e ∈ f :: es) = (e ∈ es) := propext ⟨fun h => (List.mem_cons.mp h).resolve_left fun y => z y.symm, fun h => List.mem_cons_of_mem _ h⟩
   by_cases y : e ∈ es
   ·have ei : (f :: es).idxOf e = es.idxOf e + 1 := by
     rw [List.idxOf_cons, beq_false_of_ne z]
     rfl
    rw [if_pos y, if_pos (by rw [hm]; exact y), ei]
    congr 2
    have : o + 1 + es.idxOf e + 1 = o + (es.idxOf e + 1) + 1 := by omega
    rw [this]
   ·rw [if_neg y, if_neg (by rw [hm]; exact y)]
theorem zir (e : En) : ∀ (o : Nat) (es : List En), kvT o (es ++ [e]) = kvT o es ++ [(kE e, nV (o + es.length + 1))]
 | _, [] => rfl
 | o, f :: es => by
  show (kE f, nV (o + 1)) :: kvT (o + 1) (es ++ [e]) = (kE f, nV (o + 1)) :: (kvT (o + 1) es ++ _)
  rw [zir e (o + 1) es, List.length_cons, show o + 1 + es.length + 1 = o + (es.length + 1) + 1 by omega]
theorem zkz : ∀ (o : Nat) (es : List En), (kvT o es).length = es.length
 | _, [] => rfl
 | o, e :: es => by
  show (kvT (o + 1) es).length + 1 = es.length + 1
  rw [zkz (o + 1) es]
def zh3 (K : PySem.W.Frag) : Sp := fun vs H Q _ => ∃ (a c : Addr) (ws vs' : List V) (es cs : List En), vs = [.ref a, .ref c] ∧ H a = some (.lst ws) ∧ zaj K H es ws ∧ es.length ≤ 900 ∧ H c = some (.lst vs') ∧ zaj K H cs vs' ∧ cs.length ≤ 900 ∧ cs.Nodup ∧
 ∀ (p : Addr) (H' : Hp), H p = none → Same H H' → H' p = some (.lst ((zfO es cs).map nV)) → Q (.ref p) H'
theorem zkf (T : Txt K mg) (D_starts_of : DF K mg "starts_of" za2 zbs) : FC P w K mg base 1 "starts_of" zbs (zh3 K) := by
 refine D_starts_of.ok sc_starts_of (fun vs H Q E h => ?_) (fun f cdv A outer s H vs Q E hr h => ?_)
 ·obtain ⟨a, c, ws, us, es, cs, rfl, _⟩ := h
  rfl
 obtain ⟨a, c, ws, us, es, cs, rfl, ha, hw, hz, hc, hu, hzc, hnd, q⟩ := h
 have hwl := hw.length
 have hul := hu.length
 refine ⟨_, (zag (zat (i := 2) sc_starts_of.nd rfl (Or.inl rfl) zlE)
   (zag (zbu PassesOwn.never rfl (zda rfl T.m_enumerate (zaa (pv 1) zae)) (zgA rfl (zbO (zaq (i := 3) sc_starts_of.nd rfl (Or.inl rfl)) (zbO (zaq (i := 4) sc_starts_of.nd rfl (Or.inl rfl)) zeO))) (zai (zeb (zdK hr) (pv 2) (pv 4) (zav zbv (pv 3) zaf) rfl)))
   (zag (zat (i := 5) sc_starts_of.nd rfl (Or.inl rfl) (zcJ (zaa zaf zae)))
   (zag (zbu PassesOwn.never rfl (zcz (pv 0)) (zaq (i := 4) sc_starts_of.nd rfl (Or.inl rfl)) (zai (zcy (zfe F.plainAttrs_list F.slot_list_append F.type_list_append zbl (pv 5) (zaa (zlF (zdK hr) (pv 2) (pv 4) (zaZ zaK (pv 5) (ziZ zfk zaf) (fun _ _ => rfl)) ⟨rfl, rfl, rfl, rfl⟩) zae)))))
   (zai (zaC (pv 5))))))), ?_⟩
 intro D hD
 have k0 : But D H (upd H D (.dT [])) := fun b o n e => by rw [zah n]; exact e
 have naD : a ≠ D := zab ha hD
 have ncD : c ≠ D := zab hc hD
 refine ⟨_, rfl, c, rfl, ⟨_, SqL.of (k0 _ _ ncD hc)⟩, ?_⟩
 refine zgf (xs := us) (fun i σ H2 => ∃ x3 x4 : Option V, σ = [some (.ref a), some (.ref c), some (.ref D), x3, x4, none] ∧ H2 D = some (.dT (kvT 0 (cs.take i))) ∧ But D H H2) ?_ ?_ ?_ ?_
 ·exact ⟨_, _, rfl, zac, k0⟩
 ·rintro i σ H2 _ ⟨x3, x4, rfl, _, k2⟩
  exact SqL.of (k2 _ _ ncD hc)
 ·rintro i x σ H2 r hx ⟨x3, x4, rfl, h2, k2⟩ hr
  obtain ⟨e, he, hhas⟩ := hu.get hx
  obtain ⟨b, y1, y2, rfl, hb, hy1, hy2⟩ := (show hasP K H e x from hhas)
  have hy1 : y1 = .int e.1 := hy1
  have hy2 : y2 = .int e.2 := hy2
  subst hy1 hy2
  have hi := (List.getElem?_eq_some_iff.mp he).1
  have htk : cs.take (i + 1) = cs.take i ++ [e] := by
   rw [List.take_succ_eq_append_getElem hi, (List.getElem?_eq_some_iff.mp he).2]
  refine ⟨r, _, rfl, SqT.of zac, rfl, _, _, rfl, _, _, rfl, rfl, ?_⟩
  have sr := zal hr (.tup [.int (i : Int), .ref b])
  have h3 := sr _ _ h2
  have k3 : But D H (upd H2 r (.tup [.int (i : Int), .ref b])) := fun b o n e => sr b o (k2 b o n e)
  clear sr
  generalize upd H2 r (.tup [.int (i : Int), .ref b]) = H3 at h3 k3 ⊢
  have h3b := k3 _ _ (zab hb hD) hb
  have hnot : e ∉ cs.take i := fun z => by
   have hn2 := hnd
   rw [← List.take_append_drop (i + 1) cs, htk] at hn2
   have := (List.nodup_append.mp (List.nodup_append.mp hn2).1).2.2 e z e (List.mem_singleton.mpr rfl)
   exact this rfl
  refine ⟨_, rfl, _, _, rfl, rfl, _, rfl, _, rfl, D, _, rfl, DPut.t (k := kE e) h3 h3b (zau (by rw [zkz, List.length_take]; omega)), ?_⟩
  refine ⟨_, _, rfl, ?_, fun b o n e => by rw [zah n]; exact k3 b o n e⟩
  rw [zac, zdR _ (by rw [zhw, if_neg hnot]), htk, zir, List.length_take, Nat.min_eq_left (by omega), Nat.zero_add]
  rfl
 ·rintro σ H2 ⟨x3, x4, rfl, h2, k2⟩
  rw [List.take_of_length_le (by omega)] at h2
  refine ⟨(by show 1 ≤ sizeLine; decide), fun p hp => ?_⟩
  have nDp : D ≠ p := zab h2 hp
  have s2 : Same H H2 := fun b o e => k2 b o (zab e hD) e
  have k3 : But p H2 (upd H2 p (.lst [V.int 0])) := fun b o n e => by rw [zah n]; exact e
  have h2a := s2 _ _ ha
  refine ⟨_, rfl, a, rfl, ⟨_, SqL.of (k3 _ _ (zab h2a hp) h2a)⟩, ?_⟩
  refine zeD (xs := ws) (fun i σ H4 => ∃ x4 : Option V, σ = [some (.ref a), some (.ref c), some (.ref D), x3, x4, some (.ref p)] ∧ H4 p = some (.lst (((List.range (i + 1)).map fun p => stN cs (es.take p)).map nV)) ∧ But p H2 H4) ?_ ?_ ?_ ?_
  ·exact ⟨_, rfl, zac, k3⟩
  ·rintro i σ H4 _ ⟨x4, rfl, _, k4⟩
   exact SqL.of (k4 _ _ (zab h2a hp) h2a)
  ·rintro i x σ H4 hx ⟨x4, rfl, h4, k4⟩
   obtain ⟨e, he, hhas⟩ := hw.get hx
   obtain ⟨b, y1, y2, rfl, hb, hy1, hy2⟩ := (show hasP K H e x from hhas)
   have hy1 : y1 = .int e.1 := hy1
   have hy2 : y2 = .int e.2 := hy2
   subst hy1 hy2
   have h2b := s2 _ _ hb
   have h4b := k4 _ _ (zab h2b hp) h2b
   have h4D := k4 _ _ nDp h2
   have hi := (List.getElem?_eq_some_iff.mp he).1
   have htk : es.take (i + 1) = es.take i ++ [e] := by
    rw [List.take_succ_eq_append_getElem hi, (List.getElem?_eq_some_iff.mp he).2]
   have hon := zh1 cs (es.take i) e
   rw [← htk] at hon
   rw [zdp] at h4
   have hlen : ((((List.range i).map fun p => stN cs (es.take p)) ++ [stN cs (es.take i)]).map nV).length < sizeLine := zau (by
    rw [List.length_map, List.length_append, List.length_map, List.length_range, List.length_singleton]
    omega)
   refine ⟨_, rfl, .inl ⟨rfl, _, SqL.of h4⟩, ?_⟩
   refine ⟨_, rfl, D, rfl, .inr ⟨_, .inl h4D⟩, _, rfl, _, rfl, _, rfl, _, _, _, _, rfl, rfl, SqL.of h4, zhU, _, DGet.t (k := kE e) h4D h4b, ?_⟩
   have ev : (valV (kvT 0 cs) (kE e)).getD (nV (stN cs (es.take i))) = nV (stN cs (es.take (i + 1))) := by
    rw [zhw, hon]
    by_cases z : e ∈ cs
    ·rw [if_pos z, if_pos z, Nat.zero_add]
     rfl
    ·rw [if_neg z, if_neg z]
     rfl
   rw [ev]
   refine ⟨_, _, _, rfl, rfl, h4, hlen, ?_⟩
   refine ⟨_, rfl, ?_, fun b o n e => by rw [zah n]; exact k4 b o n e⟩
   rw [zac, zdp, List.map_append (l₂ := [stN cs (es.take (i + 1))]), zdp]
   rfl
  ·rintro σ H4 ⟨x4, rfl, h4, k4⟩
   refine ⟨_, rfl, ?_⟩
   rw [← hwl] at h4
   refine q p H4 (s2.free hp) (s2.trans fun b o e => k4 b o (zab e hp) e) h4
theorem zaQ {α β : Type} {F G : α → β → Prop} (h : ∀ a b, F a b → G a b) : ∀ {l : List α} {m : List β}, Paired F l m → Paired G l m
 | _, _, .nil => .nil
 | _, _, .cons a t => .cons (h _ _ a) (zaQ h t)
theorem zcW {α β : Type} {F : α → β → Prop} {a : α} {b : β} : ∀ {l : List α} {m : List β}, Paired F l m → F a b → Paired F (l ++ [a]) (m ++ [b])
 | _, _, .nil, h => .cons h .nil
 | _, _, .cons a t, h => .cons a (zcW t h)
theorem zed {α β : Type} {F : α → β → Prop} : ∀ {l : List α} {m : List β} {i : Nat} {a : α}, Paired F l m → l[i]? = some a → ∃ b, m[i]? = some b ∧ F a b
 | _, _, i, a, .nil, h => by simp at h
 | _ :: _, b :: _, 0, a, .cons h t, e => by
  have := Option.some.inj (show some _ = some a from e)
  subst this
  exact ⟨b, rfl, h⟩
 | _ :: _, _ :: _, i + 1, a, .cons h t, e => by
  obtain ⟨q, h1, h2⟩ := zed (i := i) t (by simpa using e)
  exact ⟨q, by simpa using h1, h2⟩
def zbw (Av : List Addr) (H : Hp) (es : List En) (ps : List Nat) (rows : List (List Int)) (c : Nat) (x : V) : Prop := ∃ j s, x = .ref j ∧ s ∉ Av ∧ H j = some (.tup [.int (c : Int), .ref s]) ∧ H s = some (.lst ((zfO es (zak ps rows c)).map nV))
def BrAt (Av : List Addr) (H : Hp) (ps : List Nat) (rows : List (List Int)) (k : Nat) (x : V) : Prop := ∃ b o j xs, x = .ref b ∧ o ∉ Av ∧ j ∉ Av ∧ H b = some (.tup [.int ((zak ps rows k).length : Nat), .ref o, .ref j]) ∧ H o = some (.lst ((zoo k (zak ps rows k)).map nV)) ∧ H j = some (.lst xs) ∧ Paired (zbw Av H (zak ps rows k) ps rows) (zaY ps k (ps.length + 1)) xs
theorem zbw.same {Av : List Addr} {H H' : Hp} {es : List En} {ps : List Nat} {rows : List (List Int)} {c : Nat} {x : V} (e : Same H H') (h : zbw Av H es ps rows c x) : zbw Av H' es ps rows c x := by
 obtain ⟨j, s, h1, h2, h3, h4⟩ := h
 exact ⟨j, s, h1, h2, e _ _ h3, e _ _ h4⟩
theorem zbw.but {p : Addr} {Av : List Addr} {H H' : Hp} {es : List En} {ps : List Nat} {rows : List (List Int)} {c : Nat} {x : V} {zs : List V} (k : But p H H') (hp : p ∈ Av) (hz : H p = some (.lst zs)) (h : zbw Av H es ps rows c x) : zbw Av H' es ps rows c x := by
 obtain ⟨j, s, h1, h2, h3, h4⟩ := h
 exact ⟨j, s, h1, h2, k _ _ (fun z => by rw [z, hz] at h3; cases h3) h3, k _ _ (fun z => h2 (z ▸ hp)) h4⟩
theorem zbw.less {Av Av' : List Addr} {H : Hp} {es : List En} {ps : List Nat} {rows : List (List Int)} {c : Nat} {x : V} (s : ∀ a ∈ Av', a ∈ Av) (h : zbw Av H es ps rows c x) : zbw Av' H es ps rows c x := by
 obtain ⟨j, q, h1, h2, h3, h4⟩ := h
 exact ⟨j, q, h1, fun z => h2 (s _ z), h3, h4⟩
theorem BrAt.same {Av : List Addr} {H H' : Hp} {ps : List Nat} {rows : List (List Int)} {k : Nat} {x : V} (e : Same H H') (h : BrAt Av H ps rows k x) : BrAt Av H' ps rows k x := by
 obtain ⟨b, o, j, xs, h1, h2, h3, h4, h5, h6, h7⟩ := h
 exact ⟨b, o, j, xs, h1, h2, h3, e _ _ h4, e _ _ h5, e _ _ h6, zaQ (fun a b => zbw.same e) h7⟩
theorem BrAt.but {p : Addr} {Av : List Addr} {H H' : Hp} {ps : List Nat} {rows : List (List Int)} {k : Nat} {x : V} {zs : List V} (kk : But p H H') (hp : p ∈ Av) (hz : H p = some (.lst zs)) (h : BrAt Av H ps rows k x) : BrAt Av H' ps rows k x := by
 obtain ⟨b, o, j, xs, h1, h2, h3, h4, h5, h6, h7⟩ := h
 exact ⟨b, o, j, xs, h1, h2, h3, kk _ _ (fun z => by rw [z, hz] at h4; cases h4) h4, kk _ _ (fun z => h2 (z ▸ hp)) h5, kk _ _ (fun z => h3 (z ▸ hp)) h6, zaQ (fun a b => zbw.but kk hp hz) h7⟩
theorem BrAt.less {Av : List Addr} {H : Hp} {ps : List Nat} {rows : List (List Int)} {k : Nat} {x : V} (h : BrAt Av H ps rows k x) : BrAt [] H ps rows k x := by
 obtain ⟨b, o, j, xs, h1, h2, h3, h4, h5, h6, h7⟩ := h
 exact ⟨b, o, j, xs, h1, (fun z => nomatch z), (fun z => nomatch z), h4, h5, h6, zaQ (fun a b => zbw.less (fun a z => absurd z List.not_mem_nil)) h7⟩
def spBr (K : PySem.W.Frag) : Sp := fun vs H Q _ => ∃ (st : Addr) (ps : List Nat) (rows : List (List Int)) (t rs : Addr) (as : List Addr), vs = [.ref st] ∧ zcA H st ps rows t rs as ∧
 ∀ (p : Addr) (xs : List V) (H' : Hp), H p = none → Same H H' → H' p = some (.lst xs) → Paired (BrAt [] H' ps rows) (List.range (ps.length + 1)) xs → Q (.ref p) H'
def zmw (K : PySem.W.Frag) : Sp := fun vs H Q _ => ∃ (st : Addr) (ps : List Nat) (rows : List (List Int)) (t rs : Addr) (as : List Addr) (pf : Addr) (qs : List Addr), vs = [.ref t, .ref pf] ∧ zcA H st ps rows t rs as ∧ H pf = some (.lst (qs.map V.ref)) ∧ zas K H ps rows (List.range (ps.length + 1)) qs ∧
 ∀ (p : Addr) (xs : List V) (H' : Hp), H p = none → Same H H' → H' p = some (.lst xs) → Paired (BrAt [] H' ps rows) (List.range (ps.length + 1)) xs → Q (.ref p) H'
theorem znk (T : Txt K mg) (D_bridges_of : DF K mg "bridges_of" zaT zbi) (F_children : FC P w K mg base 1 "children" zbr (zea K)) (F_starts_of : FC P w K mg base 1 "starts_of" zbs (zh3 K)) (F_owns_of : FC P w K mg base 1 "owns_of" zb8 (zmr K)) : FC P w K mg base 2 "bridges_of" zbi (zmw K) := by
 refine D_bridges_of.ok sc_bridges_of (fun vs H Q E h => ?_) (fun f cdv A outer s H vs Q E hr h => ?_)
 ·obtain ⟨st, ps, rows, t, rs, as, pf, qs, rfl, _⟩ := h
  rfl
 obtain ⟨st, ps, rows, t, rs, as, pf, qs, rfl, S, h1, hF, q⟩ := h
 refine ⟨_, (zag (zat (i := 2) sc_bridges_of.nd rfl (Or.inl rfl) (zcJ zae))
   (zag (zbu PassesOwn.never rfl (zda rfl T.m_enumerate (zaa (pv 1) zae)) (zgA rfl (zbO (zaq (i := 3) sc_bridges_of.nd rfl (Or.inl rfl)) (zbO (zaq (i := 4) sc_bridges_of.nd rfl (Or.inr rfl)) zeO))) (zag (zeK (i := 5) (N := ["child", "full", "fulls"]) (own := 1) (cap := [4, 1]) sc_bridges_of.nd rfl rfl rfl (zcz (zaM F_children hr (zaa (pv 0) (zaa (pv 3) zae)))) ⟨rfl, rfl, rfl, rfl, rfl, rfl⟩ (fun _ _ _ _ _ => (zaq (i := 0) (show List.Nodup (["child", "full", "fulls"] : List Str) by decide +kernel) rfl (Or.inl rfl))) (fun _ _ _ _ _ => zdI) (fun _ _ _ _ _ => (zdU (zaa (pv 0) (zaa (zaM F_starts_of hr (zaa (pv 1) (zaa (zaZ (ziu (K := K)) (pv 2) (pv 0) (fun _ _ => rfl)) zae))) zae)))))
   (zai (zcy (zfe F.plainAttrs_list F.slot_list_append F.type_list_append zbl (pv 2) (zaa (zdU (zaa (zaD zaz rfl T.m_len boot_len (zaa (pv 4) zae)) (zaa (zaM F_owns_of hr (zaa (pv 4) (zaa (pv 3) zae))) (zaa (pv 5) zae)))) zae))))))
   (zai (zaC (pv 2))))), ?_⟩
 have hfew := S.few
 have hkeys := S.keys
 have hql := hF.length
 rw [List.length_range] at hql
 refine ⟨(by show 0 ≤ sizeLine; decide), fun p hp => ?_⟩
 have k0 : But p H (upd H p (.lst [])) := fun b o n e => by rw [zah n]; exact e
 have npf : pf ≠ p := zab h1 hp
 refine ⟨_, rfl, pf, rfl, ⟨_, SqL.of (k0 _ _ npf h1)⟩, ?_⟩
 refine zgf (xs := qs.map V.ref) (fun i σ H2 => ∃ (xs : List V) (x4 x5 x6 : Option V), σ = [some (.ref t), some (.ref pf), some (.ref p), x4, x5, x6] ∧ H2 p = some (.lst xs) ∧ Paired (BrAt [p] H2 ps rows) (List.range i) xs ∧ But p H H2) ?_ ?_ ?_ ?_
 ·exact ⟨[], _, _, _, rfl, zac, .nil, k0⟩
 ·rintro i σ H2 _ ⟨xs, x4, x5, x6, rfl, _, _, k2⟩
  exact SqL.of (k2 _ _ npf h1)
 ·rintro i x σ H2 r hx ⟨xs, x4, x5, x6, rfl, h2, hB, k2⟩ hr
  rw [List.getElem?_map] at hx
  obtain ⟨qq, hqi, rfl⟩ := Option.map_eq_some_iff.mp hx
  have hi : i < ps.length + 1 := by
   have := (List.getElem?_eq_some_iff.mp hqi).1
   omega
  have hxl : xs.length = i := by
   have := Paired.length hB
   rw [List.length_range] at this
   exact this.symm
  have noP : ∀ {b : Addr} {o : HO}, H b = some o → b ≠ p := fun e => zab e hp
  have s12 : Same H H2 := fun b o e => k2 b o (noP e) e
  have S2 := S.same s12
  have F2 := hF.same s12
  have h2f := s12 _ _ h1
  obtain ⟨q2, hq2, ws, hq3, hw3⟩ := F2.get (i := i) (j := i) (List.getElem?_range hi)
  rw [hqi] at hq2
  have := Option.some.inj hq2
  subst this
  refine ⟨r, _, rfl, SqT.of zac, rfl, _, _, rfl, _, _, rfl, rfl, ?_⟩
  have sr := zal hr (.tup [.int (i : Int), .ref qq])
  generalize upd H2 r (.tup [.int (i : Int), .ref qq]) = H3 at sr ⊢
  refine ⟨_, rfl, _, rfl, t, ps, i, rfl, sr _ _ S2.tr, by omega, fun c H4 hc s4 h4 => ?_⟩
  have s24 : Same H2 H4 := sr.trans s4
  refine ⟨c, rfl, ⟨_, SqL.of h4⟩, fun D hD => ?_⟩
  have hpD : p ≠ D := zab (s24 _ _ h2) hD
  have F4 := F2.same s24
  have h4q := s24 _ _ hq3
  have h4w := hw3.mono s24.ext
  have hfl := ze0 S.T S.len (rows := rows) hi
  refine zcO (xs := (zaY ps i (ps.length + 1)).map nV) (fun m σ H5 => ∃ (ys : List V) (x0 : Option V), σ = [x0, some (.ref qq), some (.ref pf)] ∧ H5 D = some (.lst ys) ∧ Paired (zbw [p, D] H5 (zak ps rows i) ps rows) ((zaY ps i (ps.length + 1)).take m) ys ∧ But D H4 H5) ?_ ?_ ?_ ?_
  ·exact ⟨[], _, rfl, zac, .nil, fun b o n e => by rw [zah n]; exact e⟩
  ·rintro m σ H5 _ ⟨ys, x0, rfl, _, _, k5⟩
   exact k5.sq (SqL.of h4) hD
  ·rintro m u x σ H5 hx hm ⟨ys, x0, rfl, h5, hJ, k5⟩
   obtain ⟨hmi, rfl⟩ := ziA hx
   have hcl := zel ps i (ps.length + 1)
   have hyl := Paired.length hJ
   rw [List.length_take] at hyl
   rw [List.length_map] at hm
   have hcm : (zaY ps i (ps.length + 1))[m]? = some ((zaY ps i (ps.length + 1)).getD m 0) := by
    rw [List.getD_eq_getElem?_getD, List.getElem?_eq_getElem hmi]
    rfl
   have htk2 : (zaY ps i (ps.length + 1)).take (m + 1) = (zaY ps i (ps.length + 1)).take m ++ [(zaY ps i (ps.length + 1)).getD m 0] := by
    rw [List.take_succ_eq_append_getElem hmi, List.getD_eq_getElem?_getD, List.getElem?_eq_getElem hmi]
    rfl
   rw [htk2]
   generalize (zaY ps i (ps.length + 1)).getD m 0 = ch at hcm ⊢
   obtain ⟨hchn, hchp⟩ := zaw.mp (List.mem_of_getElem? hcm)
   have s45 : Same H4 H5 := fun b o e => k5 b o (zab e hD) e
   have F5 := F4.same s45
   obtain ⟨qc, hqc, wc, hqc3, hwc⟩ := F5.get (i := ch) (j := ch) (List.getElem?_range hchn)
   have hfc := ze0 S.T S.len (rows := rows) hchn
   refine zeX ?_
   refine ⟨_, rfl, _, rfl, _, rfl, _, rfl, _, _, _, _, rfl, rfl, SqL.of (s45 _ _ (s24 _ _ h2f)), zli hqc, ?_⟩
   refine ⟨qq, qc, ws, wc, zak ps rows i, zak ps rows ch, rfl, s45 _ _ h4q, h4w.mono s45.ext, by omega, hqc3, hwc, by omega, ze1 S.T S.R hchn, fun sa H6 hsa s6 h6 => ?_⟩
   refine ⟨(by show 2 ≤ sizeLine; decide), fun j hj => ?_⟩
   have sj := zal hj (.tup [.int (ch : Int), .ref sa])
   have hjj : upd H6 j (.tup [.int (ch : Int), .ref sa]) j = some (.tup [.int (ch : Int), .ref sa]) := zac
   generalize upd H6 j (.tup [.int (ch : Int), .ref sa]) = H7 at sj hjj ⊢
   have s57 := s6.trans sj
   have h7D := s57 _ _ h5
   have nsaD : sa ≠ D := Ne.symm (zab h5 hsa)
   have nsap : sa ≠ p := Ne.symm (zab (s45 _ _ (s24 _ _ h2)) hsa)
   have kD : But D H7 (upd H7 D (.lst (ys ++ [.ref j]))) := fun b o n e => by rw [zah n]; exact e
   refine ⟨_, h7D, zau (by omega), u - 1, by omega, by rw [List.length_map]; omega, ys ++ [.ref j], _, rfl, zac, ?_, fun b o n e => by rw [zah n]; exact s57 _ _ (k5 b o n e)⟩
   refine zcW (zaQ (fun a b h => zbw.but kD (List.mem_cons_of_mem _ List.mem_cons_self) h7D (zbw.same s57 h)) hJ) ?_
   refine zbw.but kD (List.mem_cons_of_mem _ List.mem_cons_self) h7D ⟨j, sa, rfl, ?_, hjj, sj _ _ h6⟩
   intro z
   rcases List.mem_cons.mp z with z | z
   ·exact nsap z
   ·exact nsaD (List.mem_singleton.mp z)
  ·rintro σ H5 ⟨ys, x0, rfl, h5, hJ, k5⟩
   rw [List.length_map, List.take_of_length_le (Nat.le_refl _)] at hJ
   have s45 : Same H4 H5 := fun b o e => k5 b o (zab e hD) e
   have s25 := s24.trans s45
   refine ⟨_, rfl, .inl ⟨rfl, _, SqL.of (s25 _ _ h2)⟩, _, rfl, _, _, rfl, .inl (SqL.of (s45 _ _ h4q)), ?_⟩
   have hwl := h4w.length
   refine ⟨_, rfl, _, rfl, qq, ws, zak ps rows i, i, rfl, s45 _ _ h4q, h4w.mono s45.ext, by omega, fun o H6 ho s6 h6 => ?_⟩
   refine ⟨_, rfl, (by show 3 ≤ sizeLine; decide), fun b hb => ?_⟩
   have sb := zal hb (.tup [.int ((ws.length : Nat) : Int), .ref o, .ref D])
   have hbb : upd H6 b (.tup [.int ((ws.length : Nat) : Int), .ref o, .ref D]) b = some (.tup [.int ((ws.length : Nat) : Int), .ref o, .ref D]) := zac
   generalize upd H6 b (.tup [.int ((ws.length : Nat) : Int), .ref o, .ref D]) = H7 at sb hbb ⊢
   have s57 := s6.trans sb
   have s27 := s25.trans s57
   have h7p := s27 _ _ h2
   have kp : But p H7 (upd H7 p (.lst (xs ++ [.ref b]))) := fun b o n e => by rw [zah n]; exact e
   have nop : o ≠ p := Ne.symm (zab (s25 _ _ h2) ho)
   refine ⟨_, _, _, rfl, rfl, h7p, zau (by omega), ?_⟩
   refine ⟨xs ++ [.ref b], _, _, _, rfl, zac, ?_, fun b o n e => by rw [zah n]; exact s27 _ _ (k2 b o n e)⟩
   rw [List.range_succ]
   refine zcW (zaQ (fun a b h => BrAt.but kp List.mem_cons_self h7p (BrAt.same s27 h)) hB) ?_
   refine BrAt.but kp List.mem_cons_self h7p ⟨b, o, D, ys, rfl, fun z => nop (List.mem_singleton.mp z), fun z => hpD (List.mem_singleton.mp z).symm, ?_, sb _ _ h6, s57 _ _ h5, ?_⟩
   ·rw [hbb, hwl]
   ·exact zaQ (fun a b h => zbw.same s57 (zbw.less (fun a z => by rw [List.mem_singleton.mp z]; exact List.mem_cons_self) h)) hJ
 ·rintro σ H2 ⟨xs, x4, x5, x6, rfl, h2, hB, k2⟩
  refine ⟨_, rfl, ?_⟩
  rw [List.length_map, ← hql] at hB
  refine q p xs H2 hp (fun b o e => k2 b o (zab e hp) e) h2 (zaQ (fun a b => BrAt.less) hB)
theorem zi6 (T : Txt K mg) (D_bridges : DF K mg "bridges" zbD zce) (F_full_rows : FC P w K mg base 8 "full_rows" zbe (zhd K)) (F_bridges_of : FC P w K mg base 2 "bridges_of" zbi (zmw K)) : FC P w K mg base 9 "bridges" zce (spBr K) := by
 refine D_bridges.ok sc_bridges (fun vs H Q E h => ?_) (fun f cdv A outer s H vs Q E hr h => ?_)
 ·obtain ⟨st, ps, rows, t, rs, as, rfl, _⟩ := h
  rfl
 obtain ⟨st, ps, rows, t, rs, as, rfl, S, q⟩ := h
 refine ⟨_, (zai (zaC (zaM F_bridges_of hr (zaa (zaZ zcm (pv 0) zaf (fun _ _ => rfl)) (zaa (zaM F_full_rows hr (zaa (pv 0) zae)) zae))))), ?_⟩
 refine ⟨_, rfl, _, _, _, _, rfl, rfl, SqT.of S.st, rfl, ?_⟩
 refine ⟨_, rfl, st, ps, rows, t, rs, as, rfl, S, fun pf qs H1 hpf s1 h1 hqn hqf hpq hF => ?_⟩
 exact ⟨st, ps, rows, t, rs, as, pf, qs, rfl, S.same s1, h1, hF, fun p xs H2 hp s2 h2 hB => q p xs H2 (s1.free hp) (s1.trans s2) h2 hB⟩
theorem zkB {m : Nat} : ∀ {rows : List (List Int)}, (∀ row ∈ rows, row.length ≤ m) → zdx rows ≤ rows.length * m
 | [], _ => Nat.zero_le _
 | r :: rows, h => by
  have h1 := h r List.mem_cons_self
  have h2 := zkB (m := m) (rows := rows) fun x hx => h x (List.mem_cons_of_mem _ hx)
  unfold zdx at h2 ⊢
  rw [List.map_cons, List.sum_cons, List.length_cons, Nat.succ_mul]
  omega
def zjU (K : PySem.W.Frag) : Sp := fun vs H Q _ => ∃ (d L : Addr) (m kk : Nat), vs = [.ref d, .int m, .int kk] ∧ 0 < m ∧ m ≤ 40 ∧ kk ≤ 10 ∧ LS K L d H ∧
 ∀ (st : Addr) (ps : List Nat) (rows : List (List Int)) (t rs : Addr) (as : List Addr) (H' : Hp), H st = none → zcA H' st ps rows t rs as → Keep d H H' → LS K L d H' → Q (.ref st) H'
theorem zkh (T : Txt K mg) (D_l_stand : DF K mg "_law_stand" zbz zca) (F_l_tree : FC P w K mg base 3 "_law_tree" zcF (zmp K)) (F_l_rows : FC P w K mg base 5 "_law_rows" zcG (zmq K)) : FC P w K mg base 6 "_law_stand" zca (zjU K) := by
 refine D_l_stand.ok sc_l_stand (fun vs H Q E h => ?_) (fun f cdv A outer s H vs Q E hr h => ?_)
 ·obtain ⟨d, L, m, kk, rfl, _⟩ := h
  rfl
 obtain ⟨d, L, m, kk, rfl, hm0, hm, hkk, hs, q⟩ := h
 refine ⟨_, (zag (zat (i := 3) sc_l_stand.nd rfl (Or.inl rfl) (zaM F_l_tree hr (zaa (pv 0) (zaa (pv 1) zae))))
   (zai (zaC (zdU (zaa (pv 3) (zaa (zaM F_l_rows hr (zaa (pv 0) (zaa (zaD zaz rfl T.m_len boot_len (zaa (pv 3) zae)) (zaa (pv 2) zae)))) zae)))))), ?_⟩
 refine ⟨_, rfl, _, rfl, d, L, m, rfl, ⟨by omega, by omega⟩, hs, fun t ps H1 ht hT hl h1 k1 s1 => ?_⟩
 refine ⟨_, rfl, _, rfl, _, rfl, _, _, rfl, .inr (SqT.of h1), _, rfl, ?_⟩
 refine ⟨d, L, (zdv ps).length, kk, rfl, by rw [zaG]; omega, by omega, s1, fun r as rows H2 hr2 hA hrl hR hlen h2 k2 s2 => ?_⟩
 rw [zaG] at hrl
 have ntd : t ≠ d := fun z => by
  obtain ⟨_, _, _, e, _⟩ := s1.ex
  rw [← z, h1] at e
  cases e
 refine ⟨(by show 2 ≤ sizeLine; decide), fun st hst => ?_⟩
 have ss := zal hst (.tup [.ref t, .ref r])
 have hk := zkB hlen
 have hk2 : rows.length * kk ≤ 40 * 10 := Nat.mul_le_mul (by omega) hkk
 have std : st ≠ d := fun z => by
  obtain ⟨_, _, _, e, _⟩ := s2.ex
  rw [← z, hst] at e
  cases e
 refine q st ps rows t r as _ ?_ ⟨zac, ss _ _ (k2 _ _ ntd h1), ss _ _ h2, hA.ext ss, hrl, hT, hR, by omega, by omega⟩ (fun b o n e => ss _ _ (k2 _ _ n (k1 _ _ n e))) (s2.same ss)
 cases e : H st with
 | none => rfl
 | some o =>
  have := k2 _ _ std (k1 _ _ std e)
  rw [hst] at this
  cases this
def zoa (P : Program) (w : World) (K : PySem.W.Frag) (mg : Str → Option Value) (base : Heap) : Sp := fun vs H Q _ => ∃ (n : Nat) (f : Addr) (ps : List Str) (sp : Sp) (b : Nat → Bool) (R : Hp → Prop), vs = [.int n, .ref f] ∧ FV P w K mg base 1 f ps sp ∧ R H ∧
 (∀ (i : Nat) (H1 : Hp) (Q1 : VK), i < n → R H1 → (∀ H2, R H2 → Q1 (.bl (b i)) H2) → sp [.int i] H1 Q1 E0) ∧ (∀ i j, i ≤ j → j < n → b j = true → b i = true) ∧
 ∀ (m : Nat) (H' : Hp), m ≤ n → (∀ i, i < m → b i = true) → (∀ i, m ≤ i → i < n → b i = false) → R H' → Q (.int m) H'
def znT : L2.St → Hp → Nat := fun σ _ => match σ with
 | [_, _, some (.int lo), some (.int hi), _] => (hi - lo).toNat
 | _ => 0
theorem zoA (T : Txt K mg) (D_how_many_below : DF K mg "how_many_below" zay zaL) : FC P w K mg base 2 "how_many_below" zaL (zoa P w K mg base) := by
 refine D_how_many_below.ok sc_how_many_below (fun vs H Q E h => ?_) (fun f cdv A outer s H vs Q E hr h => ?_)
 ·obtain ⟨n, f, ps, sp, b, R, rfl, _⟩ := h
  rfl
 obtain ⟨n, f, ps, sp, b, R, rfl, hF, hR, hask, hmono, q⟩ := h
 refine ⟨_, (zag (zat (i := 2) sc_how_many_below.nd rfl (Or.inl rfl) zaf)
   (zag (zat (i := 3) sc_how_many_below.nd rfl (Or.inl rfl) (pv 0))
   (zag (zlD PassesOwn.never (zaJ zgC (pv 2) (pv 3) (zbc _)) (zag (zat (i := 4) sc_how_many_below.nd rfl (Or.inl rfl) (zav zhk (zav zbv (pv 2) (pv 3)) zaf))
   (zai (zdw (zj6 (zlG (kr := 1) hr (pv 1) (zaa (pv 4) zae))) (zai (zat (i := 2) sc_how_many_below.nd rfl (Or.inl rfl) (zav zbv (pv 4) zaf))) (zai (zat (i := 3) sc_how_many_below.nd rfl (Or.inl rfl) (pv 4)))))))
   (zai (zaC (pv 2)))))), ?_⟩
 refine ⟨_, rfl, ?_⟩
 refine zjC (fun σ H2 => ∃ (lo hi : Nat) (x4 : Option V), σ = [some (.int n), some (.ref f), some (.int lo), some (.int hi), x4] ∧ lo ≤ hi ∧ hi ≤ n ∧ (∀ i, i < lo → b i = true) ∧ (∀ i, hi ≤ i → i < n → b i = false) ∧ R H2) (fun σ H2 => ∃ (lo : Nat) (x4 : Option V), σ = [some (.int n), some (.ref f), some (.int lo), some (.int lo), x4] ∧ lo ≤ n ∧ (∀ i, i < lo → b i = true) ∧ (∀ i, lo ≤ i → i < n → b i = false) ∧ R H2) znT ?_ ?_ ?_ ?_
 ·exact ⟨0, n, _, rfl, Nat.zero_le _, Nat.le_refl _, fun i h => absurd h (Nat.not_lt_zero _), fun i h1 h2 => absurd h2 (Nat.not_lt.mpr h1), hR⟩
 ·rintro σ H2 ⟨lo, hi, x4, rfl, h1, h2, hb1, hb2, hR2⟩
  refine ⟨_, rfl, _, rfl, _, _, rfl, rfl, _, rfl, ?_⟩
  refine ite2 (fun c => ?_) (fun c => ?_)
  ·have c1 : (lo : Int) < (hi : Int) := of_decide_eq_true c
   have em : ((lo : Int) + (hi : Int)) / 2 = (((lo + hi) / 2 : Nat) : Int) := by omega
   have m1 : lo ≤ (lo + hi) / 2 := by omega
   have m2 : (lo + hi) / 2 < hi := by omega
   refine ⟨_, rfl, _, rfl, _, _, rfl, rfl, _, _, rfl, rfl, ⟨by decide, by decide⟩, ?_⟩
   refine ⟨_, rfl, f, 1, ps, sp, rfl, hF, Nat.le_refl _, _, rfl, ?_⟩
   show sp [V.int (((lo : Int) + (hi : Int)) / 2)] H2 _ E0
   rw [em]
   refine hask ((lo + hi) / 2) H2 _ (by omega) hR2 fun H3 hR3 => ⟨_, rfl, ?_⟩
   cases hbm : b ((lo + hi) / 2) with
   | true =>
    refine iteT ?_
    refine ⟨_, rfl, _, _, rfl, rfl, ⟨(lo + hi) / 2 + 1, hi, some (V.int (((lo : Int) + (hi : Int)) / 2)), ?_, by omega, h2, fun i hi' => hmono i ((lo + hi) / 2) (by omega) (by omega) hbm, hb2, hR3⟩, ?_⟩
    ·show [some (V.int n), some (V.ref f), some (V.int (((lo : Int) + (hi : Int)) / 2 + 1)), some (V.int hi), some (V.int (((lo : Int) + (hi : Int)) / 2))] = _
     rw [em, Int.natCast_add]
     rfl
    ·show ((hi : Int) - (((lo : Int) + (hi : Int)) / 2 + 1)).toNat < ((hi : Int) - (lo : Int)).toNat
     omega
   | false =>
    refine iteF ?_
    refine ⟨_, rfl, ⟨lo, (lo + hi) / 2, some (V.int (((lo : Int) + (hi : Int)) / 2)), ?_, m1, by omega, hb1, fun i hi' hin => ?_, hR3⟩, ?_⟩
    ·show [some (V.int n), some (V.ref f), some (V.int lo), some (V.int (((lo : Int) + (hi : Int)) / 2)), some (V.int (((lo : Int) + (hi : Int)) / 2))] = _
     rw [em]
    ·cases hbi : b i with
     | false => rfl
     | true =>
      have := hmono ((lo + hi) / 2) i hi' hin hbi
      rw [hbm] at this
      cases this
    ·show ((((lo : Int) + (hi : Int)) / 2) - (lo : Int)).toNat < ((hi : Int) - (lo : Int)).toNat
     omega
  ·have c1 : ¬ (lo : Int) < (hi : Int) := of_decide_eq_false (Bool.eq_false_iff.mpr c)
   have e : hi = lo := by omega
   subst e
   exact ⟨hi, _, rfl, h2, hb1, hb2, hR2⟩
 ·intro σ H Q Q' m h
  obtain ⟨y1, e3, y2, e4, i2, j2, f2, g2, b2, e5, q⟩ := h
  exact ⟨y1, e3, y2, e4, i2, j2, f2, g2, b2, e5, m _ _ q⟩
 rintro σ H2 ⟨lo, x4, rfl, h2, hb1, hb2, hR2⟩
 refine ⟨_, rfl, ?_⟩
 exact q lo H2 h2 hb1 hb2 hR2
def zaO (es : List (Int × Int)) (key : Int) : Nat := (es.filter fun e => decide (e.1 < key)).length
theorem zlg {es : List (Int × Int)} {key : Int} {m : Nat} (hm : m ≤ es.length) (h1 : ∀ i, i < m → decide ((es.getD i (0, 0)).1 < key) = true) (h2 : ∀ i, m ≤ i → i < es.length → decide ((es.getD i (0, 0)).1 < key) = false) : zaO es key = m := by
 unfold zaO
 conv => lhs; rw [← List.take_append_drop m es]
 rw [List.filter_append, List.length_append]
 have e1 : (es.take m).filter (fun e => decide (e.1 < key)) = es.take m := by
  rw [List.filter_eq_self]
  intro x hx
  obtain ⟨i, hi, rfl⟩ := List.getElem_of_mem hx
  rw [List.length_take] at hi
  have := h1 i (by omega)
  rw [List.getD_eq_getElem?_getD, List.getElem?_eq_getElem (by omega)] at this
  rw [List.getElem_take]
  exact this
 have e2 : (es.drop m).filter (fun e => decide (e.1 < key)) = [] := by
  rw [List.filter_eq_nil_iff]
  intro x hx
  obtain ⟨i, hi, rfl⟩ := List.getElem_of_mem hx
  rw [List.length_drop] at hi
  have := h2 (m + i) (by omega) (by omega)
  rw [List.getD_eq_getElem?_getD, List.getElem?_eq_getElem (by omega)] at this
  rw [List.getElem_drop]
  intro z
  rw [show decide (es[m + i].1 < key) = false from this] at z
  cases z
 rw [e1, e2, List.length_take, List.length_nil]
 omega
abbrev lamQ : Str := (envOfC ("place_in" : Str) (zad za8) 0 0 .none).qual ++ "<lambda>"
abbrev zdD : Pos := ⟨18, 40, 18, 71⟩
def zgs (K : PySem.W.Frag) (mp : Addr) : Sp := fun vs H Q _ => ∃ (r : Addr) (ws : List V) (es : List (Int × Int)) (key : Int), vs = [.ref r, .int key] ∧ H r = some (.lst ws) ∧ zaj K H es ws ∧ es.Pairwise (fun a b => a.1 ≤ b.1) ∧ zbo H mp zdD lamQ ∧
 ∀ H' : Hp, Gro mp H H' → zbo H' mp zdD lamQ → Q (.int (zaO es key : Nat)) H'
theorem zi4 (T : Txt K mg) {mc mp : Addr} (D_place_in : DFT K mg "place_in" za8 zbL mc mp) (hBM : BMAt mg base) (F_how_many_below : ∀ base, FC P w K mg base 2 "how_many_below" zaL (zoa P w K mg base)) : FC P w K mg base 3 "place_in" zbL (zgs K mp) := by
 refine D_place_in.ok sc_place_in (fun vs H Q E h => ?_) (fun f A outer s H vs Q E hr h => ?_)
 ·obtain ⟨r, ws, es, key, rfl, _⟩ := h
  rfl
 obtain ⟨r, ws, es, key, rfl, h0, hw, hup, hT, q⟩ := h
 refine ⟨_, (zai (zaC (zi0 (kf := 0) F_how_many_below hr (zaD zaz rfl T.m_len boot_len (zaa (pv 0) zae)) (lam_mk (osc := zad za8) (N := ["entries", "key"]) (ps := ["at"]) (caps := ["key", "entries"]) (cap := [1, 0]) ⟨rfl, rfl, rfl, by decide +kernel, by decide +kernel, by decide +kernel, by decide +kernel⟩ (by decide +kernel) (by decide +kernel) rfl rfl rfl rfl (fun _ _ _ _ us hl => match us, hl with | [_], _ => rfl) (fun _ => rfl)) rfl D_place_in.hd hBM (fun _ _ _ _ _ _ _ _ _ => (zeP zgC (zaZ (zhA (K := K)) (zaZ (ziu (K := K)) (pv 2) (pv 0) (fun _ _ => rfl)) zaf (fun _ _ => rfl)) (pv 1) (zbc _)))))), ?_⟩
 refine ⟨_, rfl, _, _, rfl, .inl (SqL.of h0), hT, [.int key, .ref r], rfl, ?_, fun base f c' H2 hg hT2 hC hV => ?_⟩
 ·intro j i v h1 h2
  rcases j with _ | _ | j
  ·cases h1; cases h2; rfl
  ·cases h1; cases h2; rfl
  ·cases h1
 have nmp : ∀ {x : Addr} {o : HO}, H x = some o → (∀ tab, o ≠ .tbl tab) → x ≠ mp := fun {x o} e n z => by
  obtain ⟨tab, e2, _⟩ := hT.ex
  rw [← z, e] at e2
  exact n _ (Option.some.inj e2)
 have h2r := hg _ _ (nmp h0 (fun _ z => by cases z)) h0
 have hwl := hw.length
 rw [← hwl]
 refine ⟨es.length, f, _, _, fun i => decide ((es.getD i (0, 0)).1 < key), fun H' => H' = H2, rfl, hV, rfl, fun i H1 Q1 hi hR hQ => ?_, fun i j hij hj hb => ?_, fun m H' hm hb1 hb2 hR => ?_⟩
 ·subst hR
  refine ⟨rfl, hC, ?_⟩
  obtain ⟨v, hv, b, x1, x2, rfl, hb, e1, e2⟩ : ∃ v, ws[i]? = some v ∧ hasP K H (es.getD i (0, 0)) v := by
   have hge : es[i]? = some (es.getD i (0, 0)) := by
    rw [List.getD_eq_getElem?_getD, List.getElem?_eq_getElem hi]
    rfl
   exact zed hw hge
  have hb2 := hg _ _ (nmp hb (fun _ z => by cases z)) hb
  have e1' : x1 = .int (es.getD i (0, 0)).1 := e1
  subst e1'
  refine ⟨_, rfl, _, rfl, _, _, _, _, rfl, rfl, SqL.of h2r, zbk hv, _, _, _, _, rfl, rfl, SqT.of hb2, rfl, _, rfl, _, _, rfl, rfl, ?_⟩
  exact hQ _ rfl
 ·refine decide_eq_true ?_
  have hb := of_decide_eq_true hb
  by_cases e : i = j
  ·subst e
   exact hb
  ·have := List.pairwise_iff_getElem.mp hup i j (by omega) hj (by omega)
   rw [List.getD_eq_getElem?_getD, List.getElem?_eq_getElem (by omega)] at hb ⊢
   exact Int.lt_of_le_of_lt this hb
 ·subst hR
  have e := zlg hm hb1 hb2
  have q2 := q _ hg hT2
  rw [e] at q2
  exact q2
theorem zez {es : List (Int × Int)} (h : Rise es) : es.Pairwise (fun a b => a.1 ≤ b.1) := h.imp fun {a b} h => by
 have := zcX.mp h
 omega
theorem zdg (es : List (Int × Int)) (key : Int) : zaO es key ≤ es.length := List.length_filter_le _ _
theorem zc3 {key : Int} : ∀ {es : List (Int × Int)}, es.Pairwise (fun a b => a.1 ≤ b.1) → (∀ e ∈ es.take (zaO es key), e.1 < key) ∧ ∀ e ∈ es.drop (zaO es key), ¬ e.1 < key
 | [], _ => ⟨fun e he => (by simp at he), fun e he => (by simp at he)⟩
 | a :: es, h => by
  rw [List.pairwise_cons] at h
  obtain ⟨h1, h2⟩ := zc3 (key := key) h.2
  by_cases c : a.1 < key
  ·have e : zaO (a :: es) key = zaO es key + 1 := by
    unfold zaO
    rw [List.filter_cons_of_pos (by simpa using c), List.length_cons]
   rw [e, List.take_succ_cons, List.drop_succ_cons]
   refine ⟨fun x hx => ?_, h2⟩
   rcases List.mem_cons.mp hx with z | z
   ·rw [z]
    exact c
   ·exact h1 x z
  ·have all : ∀ x ∈ a :: es, ¬ x.1 < key := fun x hx => by
    rcases List.mem_cons.mp hx with z | z
    ·rw [z]
     exact c
    ·have := h.1 x z
     omega
   have e : zaO (a :: es) key = 0 := by
    unfold zaO
    rw [List.filter_eq_nil_iff.mpr fun x hx => by simpa using all x hx]
    rfl
   rw [e]
   exact ⟨fun x hx => (by simp at hx), fun x hx => all x (by simpa using hx)⟩
theorem zg4 {es : List (Int × Int)} {key : Int} (h : es.Pairwise (fun a b => a.1 ≤ b.1)) : es.take (zaO es key) = es.filter fun e => decide (e.1 < key) := by
 obtain ⟨h1, h2⟩ := zc3 (key := key) h
 conv => rhs; rw [← List.take_append_drop (zaO es key) es]
 rw [List.filter_append, List.filter_eq_self.mpr fun e he => decide_eq_true (h1 e he), List.filter_eq_nil_iff.mpr fun e he z => h2 e he (of_decide_eq_true z), List.append_nil]
theorem ziK {es : List (Int × Int)} {key : Int} (h : es.Pairwise (fun a b => a.1 ≤ b.1)) {i : Nat} (hi : i < es.length) : (i < zaO es key → es[i].1 < key) ∧ (zaO es key ≤ i → ¬ es[i].1 < key) := by
 obtain ⟨h1, h2⟩ := zc3 (key := key) h
 refine ⟨fun z => h1 _ ?_, fun z => h2 _ ?_⟩
 ·exact List.mem_take_iff_getElem.mpr ⟨i, by omega, rfl⟩
 ·refine List.mem_drop_iff_getElem.mpr ⟨i - zaO es key, by omega, ?_⟩
  congr 1
  omega
structure NearOk (C F hd : List (Int × Int)) (key : Int) (st : Nat) : Prop where
 lo : st ≤ zaO C key
 hi : zaO C key ≤ st + 2
 none : st = 0 → ∀ e ∈ hd, ¬ e.1 < key
 some : st ≠ 0 → ∃ h : st - 1 < C.length, C[st - 1] ∈ hd ∧ C[st - 1].1 < key ∧ C[st - 1] ∈ F
theorem znm {ps : List Nat} (T : zaF ps) {rows : List (List Int)} (R : zbp rows) (few : ps.length ≤ 40) {k c : Nat} (hk : k < ps.length + 1) (hc : par ps c = some k) (key : Int) :
  NearOk (zak ps rows c) (zak ps rows k) (zbI (zak ps rows c)) key (stN (zak ps rows c) ((zak ps rows k).take (zaO (zak ps rows k) key))) := by
 have hcn := (za0 T hc).2
 have hst := zn4 T R hk hc (rows := rows) (zaO (zak ps rows k) key) (zdg _ _)
 have hF := zez (zbb T R hk)
 have hC := zez (zbb T R hcn)
 have hcome := zk5 T R hk hc (rows := rows)
 have hgr := fun t => zm2 (zd1 T R few hcn) (zbb T R hcn) (t := t)
 have hla := zm1 (zd1 T R few hcn) (zbb T R hcn)
 have hsub := zbn (zak ps rows c)
 have hpick := zfz (zak ps rows c)
 have hspl : ∀ j ∈ spL (zak ps rows c), j < (zak ps rows c).length := fun j hj => by
  have := (zh5 (zak ps rows c)).lt hj
  rw [zbj] at this
  exact this
 have ht : inN (zak ps rows c) ((zak ps rows k).take (zaO (zak ps rows k) key)) = zaO (zbI (zak ps rows c)) key := by
  unfold inN
  rw [zg4 hF, ← hcome]
  unfold zaO
  rw [List.filter_filter, List.filter_filter]
  congr 2
  funext e
  rw [Bool.and_comm]
 rw [hst, ht]
 have hmem : ∀ e ∈ zbI (zak ps rows c), e ∈ zak ps rows k := fun e he => by
  rw [← hcome] at he
  exact (List.mem_filter.mp he).1
 clear hst ht hcome hF
 generalize zak ps rows k = F at hmem ⊢
 generalize zak ps rows c = C at *
 have hhd : (zbI C).Pairwise (fun a b => a.1 ≤ b.1) := hC.sublist hsub
 have hlen : (zbI C).length = (spL C).length := by rw [hpick, List.length_map]
 have hti := zdg (zbI C) key
 have hat : ∀ i (h : i < (spL C).length), ∃ (h1 : (spL C)[i] < C.length) (h2 : i < (zbI C).length), (zbI C)[i] = C[(spL C)[i]] := fun i h => by
  have h1 := hspl _ (List.getElem_mem h)
  refine ⟨h1, by omega, ?_⟩
  have e : (zbI C)[i]? = some C[(spL C)[i]] := by
   rw [hpick, List.getElem?_map, List.getElem?_eq_getElem h]
   show some (C.getD (spL C)[i] (0, 0)) = _
   rw [List.getD_eq_getElem?_getD, List.getElem?_eq_getElem h1]
   rfl
  exact (List.getElem?_eq_some_iff.mp e).2
 have bat := fun i h => ziK (key := key) hhd (i := i) h
 have cat := fun i h => ziK (key := key) hC (i := i) h
 have hall := zc3 (key := key) hhd
 generalize zaO (zbI C) key = t at *
 have hsp : ∀ i (h : i < (spL C).length), stAt (spL C) (i + 1) = (spL C)[i] + 1 := fun i h => by
  unfold stAt
  rw [if_neg (by omega), Nat.add_sub_cancel, List.getD_eq_getElem?_getD, List.getElem?_eq_getElem h]
  rfl
 have before : ∀ t', t = t' + 1 → ∃ (h : t' < (spL C).length) (h1 : (spL C)[t'] < C.length), stAt (spL C) t = (spL C)[t'] + 1 ∧ C[(spL C)[t']] ∈ zbI C ∧ C[(spL C)[t']].1 < key := fun t' e => by
  have h : t' < (spL C).length := by omega
  obtain ⟨h1, h2, h3⟩ := hat t' h
  refine ⟨h, h1, by rw [e]; exact hsp t' h, ?_, ?_⟩
  ·rw [← h3]
   exact List.getElem_mem h2
  ·rw [← h3]
   exact (bat t' h2).1 (by omega)
 refine ⟨?_, ?_, ?_, ?_⟩
 ·cases t with
  | zero => exact Nat.zero_le _
  | succ t' =>
   obtain ⟨h, h1, e, _, hlt⟩ := before t' rfl
   rw [e]
   refine Nat.succ_le_of_lt (Nat.lt_of_not_le fun z => (cat _ h1).2 z hlt)
 ·rcases Nat.lt_or_ge t (spL C).length with z | z
  ·obtain ⟨h1, h2, h3⟩ := hat t z
   have hge : ¬ C[(spL C)[t]].1 < key := by
    rw [← h3]
    exact (bat t h2).2 (Nat.le_refl _)
   have hle : zaO C key ≤ (spL C)[t] := Nat.le_of_not_lt fun y => hge ((cat _ h1).1 y)
   have := hgr t z
   rw [hsp t z] at this
   omega
  ·have e : t = (spL C).length := by omega
   rw [e]
   have := zdg C key
   omega
 ·intro z
  cases t with
  | zero => exact fun e he => hall.2 e (by simpa using he)
  | succ t' =>
   obtain ⟨_, _, e, _⟩ := before t' rfl
   omega
 ·intro z
  cases t with
  | zero => exact absurd rfl z
  | succ t' =>
   obtain ⟨h, h1, e, hm, hlt⟩ := before t' rfl
   have e2 : stAt (spL C) (t' + 1) - 1 = (spL C)[t'] := by omega
   refine ⟨by omega, ?_⟩
   have e3 : C[stAt (spL C) (t' + 1) - 1]'(by omega) = C[(spL C)[t']] := by
    congr 1
   rw [e3]
   exact ⟨hm, hlt, hmem _ hm⟩
def Kp0 (H H' : Hp) : Prop := ∀ b o, (∀ tab, o ≠ .tbl tab) → H b = some o → H' b = some o
theorem zf0 {K : PySem.W.Frag} {H H' : Hp} (k : Kp0 H H') : ∀ {es : List (Int × Int)} {ws : List V}, zaj K H es ws → zaj K H' es ws
 | _, _, .nil => .nil
 | _, _, .cons h t => by
  refine .cons ?_ (zf0 k t)
  obtain ⟨a, x1, x2, rfl, hT, e1, e2⟩ := (show hasP K H _ _ from h)
  exact ⟨a, x1, x2, rfl, k _ _ (fun _ z => nomatch z) hT, e1, e2⟩
theorem ziB {K : PySem.W.Frag} {H H' : Hp} {ps : List Nat} {rows : List (List Int)} {js : List Nat} {qs : List Addr} (k : Kp0 H H') (h : zas K H ps rows js qs) : zas K H' ps rows js qs := zaQ (fun j q ⟨ws, h1, h2⟩ => ⟨ws, k _ _ (fun _ z => by cases z) h1, zf0 k h2⟩) h
def zfI (K : PySem.W.Frag) (H : Hp) (ps : List Nat) (rows : List (List Int)) : List Nat → List Addr → Prop := Paired fun j g => ∃ ws, H g = some (.lst ws) ∧ zaj K H (zbI (zak ps rows j)) ws
theorem zhh {K : PySem.W.Frag} {H H' : Hp} {ps : List Nat} {rows : List (List Int)} {js : List Nat} {qs : List Addr} (k : Kp0 H H') (h : zfI K H ps rows js qs) : zfI K H' ps rows js qs := zaQ (fun j q ⟨ws, h1, h2⟩ => ⟨ws, k _ _ (fun _ z => by cases z) h1, zf0 k h2⟩) h
theorem br_kp {H H' : Hp} {ps : List Nat} {rows : List (List Int)} {js : List Nat} {xs : List V} (k : Kp0 H H') (h : Paired (BrAt [] H ps rows) js xs) : Paired (BrAt [] H' ps rows) js xs := zaQ (fun j x ⟨b, o, j', ys, h1, h2, h3, h4, h5, h6, h7⟩ =>
 ⟨b, o, j', ys, h1, h2, h3, k _ _ (fun _ z => by cases z) h4, k _ _ (fun _ z => by cases z) h5, k _ _ (fun _ z => by cases z) h6, zaQ (fun c y ⟨a, s, g1, g2, g3, g4⟩ => ⟨a, s, g1, g2, k _ _ (fun _ z => by cases z) g3, k _ _ (fun _ z => by cases z) g4⟩) h7⟩) h
theorem za9 {β : Type} {F : Nat → β → Prop} {n : Nat} {l : List β} {k : Nat} (h : Paired F (List.range n) l) (hk : k < n) : ∃ b, l[k]? = some b ∧ F k b := zed h (List.getElem?_range hk)
theorem zit {H : Hp} {es : List En} {ps : List Nat} {rows : List (List Int)} : ∀ {cs : List Nat} {xs : List V}, Paired (zbw [] H es ps rows) cs xs → ∃ kvs : List (Key × V), Paired (fun (z : V) (kv : Key × V) => ∃ b, z = .ref b ∧ H b = some (.tup [kV kv.1, kv.2])) xs kvs ∧ kvs.map (·.1) = cs.map (fun c : Nat => (Sum.inl (c : Int) : Key)) ∧
  ∀ c ∈ cs, cs.Nodup → ∃ s, valV kvs (.inl (c : Int)) = some (.ref s) ∧ H s = some (.lst ((zfO es (zak ps rows c)).map nV))
 | _, _, .nil => ⟨[], .nil, rfl, fun c hc => nomatch hc⟩
 | c0 :: cs, _, .cons ⟨j, s, e1, _, e3, e4⟩ t => by
  obtain ⟨kvs, h1, h2, h3⟩ := zit t
  refine ⟨(.inl (c0 : Int), .ref s) :: kvs, .cons ⟨j, e1, e3⟩ h1, by rw [List.map_cons, h2]; rfl, fun c hc hn => ?_⟩
  rw [List.nodup_cons] at hn
  unfold valV
  by_cases z : c = c0
  ·subst z
   exact ⟨s, by rw [List.find?_cons_of_pos (by simp)]; rfl, e4⟩
  ·rw [List.find?_cons_of_neg (by simp; omega)]
   rcases List.mem_cons.mp hc with y | y
   ·exact absurd y z
   ·exact h3 c y hn.2
theorem ze8 (ps : List Nat) (k n : Nat) : (zaY ps k n).Nodup := by
 unfold zaY
 exact List.Pairwise.filter _ List.nodup_range
def zh6 (K : PySem.W.Frag) : Sp := fun vs H Q _ => ∃ (br : Addr) (ps : List Nat) (rows : List (List Int)) (xs : List V) (k c m : Nat), vs = [.ref br, .int k, .int c, .int m] ∧ H br = some (.lst xs) ∧ Paired (BrAt [] H ps rows) (List.range (ps.length + 1)) xs ∧ zaF ps ∧ k < ps.length + 1 ∧ par ps c = some k ∧ m ≤ (zak ps rows k).length ∧
 ∀ H', Same H H' → Q (.int (stN (zak ps rows c) ((zak ps rows k).take m) : Nat)) H'
theorem zkg (T : Txt K mg) (D_l_start : DF K mg "_law_start" zby zb9) : FC P w K mg base 1 "_law_start" zb9 (zh6 K) := by
 refine D_l_start.ok sc_l_start (fun vs H Q E h => ?_) (fun f cdv A outer s H vs Q E hr h => ?_)
 ·obtain ⟨br, ps, rows, xs, k, c, m, rfl, _⟩ := h
  rfl
 obtain ⟨br, ps, rows, xs, k, c, m, rfl, hbr, hB, hT, hk, hc, hm, q⟩ := h
 obtain ⟨x, hx, b, o, j, ys, rfl, _, _, hb, ho, hj, hJ⟩ := za9 hB hk
 obtain ⟨kvs, h1, h2, h3⟩ := zit hJ
 have hcm : c ∈ zaY ps k (ps.length + 1) := zaw.mpr ⟨(za0 hT hc).2, hc⟩
 obtain ⟨sa, hv, hsa⟩ := h3 c hcm (ze8 _ _ _)
 refine ⟨_, (zai (zaC (zaZ zaK (zdc (zdK hr) (zci (zjv rfl) rfl T.m_dict boot_dict (zaa (zaZ zcm (zaZ zaK (pv 0) (pv 1) (fun _ _ => rfl)) zaf (fun _ _ => rfl)) zae)) (pv 2) (fun _ _ => rfl)) (pv 3) (fun _ _ => rfl)))), ?_⟩
 refine ⟨_, rfl, _, rfl, _, _, _, _, rfl, rfl, SqL.of hbr, zbk hx, _, _, _, _, rfl, rfl, SqT.of hb, rfl, ?_⟩
 refine ⟨j, ys, kvs, rfl, SqL.of hj, h1, ?_, fun d hd => ?_⟩
 ·rw [h2]
  exact List.Pairwise.map (R := fun a b : Nat => a ≠ b) _ (fun a b (n : a ≠ b) z => n (by have := Sum.inl.inj z; omega)) (ze8 ps k _)
 have sd := zal hd (.dK kvs)
 refine ⟨_, rfl, d, .ref sa, rfl, ?_, ?_⟩
 ·have := DGet.k (k := (.inl (c : Int))) (zac (H := H) (a := d) (o := .dK kvs))
  rw [hv] at this
  exact this
 refine ⟨_, rfl, _, _, _, _, rfl, rfl, SqL.of (sd _ _ hsa), zbk (v := nV (stN (zak ps rows c) ((zak ps rows k).take m))) ?_, q _ sd⟩
 rw [List.getElem?_map]
 unfold zfO
 rw [List.getElem?_map, List.getElem?_range (by omega)]
 rfl
structure NP (K : PySem.W.Frag) (mp : Addr) (H : Hp) (ps : List Nat) (rows : List (List Int)) (pf pp br : Addr) (qs gs : List Addr) (xs : List V) : Prop where
 pf : H pf = some (.lst (qs.map V.ref))
 fu : zas K H ps rows (List.range (ps.length + 1)) qs
 pp : H pp = some (.lst (gs.map V.ref))
 pa : zfI K H ps rows (List.range (ps.length + 1)) gs
 br : H br = some (.lst xs)
 ba : Paired (BrAt [] H ps rows) (List.range (ps.length + 1)) xs
 tb : zbo H mp zdD lamQ
theorem NP.kp {K : PySem.W.Frag} {mp : Addr} {H H' : Hp} {ps : List Nat} {rows : List (List Int)} {pf pp br : Addr} {qs gs : List Addr} {xs : List V} (x : NP K mp H ps rows pf pp br qs gs xs) (k : Kp0 H H') (hT : zbo H' mp zdD lamQ) : NP K mp H' ps rows pf pp br qs gs xs :=
 ⟨k _ _ (fun _ z => by cases z) x.pf, ziB k x.fu, k _ _ (fun _ z => by cases z) x.pp, zhh k x.pa, k _ _ (fun _ z => by cases z) x.br, br_kp k x.ba, hT⟩
theorem NP.same {K : PySem.W.Frag} {mp : Addr} {H H' : Hp} {ps : List Nat} {rows : List (List Int)} {pf pp br : Addr} {qs gs : List Addr} {xs : List V} (x : NP K mp H ps rows pf pp br qs gs xs) (e : Same H H') : NP K mp H' ps rows pf pp br qs gs xs := x.kp (fun b o _ h => e b o h) (x.tb.ext e.ext)
theorem NP.gro {K : PySem.W.Frag} {mp : Addr} {H H' : Hp} {ps : List Nat} {rows : List (List Int)} {pf pp br : Addr} {qs gs : List Addr} {xs : List V} (x : NP K mp H ps rows pf pp br qs gs xs) (g : Gro mp H H') (hT : zbo H' mp zdD lamQ) : NP K mp H' ps rows pf pp br qs gs xs := x.kp (fun b o n h => g b o (fun z => by
 obtain ⟨tab, e2, _⟩ := x.tb.ex
 rw [← z, h] at e2
 exact n _ (Option.some.inj e2)) h) hT
def zms (K : PySem.W.Frag) (mp : Addr) : Sp := fun vs H Q _ => ∃ (ps : List Nat) (rows : List (List Int)) (pf pp br : Addr) (qs gs : List Addr) (xs : List V) (k c : Nat) (key : Int), vs = [.ref br, .ref pf, .ref pp, .int k, .int c, .int key] ∧ NP K mp H ps rows pf pp br qs gs xs ∧ zaF ps ∧ zbp rows ∧ ps.length ≤ 40 ∧ k < ps.length + 1 ∧ par ps c = some k ∧
 ∀ H', Gro mp H H' → zbo H' mp zdD lamQ → Q (.bl true) H'
theorem znh (T : Txt K mg) {mp : Addr} (D_l_near : DF K mg "_law_near" zb1 zcH) (F_place_in : FC P w K mg base 3 "place_in" zbL (zgs K mp)) (F_l_start : FC P w K mg base 1 "_law_start" zb9 (zh6 K)) : FC P w K mg base 4 "_law_near" zcH (zms K mp) := by
 refine D_l_near.ok sc_l_near (fun vs H Q E h => ?_) (fun f cdv A outer s H vs Q E hr h => ?_)
 ·obtain ⟨ps, rows, pf, pp, br, qs, gs, xs, k, c, key, rfl, _⟩ := h
  rfl
 obtain ⟨ps, rows, pf, pp, br, qs, gs, xs, k, c, key, rfl, N, hT, hR, few, hk, hc, q⟩ := h
 have hcn := (za0 hT hc).2
 have NO := znm hT hR few hk hc (rows := rows) key
 have hF := zez (zbb hT hR hk (rows := rows))
 have hC := zez (zbb hT hR hcn (rows := rows))
 refine ⟨_, (zag (zat (i := 6) sc_l_near.nd rfl (Or.inl rfl) (zaM F_place_in hr (zaa (zaZ zaK (pv 1) (pv 3) (fun _ _ => rfl)) (zaa (pv 5) zae))))
   (zag (zat (i := 7) sc_l_near.nd rfl (Or.inl rfl) (zaM F_l_start hr (zaa (pv 0) (zaa (pv 3) (zaa (pv 4) (zaa (pv 6) zae))))))
   (zag (zat (i := 8) sc_l_near.nd rfl (Or.inl rfl) (zaM F_place_in hr (zaa (zaZ zaK (pv 1) (pv 4) (fun _ _ => rfl)) (zaa (pv 5) zae))))
   (zbN (zdw (PW.pt (zog (zmD (zlC zos zos (pv 7) (pv 8) (zaD (zlb rfl) rfl T.m_min boot_min (zaa (zav zbv (pv 7) zaf) (zaa (zaZ zcm (zaZ zaK (pv 0) (pv 4) (fun _ _ => rfl)) zaf (fun _ _ => rfl)) zae))))) (zmA (zaJ op_ne (zaZ zcm (zaZ zaK (pv 0) (pv 4) (fun _ _ => rfl)) zaf (fun _ _ => rfl)) (zaD zaz rfl T.m_len boot_len (zaa (zaZ zaK (pv 1) (pv 4) (fun _ _ => rfl)) zae)) (zbc _))))) (zai (zaC zhg)) zbF)
   (zbN (zdw (zaJ zff (pv 7) zaf (zbc _)) (zai (zaC (zeP (zov (List (Int × Int)) (huD hr)) (zdJ (N := ["_law_entry", "_law_key_here"]) (own := 1) (cap := [5]) rfl (zcz (zaZ zaK (pv 2) (pv 4) (fun _ _ => rfl))) ⟨rfl, rfl, rfl, rfl, rfl, rfl⟩ (fun _ _ _ _ _ => (zaq (i := 0) (show List.Nodup (["_law_entry", "_law_key_here"] : List Str) by decide +kernel) rfl (Or.inl rfl))) (fun _ _ _ _ _ => (zeJ (zaJ zgC (zaZ (zhA (K := K)) (pv 0) zaf (fun _ _ => rfl)) (pv 1) (zbc _)))) (fun _ _ _ _ _ => (pv 0))) (zcJ zae) (zbc _)))) zbF)
   (zag (zat (i := 9) sc_l_near.nd rfl (Or.inl rfl) (zaZ zaK (zaZ zaK (pv 1) (pv 4) (fun _ _ => rfl)) (zav zcu (pv 7) zaf) (fun _ _ => rfl)))
   (zai (zaC (zmF (zeP (zmG (Int × Int) (huD hr)) (pv 9) (zaZ zaK (pv 2) (pv 4) (fun _ _ => rfl)) (by with_unfolding_all rfl)) (zmF (zeP zgC (zaZ zcm (pv 9) zaf (fun _ _ => rfl)) (pv 5) (zbc _)) (zok (zeP (zmG (Int × Int) (huD hr)) (pv 9) (zaZ zaK (pv 1) (pv 3) (fun _ _ => rfl)) (by with_unfolding_all rfl))))))))))))), ?_⟩
 obtain ⟨qk, hqk, wk, hwk, hak⟩ := za9 N.fu hk
 refine ⟨_, rfl, _, rfl, _, _, _, _, rfl, rfl, SqL.of N.pf, zbk (v := .ref qk) (by rw [List.getElem?_map, hqk]; rfl), _, rfl, qk, wk, _, key, rfl, hwk, hak, hF, N.tb, fun H1 g1 t1 => ?_⟩
 have N1 := N.gro g1 t1
 refine ⟨_, rfl, _, rfl, _, rfl, _, rfl, br, ps, rows, xs, k, c, _, rfl, N1.br, N1.ba, hT, hk, hc, zdg _ _, fun H2 s2 => ?_⟩
 have N2 := N1.same s2
 obtain ⟨qc, hqc, wc, hwc, hac⟩ := za9 N2.fu hcn
 refine ⟨_, rfl, _, rfl, _, _, _, _, rfl, rfl, SqL.of N2.pf, zbk (v := .ref qc) (by rw [List.getElem?_map, hqc]; rfl), _, rfl, qc, wc, _, key, rfl, hwc, hac, hC, N2.tb, fun H3 g3 t3 => ?_⟩
 have N3 := N2.gro g3 t3
 have g03 : Gro mp H H3 := (g1.trans (fun b o _ e => s2 b o e)).trans g3
 obtain ⟨x, hx, b, o, j, ys, rfl, _, _, hb, _, _, _⟩ := za9 N3.ba hcn
 generalize stN (zak ps rows c) ((zak ps rows k).take (zaO (zak ps rows k) key)) = st at NO ⊢
 have hlo := NO.lo
 have hhi := NO.hi
 have hbl := zdg (zak ps rows c) key
 refine ⟨fun σ' H' => σ' = [some (.ref br), some (.ref pf), some (.ref pp), some (.int k), some (.int c), some (.int key), some (.int (zaO (zak ps rows k) key : Nat)), some (.int st), some (.int (zaO (zak ps rows c) key : Nat)), none] ∧ H3 = H', ?_, ?_⟩
 ·have hatb : atI xs (c : Int) = some (.ref b) := zbk hx
  obtain ⟨qd, hqd, wd, hwd, had⟩ := za9 N3.fu hcn
  refine ⟨_, rfl, _, rfl, _, _, rfl, rfl, _, rfl, ?_⟩
  refine iteDT (by omega) ?_
  refine ⟨_, rfl, _, _, rfl, rfl, _, rfl, _, rfl, _, _, _, _, rfl, rfl, SqL.of N3.br, hatb, _, _, _, _, rfl, rfl, SqT.of hb, rfl, _, _, rfl, _, _, rfl, rfl, _, rfl, ?_⟩
  refine iteNS (by split <;> omega) ?_
  refine ⟨_, rfl, _, rfl, _, _, _, _, rfl, rfl, SqL.of N3.br, hatb, _, _, _, _, rfl, rfl, SqT.of hb, rfl, _, rfl, _, rfl, _, _, _, _, rfl, rfl, SqL.of N3.pf, zbk (v := .ref qd) (by rw [List.getElem?_map, hqd]; rfl), _, _, rfl, .inl (SqL.of hwd), rfl, _, rfl, ?_⟩
  have hdl := had.length
  refine iteNS (by rw [hdl]) ?_
  exact ⟨rfl, rfl⟩
 rintro σ' H' ⟨rfl, rfl⟩
 refine ⟨fun σ' H' => σ' = [some (.ref br), some (.ref pf), some (.ref pp), some (.int k), some (.int c), some (.int key), some (.int (zaO (zak ps rows k) key : Nat)), some (.int st), some (.int (zaO (zak ps rows c) key : Nat)), none] ∧ H3 = H' ∧ st ≠ 0, ?_, ?_⟩
 ·refine ⟨_, rfl, rfl, _, rfl, ?_⟩
  obtain ⟨gc, hgc, uc, huc, hpc⟩ := za9 N3.pa hcn
  refine ite2 (fun z => ?_) (fun z => ⟨rfl, rfl, fun e => z (decide_eq_true (by rw [e]; rfl))⟩)
  have z0 : st = 0 := by
   have := V.int.inj (of_decide_eq_true z)
   omega
  have hno := NO.none z0
  refine ⟨_, rfl, _, rfl, _, _, _, _, rfl, rfl, SqL.of N3.pp, zbk (v := .ref gc) (by rw [List.getElem?_map, hgc]; rfl), gc, rfl, ⟨_, SqL.of huc⟩, fun D hD => ?_⟩
  refine zcO (xs := uc) (fun i σ H4 => ∃ x0 : Option V, σ = [x0, some (.int key)] ∧ H4 D = some (.lst []) ∧ But D H3 H4) ?_ ?_ ?_ ?_
  ·exact ⟨_, rfl, zac, fun b o n e => by rw [zah n]; exact e⟩
  ·rintro i σ H4 _ ⟨x0, rfl, _, kk⟩
   exact kk.sq (SqL.of huc) hD
  ·rintro i n x σ H4 hx4 hn4 ⟨x0, rfl, h4, kk⟩
   have hi4 := (List.getElem?_eq_some_iff.mp hx4).1
   have s34 : Same H3 H4 := fun b o e => kk b o (zab e hD) e
   obtain ⟨e, e1, e2⟩ := (zaj.mono s34.ext hpc).get hx4
   obtain ⟨t, x1, x2, rfl, hTt, z1, z2⟩ := (show hasP K H4 e x from e2)
   have z1 : x1 = .int e.1 := z1
   subst z1
   refine ⟨_, rfl, _, _, _, _, rfl, rfl, SqT.of hTt, rfl, _, rfl, _, _, rfl, rfl, _, rfl, ?_⟩
   exact ite2 (fun y => absurd (of_decide_eq_true y) (hno e (List.mem_of_getElem? e1))) (fun _ => ⟨n - 1, by omega, by omega, _, rfl, h4, kk⟩)
  rintro σ H4 ⟨x0, rfl, h4, kk⟩
  have s34 : Same H3 H4 := fun b o e => kk b o (zab e hD) e
  refine ⟨(by show 0 ≤ sizeLine; decide), fun y hy => ?_⟩
  have sy := zal hy (.lst [])
  refine ⟨([] : List (Int × Int)), [], ⟨D, [], rfl, SqL.of (sy _ _ h4), .nil⟩, ⟨y, [], rfl, SqL.of zac, .nil⟩, ?_⟩
  rw [decide_eq_true rfl]
  exact q _ (fun b o n e => sy _ _ (s34 _ _ (g03 b o n e))) ((t3.ext s34.ext).ext sy.ext)
 rintro σ' H' ⟨rfl, rfl, hst0⟩
 obtain ⟨hl, hm1, hm2, hm3⟩ := NO.some hst0
 obtain ⟨qd, hqd, wd, hwd, had⟩ := za9 N3.fu hcn
 obtain ⟨gc, hgc, uc, huc, hpc⟩ := za9 N3.pa hcn
 obtain ⟨qu, hqu, wu, hwu, hau⟩ := za9 N3.fu hk
 obtain ⟨v, hv, hve⟩ := had.get' (List.getElem?_eq_getElem hl)
 have ev : ((st : Int) - 1) = ((st - 1 : Nat) : Int) := by omega
 obtain ⟨tv, y1, y2, rfl, hTv, q1, q2⟩ := (show hasP K H3 _ v from hve)
 have q1 : y1 = .int _ := q1
 subst q1
 refine ⟨_, rfl, _, rfl, _, _, _, _, rfl, rfl, SqL.of N3.pf, zbk (v := .ref qd) (by rw [List.getElem?_map, hqd]; rfl), _, rfl, _, _, rfl, rfl, _, _, _, _, rfl, rfl, SqL.of hwd, (by rw [ev]; exact zbk hv), ?_⟩
 refine ⟨_, rfl, _, rfl, _, rfl, _, _, _, _, rfl, rfl, SqL.of N3.pp, zbk (v := .ref gc) (by rw [List.getElem?_map, hgc]; rfl), ?_⟩
 refine ⟨gc, uc, (zak ps rows c)[st - 1], zbI (zak ps rows c), rfl, .inl (SqL.of huc), ⟨tv, _, y2, rfl, hTv, rfl, q2⟩, hpc, fun bb hbb => ?_⟩
 obtain rfl : bb = true := hbb.mpr hm1
 refine ⟨_, rfl, iteT ?_⟩
 refine ⟨_, rfl, _, _, _, _, rfl, rfl, SqT.of hTv, rfl, _, rfl, _, _, rfl, rfl, _, rfl, ?_⟩
 refine iteDT hm2 ?_
 refine ⟨_, rfl, _, rfl, _, rfl, _, _, _, _, rfl, rfl, SqL.of N3.pf, zbk (v := .ref qu) (by rw [List.getElem?_map, hqu]; rfl), qu, wu, (zak ps rows c)[st - 1], zak ps rows k, rfl, .inl (SqL.of hwu), ⟨tv, _, y2, rfl, hTv, rfl, q2⟩, hau, fun b2 hb2 => ?_⟩
 obtain rfl : b2 = true := hb2.mpr hm3
 exact q _ g03 t3
theorem zig {K : PySem.W.Frag} {H : Hp} {ps : List Nat} {rows : List (List Int)} {D : Addr} {zs : List V} {o : HO} (hD : H D = some (.lst zs)) : ∀ {js : List Nat} {gs : List Addr}, zfI K H ps rows js gs → D ∉ gs → zfI K (upd H D o) ps rows js gs
 | _, _, .nil, _ => .nil
 | _, _, .cons ⟨ws, h1, h2⟩ t, hn => by
  rw [List.mem_cons, not_or] at hn
  exact .cons ⟨ws, by rw [zah (Ne.symm hn.1)]; exact h1, zbH hD h2⟩ (zig hD t hn.2)
theorem zjg {rows : List (List Int)} {i : Nat} (h : i < rows.length) : zdx (rows.take (i + 1)) = zdx (rows.take i) + rows[i].length := by
 unfold zdx
 rw [List.take_succ_eq_append_getElem h, List.map_append, List.sum_append]
 simp
theorem zjh {rows : List (List Int)} (i : Nat) : zdx (rows.take i) ≤ zdx rows := by
 unfold zdx
 conv => rhs; rw [← List.take_append_drop i rows]
 rw [List.map_append, List.sum_append]
 omega
def zgt (K : PySem.W.Frag) (mp : Addr) : Sp := fun vs H Q _ => ∃ (a : Addr) (ns : List Int), vs = [.ref a] ∧ SqL K H a (ns.map V.int) ∧ ns.length ≤ 63 ∧ H mp = some (.tbl #[]) ∧ ∀ H', Q (.bl true) H'
theorem zoy (T : Txt K mg) {mp : Addr} (D_law : DF K mg "law" zew zfs) (F_l_begin : FC P w K mg base 1 "_law_begin" zcc (zjX K)) (F_l_stand : FC P w K mg base 6 "_law_stand" zca (zjU K)) (F_full_rows : FC P w K mg base 8 "full_rows" zbe (zhd K)) (F_handed : FC P w K mg base 6 "handed" zch (zfP K)) (F_bridges : FC P w K mg base 9 "bridges" zce (spBr K)) (F_l_near : FC P w K mg base 4 "_law_near" zcH (zms K mp)) : FC P w K mg base 10 "law" zfs (zgt K mp) := by
 refine D_law.ok sc_law (fun vs H Q E h => ?_) (fun f cdv A outer s H vs Q E hr h => ?_)
 ·obtain ⟨a, ns, rfl, _⟩ := h
  rfl
 obtain ⟨a, ns, rfl, hS, _, hmp, q⟩ := h
 have hT0 : zbo H mp zdD lamQ := ⟨#[], hmp, trivial, .inl rfl⟩
 refine ⟨_, (zag (zat (i := 1) sc_law.nd rfl (Or.inl rfl) (zaM F_l_begin hr (zaa (pv 0) zae)))
   (zag (zat (i := 2) sc_law.nd rfl (Or.inl rfl) (zaM F_l_stand hr (zaa (pv 1) (zaa zaf (zaa zaf zae)))))
   (zag (zj7 (pv 2) (zgA rfl (zbO (zaq (i := 3) sc_law.nd rfl (Or.inl rfl)) (zbO (zaq (i := 4) sc_law.nd rfl (Or.inl rfl)) zeO))))
   (zag (zat (i := 5) sc_law.nd rfl (Or.inl rfl) (zaM F_full_rows hr (zaa (pv 2) zae)))
   (zag (zeK (i := 6) (N := ["_law_entries"]) (own := 1) (cap := []) sc_law.nd rfl rfl rfl (zcz (pv 5)) ⟨rfl, rfl, rfl, rfl, rfl, rfl⟩ (fun _ _ _ _ _ => (zaq (i := 0) (show List.Nodup (["_law_entries"] : List Str) by decide +kernel) rfl (Or.inl rfl))) (fun _ _ _ _ _ => zdI) (fun _ _ _ _ _ => (zaM F_handed hr (zaa (pv 0) zae))))
   (zag (zat (i := 7) sc_law.nd rfl (Or.inl rfl) (zaM F_bridges hr (zaa (pv 2) zae)))
   (zag (zat (i := 8) sc_law.nd rfl (Or.inl rfl) (zcJ (zaa zaf zae)))
   (zag (zbu PassesOwn.never rfl (zeN (pv 4)) (zaq (i := 9) sc_law.nd rfl (Or.inl rfl)) (zai (zbu PassesOwn.never rfl (zeN (pv 9)) (zaq (i := 10) sc_law.nd rfl (Or.inl rfl)) (zai (zat (i := 8) sc_law.nd rfl (Or.inl rfl) (zav zmH (pv 8) (zdJ (N := ["_law_one"]) (own := 1) (cap := []) rfl (zeN (zdU (zaa (zav zcu (pv 10) zaf) (zaa (pv 10) (zaa (zav zbv (pv 10) zaf) zae))))) ⟨rfl, rfl, rfl, rfl, rfl, rfl⟩ (fun _ _ _ _ _ => (zaq (i := 0) (show List.Nodup (["_law_one"] : List Str) by decide +kernel) rfl (Or.inl rfl))) (fun _ _ _ _ _ => (zeJ (zaJ zgC (zaD zgi rfl T.m_abs boot_abs (zaa (pv 0) zae)) (zav zfu zaf zaf) (zbc _)))) (fun _ _ _ _ _ => (pv 0)))))))))
   (zag (zbu PassesOwn.never rfl (zcz (zaD (zjt rfl) rfl T.m_sorted boot_sorted (zaa (zci (zk9 rfl) rfl T.m_set boot_set (zaa (pv 8) zae)) zae))) (zaq (i := 10) sc_law.nd rfl (Or.inl rfl)) (zai (zbu PassesOwn.never rfl (zdT rfl T.m_range (zaa zaf (zaa (zaD zaz rfl T.m_len boot_len (zaa (pv 3) zae)) zae))) (zaq (i := 11) sc_law.nd rfl (Or.inl rfl)) (zai (zdw (zmD (zj6 (zaM F_l_near hr (zaa (pv 7) (zaa (pv 5) (zaa (pv 6) (zaa (zaZ zcm (pv 3) (pv 11) (fun _ _ => rfl)) (zaa (pv 11) (zaa (pv 10) zae))))))))) (zai (zaC zhg)) zbF)))))
   (zai (zaC zhg))))))))))), ?_⟩
 refine ⟨_, rfl, a, ns, rfl, hS, fun d H1 _ g1 s1 => ?_⟩
 refine ⟨_, rfl, d, a, 8, 7, rfl, by decide, by decide, by decide, s1, fun st ps rows t rs as H2 hst S k2 s2 => ?_⟩
 have hT2 : zbo H2 mp zdD lamQ := (hT0.ext g1.ext).ext (s1.ext k2)
 have hfew := S.few
 have hkeys := S.keys
 have hlen := S.len
 refine ⟨_, rfl, st, _, rfl, SqT.of S.st, rfl, _, _, rfl, _, _, rfl, rfl, ?_⟩
 refine ⟨_, rfl, st, ps, rows, t, rs, as, rfl, S, fun pf qs H3 hpf s3 h3 _ _ _ hF => ?_⟩
 have S3 := S.same s3
 have hql := Paired.length hF
 rw [List.length_range] at hql
 refine ⟨_, rfl, pf, rfl, ⟨_, SqL.of h3⟩, fun D hD => ?_⟩
 refine zcO (xs := qs.map V.ref) (fun i σ H4 => ∃ (gs : List Addr) (x0 : Option V), σ = [x0] ∧ H4 D = some (.lst (gs.map V.ref)) ∧ zfI K H4 ps rows (List.range i) gs ∧ D ∉ gs ∧ But D H3 H4) ?_ ?_ ?_ ?_
 ·exact ⟨[], _, rfl, zac, .nil, by simp, fun b o n e => by rw [zah n]; exact e⟩
 ·rintro i σ H4 _ ⟨gs, x0, rfl, _, _, _, kk⟩
  exact kk.sq (SqL.of h3) hD
 ·rintro i m x σ H4 hx hm ⟨gs, x0, rfl, h4, hP, hDg, kk⟩
  have s34 : Same H3 H4 := fun b o e => kk b o (zab e hD) e
  rw [List.getElem?_map] at hx
  obtain ⟨qi, hqi, rfl⟩ := Option.map_eq_some_iff.mp hx
  have hi : i < ps.length + 1 := by
   have := (List.getElem?_eq_some_iff.mp hqi).1
   omega
  obtain ⟨qi', hqi', wi, hwi, hai⟩ := za9 hF hi
  obtain rfl : qi = qi' := Option.some.inj (hqi.symm.trans hqi')
  have hm2 : (qs.map V.ref).length = qs.length := List.length_map _
  have hle := ze0 S.T S.len (rows := rows) hi
  have hgl := Paired.length hP
  rw [List.length_range] at hgl
  refine zeX ?_
  refine ⟨_, rfl, qi, wi, zak ps rows i, rfl, s34 _ _ hwi, zaj.mono s34.ext hai, by omega, zd1 S.T S.R hfew hi, zbb S.T S.R hi, fun g H5 hg s5 h5 => ?_⟩
  have nDg : D ≠ g := zab h4 hg
  have h5D := s5 _ _ h4
  have hpg : zaj K H5 (zbI (zak ps rows i)) (zcN wi (zbU (zak ps rows i))) := zaj.mono s5.ext (zgb (zaj.mono s34.ext hai))
  refine ⟨_, h5D, zau (by rw [List.length_map]; omega), m - 1, by omega, by omega, gs ++ [g], _, rfl, ?_, ?_, ?_, fun b o n e => by rw [zah n]; exact s5 _ _ (kk b o n e)⟩
  ·rw [zac, List.map_append]
   rfl
  ·rw [List.range_succ]
   exact zcW (zig h5D (zhh (fun b o _ e => s5 b o e) hP) hDg) ⟨_, by rw [zah (Ne.symm nDg)]; exact h5, zbH h5D hpg⟩
  ·rw [List.mem_append, List.mem_singleton, not_or]
   exact ⟨hDg, nDg⟩
 rintro σ H4 ⟨gs, x0, rfl, h4, hP, hDg, kk⟩
 have s34 : Same H3 H4 := fun b o e => kk b o (zab e hD) e
 rw [List.length_map, ← hql] at hP
 have S4 := S3.same s34
 refine ⟨_, rfl, st, ps, rows, t, rs, as, rfl, S4, fun br xs H5 _ s5 h5 hB => ?_⟩
 refine ⟨(by show 1 ≤ sizeLine; decide), fun ke0 hke0 => ?_⟩
 have sk := zal hke0 (.lst [.int 0])
 have s45 := s5.trans sk
 have s35 := s34.trans s45
 have N : NP K mp (upd H5 ke0 (.lst [.int 0])) ps rows pf D br qs gs xs := ⟨s35 _ _ h3, ziB (fun b o _ e => s35 b o e) hF, s45 _ _ h4, zhh (fun b o _ e => s45 b o e) hP, sk _ _ h5, br_kp (fun b o _ e => sk b o e) hB, (hT2.ext s3.ext).ext s35.ext⟩
 have S6 := S4.same s45
 have hke : upd H5 ke0 (.lst [.int 0]) ke0 = some (.lst [.int 0]) := zac
 clear h3 hF h4 hP h5 hB s45 s35 sk s5 s34 kk hDg S4 S3 hke0
 generalize upd H5 ke0 (.lst [.int 0]) = H6 at N S6 hke ⊢
 have hal := S6.at_.length
 refine ⟨_, rfl, rs, rfl, ⟨_, SqT.of S6.rs⟩, ?_⟩
 refine zge (xs := as.map V.ref) (fun i σ H7 => ∃ (ke : Addr) (ns : List Int) (x9 x10 : Option V), σ = [some (.ref a), some (.ref d), some (.ref st), some (.ref t), some (.ref rs), some (.ref pf), some (.ref D), some (.ref br), some (.ref ke), x9, x10, none] ∧ H7 ke = some (.lst (ns.map V.int)) ∧ ns.length ≤ 1 + 3 * zdx (rows.take i) ∧ Same H6 H7) ?_ ?_ ?_ ?_
 ·exact ⟨ke0, [0], _, _, rfl, hke, by show 1 ≤ 1 + _; omega, fun b o e => e⟩
 ·rintro i σ H7 _ ⟨ke, ns, x9, x10, rfl, h7, hnl, s7⟩
  exact SqT.of (s7 _ _ S6.rs)
 ·rintro i x σ H7 hx ⟨ke, ns, x9, x10, rfl, h7, hnl, s7⟩
  rw [List.getElem?_map] at hx
  obtain ⟨b, hb, rfl⟩ := Option.map_eq_some_iff.mp hx
  have hi : i < rows.length := by
   have := (List.getElem?_eq_some_iff.mp hb).1
   omega
  obtain ⟨b', hb', hbr⟩ := S6.at_.get hi
  obtain rfl : b = b' := Option.some.inj (hb.symm.trans hb')
  have hbr7 := s7 _ _ hbr
  have hrl : rows[i].length = (zb3 rows i).length := by
   unfold zb3
   rw [List.getD_eq_getElem?_getD, List.getElem?_eq_getElem hi]
   rfl
  have hkt := zjg hi
  have hkp := zjh (rows := rows) (i + 1)
  rw [hrl] at hkt
  refine ⟨_, rfl, b, rfl, ⟨_, SqT.of hbr7⟩, ?_⟩
  refine zge (xs := (zb3 rows i).map V.int) (fun j σ H8 => ∃ (ke : Addr) (ns : List Int) (x10 : Option V), σ = [some (.ref a), some (.ref d), some (.ref st), some (.ref t), some (.ref rs), some (.ref pf), some (.ref D), some (.ref br), some (.ref ke), some (.ref b), x10, none] ∧ H8 ke = some (.lst (ns.map V.int)) ∧ ns.length ≤ 1 + 3 * zdx (rows.take i) + 3 * j ∧ Same H6 H8) ?_ ?_ ?_ ?_
  ·exact ⟨ke, ns, _, rfl, h7, by omega, s7⟩
  ·rintro j σ H8 _ ⟨ke, ns, x10, rfl, h8, hnl, s8⟩
   exact SqT.of (s8 _ _ hbr)
  ·rintro j x σ H8 hx8 ⟨ke, ns, x10, rfl, h8, hnl, s8⟩
   have hj := (List.getElem?_eq_some_iff.mp hx8).1
   rw [List.length_map] at hj
   rw [List.getElem?_map] at hx8
   obtain ⟨kk, _, rfl⟩ := Option.map_eq_some_iff.mp hx8
   refine ⟨_, rfl, _, rfl, _, _, rfl, rfl, _, rfl, _, rfl, _, _, rfl, rfl, ?_⟩
   refine ⟨(by show 3 ≤ sizeLine; decide), fun tp htp => ?_⟩
   have st8 := zal htp (.tup [.int (kk - 1), .int kk, .int (kk + 1)])
   refine ⟨tp, rfl, ⟨_, SqT.of zac⟩, fun D2 hD2 => ?_⟩
   have h8t : upd H8 tp (.tup [.int (kk - 1), .int kk, .int (kk + 1)]) tp = some (.tup [.int (kk - 1), .int kk, .int (kk + 1)]) := zac
   generalize upd H8 tp (.tup [.int (kk - 1), .int kk, .int (kk + 1)]) = H9 at st8 hD2 h8t ⊢
   refine zgh (xs := [.int (kk - 1), .int kk, .int (kk + 1)]) (fun i σ H10 => ∃ (ms : List Int) (x0 : Option V), σ = [x0] ∧ H10 D2 = some (.lst (ms.map V.int)) ∧ ms.length ≤ i ∧ But D2 H9 H10) ?_ ?_ ?_ ?_
   ·exact ⟨[], _, rfl, zac, Nat.le_refl _, fun b o n e => by rw [zah n]; exact e⟩
   ·rintro i σ H10 _ ⟨ms, x0, rfl, _, _, kk9⟩
    exact SqT.of (kk9 _ _ (zab h8t hD2) h8t)
   ·rintro i m x σ H10 hx9 hm ⟨ms, x0, rfl, h9, hml, kk9⟩
    have hi9 := (List.getElem?_eq_some_iff.mp hx9).1
    obtain ⟨k, rfl⟩ : ∃ k : Int, x = .int k := by
     have := List.mem_of_getElem? hx9
     simp only [List.mem_cons, List.not_mem_nil, or_false] at this
     rcases this with z | z | z <;> exact ⟨_, z⟩
    have h3 : [V.int (kk - 1), V.int kk, V.int (kk + 1)].length = 3 := rfl
    refine ⟨_, rfl, k, rfl, _, _, rfl, rfl, (by walk_at "side"), _, _, rfl, rfl, _, rfl, ?_⟩
    refine ite2 (fun _ => ?_) (fun _ => ⟨m - 1, by omega, by omega, ms, _, rfl, h9, by omega, kk9⟩)
    refine ⟨_, rfl, _, h9, zau (by rw [List.length_map]; omega), m - 1, by omega, by omega, ms ++ [k], _, rfl, ?_, by rw [List.length_append, List.length_singleton]; omega, fun b o n e => by rw [zah n]; exact kk9 b o n e⟩
    rw [zac, List.map_append]
    rfl
   rintro σ H10 ⟨ms, x0, rfl, h9, hml, kk9⟩
   have h3 : [V.int (kk - 1), V.int kk, V.int (kk + 1)].length = 3 := rfl
   have s810 : Same H8 H10 := fun b o eb => kk9 b o (zab (st8 _ _ eb) hD2) (st8 _ _ eb)
   refine ⟨ke, D2, _, _, rfl, rfl, s810 _ _ h8, h9, (by rw [List.length_map, List.length_map, sizeLine_eq]; omega), fun c hc => ?_⟩
   refine ⟨c, ns ++ ms, _, rfl, ?_, by rw [List.length_append]; omega, (s8.trans s810).trans (zal hc _)⟩
   rw [zac, List.map_append]
  rintro σ H8 ⟨ke, ns, x10, rfl, h8, hnl, s8⟩
  rw [List.length_map] at hnl
  exact ⟨ke, ns, _, _, rfl, h8, by omega, s8⟩
 rintro σ H7 ⟨ke, ns, x9, x10, rfl, h7, hnl, s7⟩
 rw [List.length_map, List.take_of_length_le (by omega)] at hnl
 refine ⟨_, rfl, ke, ns, rfl, SqL.of h7, by omega, fun l o hl hWS => ?_⟩
 refine ⟨l, o, _, _, rfl, zac, hWS, fun so hso => ?_⟩
 have sl := zal hl (.frz o (.set (fun k => (metI ns).any (· == k)) (metI ns).length))
 have sso := zal hso (.lst ((zcp (metI ns)).map V.int))
 have s68 := (s7.trans sl).trans sso
 have h8 : upd (upd H7 l (.frz o (.set (fun k => (metI ns).any (· == k)) (metI ns).length))) so (.lst ((zcp (metI ns)).map V.int)) so = some (.lst ((zcp (metI ns)).map V.int)) := zac
 refine ⟨so, rfl, ⟨_, SqL.of zac⟩, ?_⟩
 generalize upd (upd H7 l (.frz o (.set (fun k => (metI ns).any (· == k)) (metI ns).length))) so (.lst ((zcp (metI ns)).map V.int)) = H8 at s68 h8 ⊢
 generalize zcp (metI ns) = ks at h8 ⊢
 have N8 := N.same s68
 have tr8 := s68 _ _ S6.tr
 have nmp : ∀ {x : Addr} {o : HO}, H8 x = some o → (∀ tab, o ≠ .tbl tab) → x ≠ mp := fun {x o} e n z => by
  obtain ⟨tab, e2, _⟩ := N8.tb.ex
  rw [← z, e] at e2
  exact n _ (Option.some.inj e2)
 refine zeD (xs := ks.map V.int) (fun i σ H9 => ∃ (y10 y11 : Option V), σ = [some (.ref a), some (.ref d), some (.ref st), some (.ref t), some (.ref rs), some (.ref pf), some (.ref D), some (.ref br), some (.ref ke), x9, y10, y11] ∧ Gro mp H8 H9 ∧ zbo H9 mp zdD lamQ) ?_ ?_ ?_ ?_
 ·exact ⟨_, _, rfl, fun b o _ e => e, N8.tb⟩
 ·rintro i σ H9 _ ⟨y10, y11, rfl, g9, _⟩
  exact SqL.of (g9 _ _ (nmp h8 (fun _ z => nomatch z)) h8)
 ·rintro i x σ H9 hx ⟨y10, y11, rfl, g9, hT9⟩
  rw [List.getElem?_map] at hx
  obtain ⟨key, hk, rfl⟩ := Option.map_eq_some_iff.mp hx
  have tr9 := g9 _ _ (nmp tr8 (fun _ z => by cases z)) tr8
  refine ⟨_, rfl, _, _, rfl, .inr (SqT.of tr9), 1, _, rfl, ⟨by omega, by omega, by omega, by rw [zaG]; omega⟩, ?_⟩
  have en : ((((zdv ps).length : Nat) : Int) - 1).toNat = ps.length := by
   rw [zaG]
   omega
  rw [en]
  refine zbS (n := ps.length) (fun j σ H10 => ∃ y11 : Option V, σ = [some (.ref a), some (.ref d), some (.ref st), some (.ref t), some (.ref rs), some (.ref pf), some (.ref D), some (.ref br), some (.ref ke), x9, some (.int key), y11] ∧ Gro mp H8 H10 ∧ zbo H10 mp zdD lamQ) ?_ ?_ ?_
  ·exact ⟨_, rfl, g9, hT9⟩
  ·rintro j σ H10 hj ⟨y11, rfl, g10, hT10⟩
   have e1 : (1 : Int) + (j : Int) = ((j + 1 : Nat) : Int) := by omega
   rw [e1]
   obtain ⟨k, hkp⟩ := zfZ (ps := ps) (k := j + 1) (by omega) (by omega)
   have hkl := za0 S.T hkp
   have tr10 := g10 _ _ (nmp tr8 (fun _ z => by cases z)) tr8
   refine ⟨_, rfl, _, rfl, _, rfl, _, rfl, _, rfl, _, _, _, _, rfl, rfl, SqT.of tr10, zhT (by omega), _, rfl, _, rfl, ps, rows, pf, D, br, qs, gs, xs, k, j + 1, key, by rw [zhi.mpr hkp]; rfl, N8.gro g10 hT10, S.T, S.R, hfew, by omega, hkp, fun H11 g11 t11 => ⟨_, rfl, ?_⟩⟩
   exact iteF ⟨_, rfl, g10.trans g11, t11⟩
  rintro σ H10 ⟨y11, rfl, g10, hT10⟩
  exact ⟨_, _, rfl, g10, hT10⟩
 rintro σ H9 ⟨y10, y11, rfl, g9, hT9⟩
 exact q _
abbrev lawRoom : Nat := 10
theorem all_ok (T : Txt K mg) {mc mp : Addr} (hBM : BMAt mg base) (D_code : DF K mg "code" zdQ zec) (D_how_many_below : DF K mg "how_many_below" zay zaL) (D_place_in : DFT K mg "place_in" za8 zbL mc mp) (D_joined_up : DF K mg "joined_up" za3 zbt) (D_lowest_unlike : DF K mg "lowest_unlike" zaB zaP) (D_turned : DF K mg "turned" zbW zcD) (D_labels : DF K mg "labels" zbX zcE) (D_neighbours : DF K mg "neighbours" zaR za6) (D_least_free : DF K mg "least_free" zaS zbh) (D_colours : DF K mg "colours" zbC zcd) (D_marks : DF K mg "marks" zcT zdj) (D_handed : DF K mg "handed" zb2 zch) (D_children : DF K mg "children" zbg zbr) (D_beneath : DF K mg "beneath" zbE zcf) (D_own_entries : DF K mg "own_entries" zaI zba) (D_full_rows_beneath : DF K mg "full_rows_beneath" zao zaE) (D_full_rows : DF K mg "full_rows" za4 zbe) (D_owns_of : DF K mg "owns_of" zbx zb8) (D_starts_of : DF K mg "starts_of" za2 zbs) (D_bridges_of : DF K mg "bridges_of" zaT zbi) (D_bridges : DF K mg "bridges" zbD zce) (D_l_begin : DF K mg "_law_begin" zbB zcc) (D_l_mixed : DF K mg "_law_mixed" zbA zcb) (D_l_take : DF K mg "_law_take" zbZ zbG) (D_l_key : DF K mg "_law_key" zcV zdl) (D_l_tree : DF K mg "_law_tree" zbY zcF) (D_l_row : DF K mg "_law_row" zcU zdk) (D_l_rows : DF K mg "_law_rows" zb0 zcG) (D_l_stand : DF K mg "_law_stand" zbz zca) (D_l_start : DF K mg "_law_start" zby zb9) (D_l_near : DF K mg "_law_near" zb1 zcH) (D_law : DF K mg "law" zew zfs) : FC P w K mg base 10 "law" zfs (zgt K mp) :=
 have m := zlI (P := P) (w := w) (base := base) T D_l_mixed
 have t := znf T D_l_take m
 have c := znj (P := P) (w := w) (base := base) T D_code
 have nb := zf4 (P := P) (w := w) (base := base) T D_neighbours
 have mk := zlJ T D_marks (zki T D_labels c (zke T D_turned (zox T D_lowest_unlike))) (zi5 T D_colours nb (zf5 T D_least_free)) nb
 have ch := zhl (P := P) (w := w) (base := base) T D_children
 have hd := zkk T D_handed mk
 have fr := zoB T D_full_rows_beneath (zi7 T D_beneath) ch hd (zow T D_own_entries) (zkj T D_joined_up)
 have fu := zlM T D_full_rows fr
 have br := zi6 T D_bridges fu (znk T D_bridges_of ch (zkf T D_starts_of) (zng T D_owns_of))
 have ls := zkh T D_l_stand (zlK T D_l_tree t) (zlL T D_l_rows t (zni T D_l_row t (zoz T D_l_key t)))
 have pl := zi4 (P := P) (w := w) (base := base) T D_place_in hBM (fun b => zoA (base := b) T D_how_many_below)
 zoy T D_law (zlN T D_l_begin) ls fu hd br (znh (mp := mp) T D_l_near pl (zkg T D_l_start))
end
theorem all_mk {l : PySem.W.OpenLaw} {w : World} {K : PySem.W.Frag} {h : Heap} {mg : Str → Option Value} {fa f1 f2 f3 f4 f5 f6 f7 f8 f9 f10 f11 f12 f13 f14 f15 f16 f17 f18 f19 f20 f21 f22 f23 f24 f25 f26 f27 f28 f29 f30 f31 f32 mc3 mp3 : Addr} (X : K.In h) (G : h.Ns mainGlobals mg) (hfa : mg "law" = some (.ref fa))
  {od1 an1 od2 an2 od3 an3 od4 an4 od5 an5 od6 an6 od7 an7 od8 an8 od9 an9 od10 an10 od11 an11 od12 an12 od13 an13 od14 an14 od15 an15 od16 an16 od17 an17 od18 an18 od19 an19 od20 an20 od21 an21 od22 an22 od23 an23 od24 an24 od25 an25 od26 an26 od27 an27 od28 an28 od29 an29 od30 an30 od31 an31 od32 an32 : Option Addr} {sl1 sl2 sl3 sl4 sl5 sl6 sl7 sl8 sl9 sl10 sl11 sl12 sl13 sl14 sl15 sl16 sl17 sl18 sl19 sl20 sl21 sl22 sl23 sl24 sl25 sl26 sl27 sl28 sl29 sl30 sl31 sl32 : Array (Option Value)} {oc1 kV1 dc1 pm1 cd1 ct1 oc2 kV2 dc2 pm2 cd2 ct2 oc3 kV3 dc3 pm3 cd3 ct3 oc4 kV4 dc4 pm4 cd4 ct4 oc5 kV5 dc5 pm5 cd5 ct5 oc6 kV6 dc6 pm6 cd6 ct6 oc7 kV7 dc7 pm7 cd7 ct7 oc8 kV8 dc8 pm8 cd8 ct8 oc9 kV9 dc9 pm9 cd9 ct9 oc10 kV10 dc10 pm10 cd10 ct10 oc11 kV11 dc11 pm11 cd11 ct11 oc12 kV12 dc12 pm12 cd12 ct12 oc13 kV13 dc13 pm13 cd13 ct13 oc14 kV14 dc14 pm14 cd14 ct14 oc15 kV15 dc15 pm15 cd15 ct15 oc16 kV16 dc16 pm16 cd16 ct16 oc17 kV17 dc17 pm17 cd17 ct17 oc18 kV18 dc18 pm18 cd18 ct18 oc19 kV19 dc19 pm19 cd19 ct19 oc20 kV20 dc20 pm20 cd20 ct20 oc21 kV21 dc21 pm21 cd21 ct21 oc22 kV22 dc22 pm22 cd22 ct22 oc23 kV23 dc23 pm23 cd23 ct23 oc24 kV24 dc24 pm24 cd24 ct24 oc25 kV25 dc25 pm25 cd25 ct25 oc26 kV26 dc26 pm26 cd26 ct26 oc27 kV27 dc27 pm27 cd27 ct27 oc28 kV28 dc28 pm28 cd28 ct28 oc29 kV29 dc29 pm29 cd29 ct29 oc30 kV30 dc30 pm30 cd30 ct30 oc31 kV31 dc31 pm31 cd31 ct31 oc32 kV32 dc32 pm32 cd32 ct32 : Value} {t_KNOT_NUMBERS : Tok} {t_TURNS : Tok}
  (a1 : PySem.W.nsIn K mainGlobals "code" = some (some (.ref f1))) (l1 : K.lookup f1 = some ⟨oc1, od1, .func (PySem.W.fnOf "code" "code" (zap zdQ) (zan zdQ) (zad zdQ) .none kV1 dc1 pm1 an1 cd1 ct1), sl1⟩) (c1 : PySem.W.codeIn K cd1 "code" = true) (k1 : PySem.W.keepIn K (.ref f1) = true)
  (a2 : PySem.W.nsIn K mainGlobals "how_many_below" = some (some (.ref f2))) (l2 : K.lookup f2 = some ⟨oc2, od2, .func (PySem.W.fnOf "how_many_below" "how_many_below" (zap zay) (zan zay) (zad zay) .none kV2 dc2 pm2 an2 cd2 ct2), sl2⟩) (c2 : PySem.W.codeIn K cd2 "how_many_below" = true) (k2 : PySem.W.keepIn K (.ref f2) = true)
  (a3 : PySem.W.nsIn K mainGlobals "place_in" = some (some (.ref f3))) (l3 : K.lookup f3 = some ⟨oc3, od3, .func (PySem.W.fnOf "place_in" "place_in" (zap za8) (zan za8) (zad za8) .none kV3 dc3 pm3 an3 cd3 ct3), sl3⟩) (c3 : PySem.W.codeIn K cd3 "place_in" = true) (k3 : PySem.W.keepIn K (.ref f3) = true)
  (a4 : PySem.W.nsIn K mainGlobals "joined_up" = some (some (.ref f4))) (l4 : K.lookup f4 = some ⟨oc4, od4, .func (PySem.W.fnOf "joined_up" "joined_up" (zap za3) (zan za3) (zad za3) .none kV4 dc4 pm4 an4 cd4 ct4), sl4⟩) (c4 : PySem.W.codeIn K cd4 "joined_up" = true) (k4 : PySem.W.keepIn K (.ref f4) = true)
  (a5 : PySem.W.nsIn K mainGlobals "lowest_unlike" = some (some (.ref f5))) (l5 : K.lookup f5 = some ⟨oc5, od5, .func (PySem.W.fnOf "lowest_unlike" "lowest_unlike" (zap zaB) (zan zaB) (zad zaB) .none kV5 dc5 pm5 an5 cd5 ct5), sl5⟩) (c5 : PySem.W.codeIn K cd5 "lowest_unlike" = true) (k5 : PySem.W.keepIn K (.ref f5) = true)
  (a6 : PySem.W.nsIn K mainGlobals "turned" = some (some (.ref f6))) (l6 : K.lookup f6 = some ⟨oc6, od6, .func (PySem.W.fnOf "turned" "turned" (zap zbW) (zan zbW) (zad zbW) .none kV6 dc6 pm6 an6 cd6 ct6), sl6⟩) (c6 : PySem.W.codeIn K cd6 "turned" = true) (k6 : PySem.W.keepIn K (.ref f6) = true)
  (a7 : PySem.W.nsIn K mainGlobals "labels" = some (some (.ref f7))) (l7 : K.lookup f7 = some ⟨oc7, od7, .func (PySem.W.fnOf "labels" "labels" (zap zbX) (zan zbX) (zad zbX) .none kV7 dc7 pm7 an7 cd7 ct7), sl7⟩) (c7 : PySem.W.codeIn K cd7 "labels" = true) (k7 : PySem.W.keepIn K (.ref f7) = true)
  (a8 : PySem.W.nsIn K mainGlobals "neighbours" = some (some (.ref f8))) (l8 : K.lookup f8 = some ⟨oc8, od8, .func (PySem.W.fnOf "neighbours" "neighbours" (zap zaR) (zan zaR) (zad zaR) .none kV8 dc8 pm8 an8 cd8 ct8), sl8⟩) (c8 : PySem.W.codeIn K cd8 "neighbours" = true) (k8 : PySem.W.keepIn K (.ref f8) = true)
  (a9 : PySem.W.nsIn K mainGlobals "least_free" = some (some (.ref f9))) (l9 : K.lookup f9 = some ⟨oc9, od9, .func (PySem.W.fnOf "least_free" "least_free" (zap zaS) (zan zaS) (zad zaS) .none kV9 dc9 pm9 an9 cd9 ct9), sl9⟩) (c9 : PySem.W.codeIn K cd9 "least_free" = true) (k9 : PySem.W.keepIn K (.ref f9) = true)
  (a10 : PySem.W.nsIn K mainGlobals "colours" = some (some (.ref f10))) (l10 : K.lookup f10 = some ⟨oc10, od10, .func (PySem.W.fnOf "colours" "colours" (zap zbC) (zan zbC) (zad zbC) .none kV10 dc10 pm10 an10 cd10 ct10), sl10⟩) (c10 : PySem.W.codeIn K cd10 "colours" = true) (k10 : PySem.W.keepIn K (.ref f10) = true)
  (a11 : PySem.W.nsIn K mainGlobals "marks" = some (some (.ref f11))) (l11 : K.lookup f11 = some ⟨oc11, od11, .func (PySem.W.fnOf "marks" "marks" (zap zcT) (zan zcT) (zad zcT) .none kV11 dc11 pm11 an11 cd11 ct11), sl11⟩) (c11 : PySem.W.codeIn K cd11 "marks" = true) (k11 : PySem.W.keepIn K (.ref f11) = true)
  (a12 : PySem.W.nsIn K mainGlobals "handed" = some (some (.ref f12))) (l12 : K.lookup f12 = some ⟨oc12, od12, .func (PySem.W.fnOf "handed" "handed" (zap zb2) (zan zb2) (zad zb2) .none kV12 dc12 pm12 an12 cd12 ct12), sl12⟩) (c12 : PySem.W.codeIn K cd12 "handed" = true) (k12 : PySem.W.keepIn K (.ref f12) = true)
  (a13 : PySem.W.nsIn K mainGlobals "children" = some (some (.ref f13))) (l13 : K.lookup f13 = some ⟨oc13, od13, .func (PySem.W.fnOf "children" "children" (zap zbg) (zan zbg) (zad zbg) .none kV13 dc13 pm13 an13 cd13 ct13), sl13⟩) (c13 : PySem.W.codeIn K cd13 "children" = true) (k13 : PySem.W.keepIn K (.ref f13) = true)
  (a14 : PySem.W.nsIn K mainGlobals "beneath" = some (some (.ref f14))) (l14 : K.lookup f14 = some ⟨oc14, od14, .func (PySem.W.fnOf "beneath" "beneath" (zap zbE) (zan zbE) (zad zbE) .none kV14 dc14 pm14 an14 cd14 ct14), sl14⟩) (c14 : PySem.W.codeIn K cd14 "beneath" = true) (k14 : PySem.W.keepIn K (.ref f14) = true)
  (a15 : PySem.W.nsIn K mainGlobals "own_entries" = some (some (.ref f15))) (l15 : K.lookup f15 = some ⟨oc15, od15, .func (PySem.W.fnOf "own_entries" "own_entries" (zap zaI) (zan zaI) (zad zaI) .none kV15 dc15 pm15 an15 cd15 ct15), sl15⟩) (c15 : PySem.W.codeIn K cd15 "own_entries" = true) (k15 : PySem.W.keepIn K (.ref f15) = true)
  (a16 : PySem.W.nsIn K mainGlobals "full_rows_beneath" = some (some (.ref f16))) (l16 : K.lookup f16 = some ⟨oc16, od16, .func (PySem.W.fnOf "full_rows_beneath" "full_rows_beneath" (zap zao) (zan zao) (zad zao) .none kV16 dc16 pm16 an16 cd16 ct16), sl16⟩) (c16 : PySem.W.codeIn K cd16 "full_rows_beneath" = true) (k16 : PySem.W.keepIn K (.ref f16) = true)
  (a17 : PySem.W.nsIn K mainGlobals "full_rows" = some (some (.ref f17))) (l17 : K.lookup f17 = some ⟨oc17, od17, .func (PySem.W.fnOf "full_rows" "full_rows" (zap za4) (zan za4) (zad za4) .none kV17 dc17 pm17 an17 cd17 ct17), sl17⟩) (c17 : PySem.W.codeIn K cd17 "full_rows" = true) (k17 : PySem.W.keepIn K (.ref f17) = true)
  (a18 : PySem.W.nsIn K mainGlobals "owns_of" = some (some (.ref f18))) (l18 : K.lookup f18 = some ⟨oc18, od18, .func (PySem.W.fnOf "owns_of" "owns_of" (zap zbx) (zan zbx) (zad zbx) .none kV18 dc18 pm18 an18 cd18 ct18), sl18⟩) (c18 : PySem.W.codeIn K cd18 "owns_of" = true) (k18 : PySem.W.keepIn K (.ref f18) = true)
  (a19 : PySem.W.nsIn K mainGlobals "starts_of" = some (some (.ref f19))) (l19 : K.lookup f19 = some ⟨oc19, od19, .func (PySem.W.fnOf "starts_of" "starts_of" (zap za2) (zan za2) (zad za2) .none kV19 dc19 pm19 an19 cd19 ct19), sl19⟩) (c19 : PySem.W.codeIn K cd19 "starts_of" = true) (k19 : PySem.W.keepIn K (.ref f19) = true)
  (a20 : PySem.W.nsIn K mainGlobals "bridges_of" = some (some (.ref f20))) (l20 : K.lookup f20 = some ⟨oc20, od20, .func (PySem.W.fnOf "bridges_of" "bridges_of" (zap zaT) (zan zaT) (zad zaT) .none kV20 dc20 pm20 an20 cd20 ct20), sl20⟩) (c20 : PySem.W.codeIn K cd20 "bridges_of" = true) (k20 : PySem.W.keepIn K (.ref f20) = true)
  (a21 : PySem.W.nsIn K mainGlobals "bridges" = some (some (.ref f21))) (l21 : K.lookup f21 = some ⟨oc21, od21, .func (PySem.W.fnOf "bridges" "bridges" (zap zbD) (zan zbD) (zad zbD) .none kV21 dc21 pm21 an21 cd21 ct21), sl21⟩) (c21 : PySem.W.codeIn K cd21 "bridges" = true) (k21 : PySem.W.keepIn K (.ref f21) = true)
  (a22 : PySem.W.nsIn K mainGlobals "_law_begin" = some (some (.ref f22))) (l22 : K.lookup f22 = some ⟨oc22, od22, .func (PySem.W.fnOf "_law_begin" "_law_begin" (zap zbB) (zan zbB) (zad zbB) .none kV22 dc22 pm22 an22 cd22 ct22), sl22⟩) (c22 : PySem.W.codeIn K cd22 "_law_begin" = true) (k22 : PySem.W.keepIn K (.ref f22) = true)
  (a23 : PySem.W.nsIn K mainGlobals "_law_mixed" = some (some (.ref f23))) (l23 : K.lookup f23 = some ⟨oc23, od23, .func (PySem.W.fnOf "_law_mixed" "_law_mixed" (zap zbA) (zan zbA) (zad zbA) .none kV23 dc23 pm23 an23 cd23 ct23), sl23⟩) (c23 : PySem.W.codeIn K cd23 "_law_mixed" = true) (k23 : PySem.W.keepIn K (.ref f23) = true)
  (a24 : PySem.W.nsIn K mainGlobals "_law_take" = some (some (.ref f24))) (l24 : K.lookup f24 = some ⟨oc24, od24, .func (PySem.W.fnOf "_law_take" "_law_take" (zap zbZ) (zan zbZ) (zad zbZ) .none kV24 dc24 pm24 an24 cd24 ct24), sl24⟩) (c24 : PySem.W.codeIn K cd24 "_law_take" = true) (k24 : PySem.W.keepIn K (.ref f24) = true)
  (a25 : PySem.W.nsIn K mainGlobals "_law_key" = some (some (.ref f25))) (l25 : K.lookup f25 = some ⟨oc25, od25, .func (PySem.W.fnOf "_law_key" "_law_key" (zap zcV) (zan zcV) (zad zcV) .none kV25 dc25 pm25 an25 cd25 ct25), sl25⟩) (c25 : PySem.W.codeIn K cd25 "_law_key" = true) (k25 : PySem.W.keepIn K (.ref f25) = true)
  (a26 : PySem.W.nsIn K mainGlobals "_law_tree" = some (some (.ref f26))) (l26 : K.lookup f26 = some ⟨oc26, od26, .func (PySem.W.fnOf "_law_tree" "_law_tree" (zap zbY) (zan zbY) (zad zbY) .none kV26 dc26 pm26 an26 cd26 ct26), sl26⟩) (c26 : PySem.W.codeIn K cd26 "_law_tree" = true) (k26 : PySem.W.keepIn K (.ref f26) = true)
  (a27 : PySem.W.nsIn K mainGlobals "_law_row" = some (some (.ref f27))) (l27 : K.lookup f27 = some ⟨oc27, od27, .func (PySem.W.fnOf "_law_row" "_law_row" (zap zcU) (zan zcU) (zad zcU) .none kV27 dc27 pm27 an27 cd27 ct27), sl27⟩) (c27 : PySem.W.codeIn K cd27 "_law_row" = true) (k27 : PySem.W.keepIn K (.ref f27) = true)
  (a28 : PySem.W.nsIn K mainGlobals "_law_rows" = some (some (.ref f28))) (l28 : K.lookup f28 = some ⟨oc28, od28, .func (PySem.W.fnOf "_law_rows" "_law_rows" (zap zb0) (zan zb0) (zad zb0) .none kV28 dc28 pm28 an28 cd28 ct28), sl28⟩) (c28 : PySem.W.codeIn K cd28 "_law_rows" = true) (k28 : PySem.W.keepIn K (.ref f28) = true)
  (a29 : PySem.W.nsIn K mainGlobals "_law_stand" = some (some (.ref f29))) (l29 : K.lookup f29 = some ⟨oc29, od29, .func (PySem.W.fnOf "_law_stand" "_law_stand" (zap zbz) (zan zbz) (zad zbz) .none kV29 dc29 pm29 an29 cd29 ct29), sl29⟩) (c29 : PySem.W.codeIn K cd29 "_law_stand" = true) (k29 : PySem.W.keepIn K (.ref f29) = true)
  (a30 : PySem.W.nsIn K mainGlobals "_law_start" = some (some (.ref f30))) (l30 : K.lookup f30 = some ⟨oc30, od30, .func (PySem.W.fnOf "_law_start" "_law_start" (zap zby) (zan zby) (zad zby) .none kV30 dc30 pm30 an30 cd30 ct30), sl30⟩) (c30 : PySem.W.codeIn K cd30 "_law_start" = true) (k30 : PySem.W.keepIn K (.ref f30) = true)
  (a31 : PySem.W.nsIn K mainGlobals "_law_near" = some (some (.ref f31))) (l31 : K.lookup f31 = some ⟨oc31, od31, .func (PySem.W.fnOf "_law_near" "_law_near" (zap zb1) (zan zb1) (zad zb1) .none kV31 dc31 pm31 an31 cd31 ct31), sl31⟩) (c31 : PySem.W.codeIn K cd31 "_law_near" = true) (k31 : PySem.W.keepIn K (.ref f31) = true)
  (a32 : PySem.W.nsIn K mainGlobals "law" = some (some (.ref f32))) (l32 : K.lookup f32 = some ⟨oc32, od32, .func (PySem.W.fnOf "law" "law" (zap zew) (zan zew) (zad zew) .none kV32 dc32 pm32 an32 cd32 ct32), sl32⟩) (c32 : PySem.W.codeIn K cd32 "law" = true) (k32 : PySem.W.keepIn K (.ref f32) = true)
  (t3 : PySem.W.tabIn K "place_in" = some (mc3, mp3)) (h3 : PySem.W.codeHdIn K mc3 mp3 = true)
  (z_abs : PySem.W.nsIn K mainGlobals "abs" = some none)
  (z_dict : PySem.W.nsIn K mainGlobals "dict" = some none)
  (z_enumerate : PySem.W.nsIn K mainGlobals "enumerate" = some none)
  (z_len : PySem.W.nsIn K mainGlobals "len" = some none)
  (z_list : PySem.W.nsIn K mainGlobals "list" = some none)
  (z_max : PySem.W.nsIn K mainGlobals "max" = some none)
  (z_min : PySem.W.nsIn K mainGlobals "min" = some none)
  (z_range : PySem.W.nsIn K mainGlobals "range" = some none)
  (z_reversed : PySem.W.nsIn K mainGlobals "reversed" = some none)
  (z_set : PySem.W.nsIn K mainGlobals "set" = some none)
  (z_sorted : PySem.W.nsIn K mainGlobals "sorted" = some none)
  (z_tuple : PySem.W.nsIn K mainGlobals "tuple" = some none)
  (z_zip : PySem.W.nsIn K mainGlobals "zip" = some none)
  (y_KNOT_NUMBERS : PySem.W.nsIn K mainGlobals "KNOT_NUMBERS" = some (some (.int 64 t_KNOT_NUMBERS)))
  (y_TURNS : PySem.W.nsIn K mainGlobals "TURNS" = some (some (.int 5 t_TURNS))) :
  ∃ fd : FuncData, (∀ (s : Shared) (v : Value), BindsTo s fd ⟨[v], []⟩ [("_law_script", v)]) ∧ ∀ base : Heap, K.In base → base.Ns mainGlobals mg → L2.BMAt mg base → FnOk l.prog w K mg base CX0 lawRoom fa fd ["_law_script"] (zgt K mp3) := by
 have e := hfa.symm.trans (PySem.W.mg_of X G a32)
 cases e
 have D_code : DF K mg "code" zdQ zec := ⟨_, _, zam (st := zdQ) l1 c1 k1, (zam (st := zdQ) l1 c1 k1).binds (ps := zec) (fun _ _ _ _ _ _ us hl => match us, hl with | [_], _ => rfl), PySem.W.mg_of X G a1⟩
 have D_how_many_below : DF K mg "how_many_below" zay zaL := ⟨_, _, zam (st := zay) l2 c2 k2, (zam (st := zay) l2 c2 k2).binds (ps := zaL) (fun _ _ _ _ _ _ us hl => match us, hl with | [_, _], _ => rfl), PySem.W.mg_of X G a2⟩
 have E_place_in := L2.zlw a3 l3 t3
 have E2_place_in : cd3 = .ref mc3 := E_place_in
 subst E2_place_in
 have D_place_in : DFT K mg "place_in" za8 zbL mc3 mp3 := ⟨⟨_, _, _, _, _, _, _, _, _, l3, c3, k3, PySem.W.mg_of X G a3, (zam (st := za8) l3 c3 k3).binds (ps := zbL) (fun _ _ _ _ _ _ us hl => match us, hl with | [_, _], _ => rfl)⟩, h3⟩
 have D_joined_up : DF K mg "joined_up" za3 zbt := ⟨_, _, zam (st := za3) l4 c4 k4, (zam (st := za3) l4 c4 k4).binds (ps := zbt) (fun _ _ _ _ _ _ us hl => match us, hl with | [_], _ => rfl), PySem.W.mg_of X G a4⟩
 have D_lowest_unlike : DF K mg "lowest_unlike" zaB zaP := ⟨_, _, zam (st := zaB) l5 c5 k5, (zam (st := zaB) l5 c5 k5).binds (ps := zaP) (fun _ _ _ _ _ _ us hl => match us, hl with | [_, _], _ => rfl), PySem.W.mg_of X G a5⟩
 have D_turned : DF K mg "turned" zbW zcD := ⟨_, _, zam (st := zbW) l6 c6 k6, (zam (st := zbW) l6 c6 k6).binds (ps := zcD) (fun _ _ _ _ _ _ us hl => match us, hl with | [_], _ => rfl), PySem.W.mg_of X G a6⟩
 have D_labels : DF K mg "labels" zbX zcE := ⟨_, _, zam (st := zbX) l7 c7 k7, (zam (st := zbX) l7 c7 k7).binds (ps := zcE) (fun _ _ _ _ _ _ us hl => match us, hl with | [_], _ => rfl), PySem.W.mg_of X G a7⟩
 have D_neighbours : DF K mg "neighbours" zaR za6 := ⟨_, _, zam (st := zaR) l8 c8 k8, (zam (st := zaR) l8 c8 k8).binds (ps := za6) (fun _ _ _ _ _ _ us hl => match us, hl with | [_, _], _ => rfl), PySem.W.mg_of X G a8⟩
 have D_least_free : DF K mg "least_free" zaS zbh := ⟨_, _, zam (st := zaS) l9 c9 k9, (zam (st := zaS) l9 c9 k9).binds (ps := zbh) (fun _ _ _ _ _ _ us hl => match us, hl with | [_], _ => rfl), PySem.W.mg_of X G a9⟩
 have D_colours : DF K mg "colours" zbC zcd := ⟨_, _, zam (st := zbC) l10 c10 k10, (zam (st := zbC) l10 c10 k10).binds (ps := zcd) (fun _ _ _ _ _ _ us hl => match us, hl with | [_], _ => rfl), PySem.W.mg_of X G a10⟩
 have D_marks : DF K mg "marks" zcT zdj := ⟨_, _, zam (st := zcT) l11 c11 k11, (zam (st := zcT) l11 c11 k11).binds (ps := zdj) (fun _ _ _ _ _ _ us hl => match us, hl with | [_], _ => rfl), PySem.W.mg_of X G a11⟩
 have D_handed : DF K mg "handed" zb2 zch := ⟨_, _, zam (st := zb2) l12 c12 k12, (zam (st := zb2) l12 c12 k12).binds (ps := zch) (fun _ _ _ _ _ _ us hl => match us, hl with | [_], _ => rfl), PySem.W.mg_of X G a12⟩
 have D_children : DF K mg "children" zbg zbr := ⟨_, _, zam (st := zbg) l13 c13 k13, (zam (st := zbg) l13 c13 k13).binds (ps := zbr) (fun _ _ _ _ _ _ us hl => match us, hl with | [_, _], _ => rfl), PySem.W.mg_of X G a13⟩
 have D_beneath : DF K mg "beneath" zbE zcf := ⟨_, _, zam (st := zbE) l14 c14 k14, (zam (st := zbE) l14 c14 k14).binds (ps := zcf) (fun _ _ _ _ _ _ us hl => match us, hl with | [_, _], _ => rfl), PySem.W.mg_of X G a14⟩
 have D_own_entries : DF K mg "own_entries" zaI zba := ⟨_, _, zam (st := zaI) l15 c15 k15, (zam (st := zaI) l15 c15 k15).binds (ps := zba) (fun _ _ _ _ _ _ us hl => match us, hl with | [_, _], _ => rfl), PySem.W.mg_of X G a15⟩
 have D_full_rows_beneath : DF K mg "full_rows_beneath" zao zaE := ⟨_, _, zam (st := zao) l16 c16 k16, (zam (st := zao) l16 c16 k16).binds (ps := zaE) (fun _ _ _ _ _ _ us hl => match us, hl with | [_, _], _ => rfl), PySem.W.mg_of X G a16⟩
 have D_full_rows : DF K mg "full_rows" za4 zbe := ⟨_, _, zam (st := za4) l17 c17 k17, (zam (st := za4) l17 c17 k17).binds (ps := zbe) (fun _ _ _ _ _ _ us hl => match us, hl with | [_], _ => rfl), PySem.W.mg_of X G a17⟩
 have D_owns_of : DF K mg "owns_of" zbx zb8 := ⟨_, _, zam (st := zbx) l18 c18 k18, (zam (st := zbx) l18 c18 k18).binds (ps := zb8) (fun _ _ _ _ _ _ us hl => match us, hl with | [_, _], _ => rfl), PySem.W.mg_of X G a18⟩
 have D_starts_of : DF K mg "starts_of" za2 zbs := ⟨_, _, zam (st := za2) l19 c19 k19, (zam (st := za2) l19 c19 k19).binds (ps := zbs) (fun _ _ _ _ _ _ us hl => match us, hl with | [_, _], _ => rfl), PySem.W.mg_of X G a19⟩
 have D_bridges_of : DF K mg "bridges_of" zaT zbi := ⟨_, _, zam (st := zaT) l20 c20 k20, (zam (st := zaT) l20 c20 k20).binds (ps := zbi) (fun _ _ _ _ _ _ us hl => match us, hl with | [_, _], _ => rfl), PySem.W.mg_of X G a20⟩
 have D_bridges : DF K mg "bridges" zbD zce := ⟨_, _, zam (st := zbD) l21 c21 k21, (zam (st := zbD) l21 c21 k21).binds (ps := zce) (fun _ _ _ _ _ _ us hl => match us, hl with | [_], _ => rfl), PySem.W.mg_of X G a21⟩
 have D_l_begin : DF K mg "_law_begin" zbB zcc := ⟨_, _, zam (st := zbB) l22 c22 k22, (zam (st := zbB) l22 c22 k22).binds (ps := zcc) (fun _ _ _ _ _ _ us hl => match us, hl with | [_], _ => rfl), PySem.W.mg_of X G a22⟩
 have D_l_mixed : DF K mg "_law_mixed" zbA zcb := ⟨_, _, zam (st := zbA) l23 c23 k23, (zam (st := zbA) l23 c23 k23).binds (ps := zcb) (fun _ _ _ _ _ _ us hl => match us, hl with | [_, _], _ => rfl), PySem.W.mg_of X G a23⟩
 have D_l_take : DF K mg "_law_take" zbZ zbG := ⟨_, _, zam (st := zbZ) l24 c24 k24, (zam (st := zbZ) l24 c24 k24).binds (ps := zbG) (fun _ _ _ _ _ _ us hl => match us, hl with | [_, _], _ => rfl), PySem.W.mg_of X G a24⟩
 have D_l_key : DF K mg "_law_key" zcV zdl := ⟨_, _, zam (st := zcV) l25 c25 k25, (zam (st := zcV) l25 c25 k25).binds (ps := zdl) (fun _ _ _ _ _ _ us hl => match us, hl with | [_], _ => rfl), PySem.W.mg_of X G a25⟩
 have D_l_tree : DF K mg "_law_tree" zbY zcF := ⟨_, _, zam (st := zbY) l26 c26 k26, (zam (st := zbY) l26 c26 k26).binds (ps := zcF) (fun _ _ _ _ _ _ us hl => match us, hl with | [_, _], _ => rfl), PySem.W.mg_of X G a26⟩
 have D_l_row : DF K mg "_law_row" zcU zdk := ⟨_, _, zam (st := zcU) l27 c27 k27, (zam (st := zcU) l27 c27 k27).binds (ps := zdk) (fun _ _ _ _ _ _ us hl => match us, hl with | [_, _], _ => rfl), PySem.W.mg_of X G a27⟩
 have D_l_rows : DF K mg "_law_rows" zb0 zcG := ⟨_, _, zam (st := zb0) l28 c28 k28, (zam (st := zb0) l28 c28 k28).binds (ps := zcG) (fun _ _ _ _ _ _ us hl => match us, hl with | [_, _, _], _ => rfl), PySem.W.mg_of X G a28⟩
 have D_l_stand : DF K mg "_law_stand" zbz zca := ⟨_, _, zam (st := zbz) l29 c29 k29, (zam (st := zbz) l29 c29 k29).binds (ps := zca) (fun _ _ _ _ _ _ us hl => match us, hl with | [_, _, _], _ => rfl), PySem.W.mg_of X G a29⟩
 have D_l_start : DF K mg "_law_start" zby zb9 := ⟨_, _, zam (st := zby) l30 c30 k30, (zam (st := zby) l30 c30 k30).binds (ps := zb9) (fun _ _ _ _ _ _ us hl => match us, hl with | [_, _, _, _], _ => rfl), PySem.W.mg_of X G a30⟩
 have D_l_near : DF K mg "_law_near" zb1 zcH := ⟨_, _, zam (st := zb1) l31 c31 k31, (zam (st := zb1) l31 c31 k31).binds (ps := zcH) (fun _ _ _ _ _ _ us hl => match us, hl with | [_, _, _, _, _, _], _ => rfl), PySem.W.mg_of X G a31⟩
 have D_law : DF K mg "law" zew zfs := ⟨_, _, zam (st := zew) l32 c32 k32, (zam (st := zew) l32 c32 k32).binds (ps := zfs) (fun _ _ _ _ _ _ us hl => match us, hl with | [_], _ => rfl), PySem.W.mg_of X G a32⟩
 have T : Txt K mg := ⟨PySem.W.mg_none_of X G z_abs, PySem.W.mg_none_of X G z_dict, PySem.W.mg_none_of X G z_enumerate, PySem.W.mg_none_of X G z_len, PySem.W.mg_none_of X G z_list, PySem.W.mg_none_of X G z_max, PySem.W.mg_none_of X G z_min, PySem.W.mg_none_of X G z_range, PySem.W.mg_none_of X G z_reversed, PySem.W.mg_none_of X G z_set, PySem.W.mg_none_of X G z_sorted, PySem.W.mg_none_of X G z_tuple, PySem.W.mg_none_of X G z_zip, ⟨_, PySem.W.mg_of X G y_KNOT_NUMBERS⟩, ⟨_, PySem.W.mg_of X G y_TURNS⟩⟩
 refine ⟨PySem.W.fnOf "law" "law" (zap zew) (zan zew) (zad zew) .none kV32 dc32 pm32 an32 cd32 ct32, fun s v => .of_eq rfl, fun base _ _ hBM => ?_⟩
 exact (all_ok (P := l.prog) (w := w) (base := base) T hBM D_code D_how_many_below D_place_in D_joined_up D_lowest_unlike D_turned D_labels D_neighbours D_least_free D_colours D_marks D_handed D_children D_beneath D_own_entries D_full_rows_beneath D_full_rows D_owns_of D_starts_of D_bridges_of D_bridges D_l_begin D_l_mixed D_l_take D_l_key D_l_tree D_l_row D_l_rows D_l_stand D_l_start D_l_near D_law).at (PySem.W.mg_of X G a32) l32
theorem walk {l : PySem.W.OpenLaw} {q : Program} {loose : List Str} {XP : (Str → Option Value) → Heap → Prop} {YP : World → Heap → Prop} {d : DefRec} {K : Params → PySem.W.Frag} {mc mp : Addr} (hn : l.most = some 63) (hdf : d.params.defaults = [])
  (hY : ∀ (w : World) (h : Heap), YP w h → (K w.params).In h) (hYT : ∀ (w : World) (h : Heap), YP w h → h.get? mp = some (PySem.W.tabObj #[])) (hC : ∀ (w : World), PySem.W.codeHdIn (K w.params) mc mp = true) (hC2 : ∀ (w : World), (K w.params).lookup mp = none)
  (F : ∀ (w : World) (mg : Str → Option Value) (fa : Addr) (h : Heap), (K w.params).In h → h.Ns mainGlobals mg → mg d.name = some (.ref fa) →
   ∃ fd : FuncData, (∀ (s : Shared) (u : Value), BindsTo s fd ⟨[u], []⟩ [("_law_script", u)]) ∧ ∀ base : Heap, (K w.params).In base → base.Ns mainGlobals mg → L2.BMAt mg base → FnOk l.prog w (K w.params) mg base CX0 lawRoom fa fd ["_law_script"] (zgt (K w.params) mp)) :
  PySem.W.WalkO q loose XP YP l.row.toRowW d [] (fun f vs => PySem.call f vs) :=
 L2.zlr (n := 63) (k := lawRoom) (x := "_law_script") (tabs := [(mc, mp)]) (sp := fun w => zgt (K w.params) mp) hn (by decide) hdf ⟨rfl, by decide, by decide⟩ hY (fun w h Y q hq => by rw [List.mem_singleton.mp hq]; exact hYT w h Y) (fun w q hq => by rw [List.mem_singleton.mp hq]; exact ⟨hC w, hC2 w⟩) F (fun _ _ a ns hl hT hS => ⟨a, ns, rfl, hS, hl, hT (mc, mp) (List.mem_singleton.mpr rfl), fun _ => rfl⟩)
end My
open PySem PySem.W PyProof.Rows
def PySem.W.Fast.tw9162197473235687191 : Nat := 0
def PySem.W.Fast.tw11788360946771243371 : Nat := 0
def PySem.W.Fast.tw10894091233857373778 : Nat := 0
def PySem.W.Fast.tw5448419987585761426 : Nat := 0
def PySem.W.Fast.tw15475873595424347245 : Nat := 0
def PySem.W.Fast.tw6116703042601123917 : Nat := 0
def PySem.W.Fast.tw12910626059193672576 : Nat := 0
def PySem.W.Fast.tw12209515876462972909 : Nat := 0
def PySem.W.Fast.tw7698888961377572054 : Nat := 0
def PySem.W.Fast.tw8243618862777843724 : Nat := 0
def PySem.W.Fast.tw10651633810619582204 : Nat := 0
def PySem.W.Fast.tw17497045854500511183 : Nat := 0
set_option maxRecDepth 100000 in
set_option maxHeartbeats 0 in
theorem PySem.Challenge.cw_bridgefind_k31_whole_places_lie_near_the_holds : PySem.Challenge.rw_bridgefind_k31_whole_places_lie_near_the.Holds := by
 w_on; o_law; k_head; (case hw => w_witness2)
 k_fill
 refine My.walk (l := PySem.Challenge.rw_bridgefind_k31_whole_places_lie_near_the) (mc := 34) (mp := 30) rfl rfl (fun w h Y => PySem.W.km_in_of Y) (fun w h Y => PySem.W.km_tabs_of Y 30 List.mem_cons_self) (fun w => by kernel_rfl) (fun w => by kernel_rfl) ?F
 case F =>
  intro w mg fa h KX G hmg
  refine' My.all_mk (mc3 := 34) (mp3 := 30) KX G hmg ?a1 ?l1 ?c1 ?k1 ?a2 ?l2 ?c2 ?k2 ?a3 ?l3 ?c3 ?k3 ?a4 ?l4 ?c4 ?k4 ?a5 ?l5 ?c5 ?k5 ?a6 ?l6 ?c6 ?k6 ?a7 ?l7 ?c7 ?k7 ?a8 ?l8 ?c8 ?k8 ?a9 ?l9 ?c9 ?k9 ?a10 ?l10 ?c10 ?k10 ?a11 ?l11 ?c11 ?k11 ?a12 ?l12 ?c12 ?k12 ?a13 ?l13 ?c13 ?k13 ?a14 ?l14 ?c14 ?k14 ?a15 ?l15 ?c15 ?k15 ?a16 ?l16 ?c16 ?k16 ?a17 ?l17 ?c17 ?k17 ?a18 ?l18 ?c18 ?k18 ?a19 ?l19 ?c19 ?k19 ?a20 ?l20 ?c20 ?k20 ?a21 ?l21 ?c21 ?k21 ?a22 ?l22 ?c22 ?k22 ?a23 ?l23 ?c23 ?k23 ?a24 ?l24 ?c24 ?k24 ?a25 ?l25 ?c25 ?k25 ?a26 ?l26 ?c26 ?k26 ?a27 ?l27 ?c27 ?k27 ?a28 ?l28 ?c28 ?k28 ?a29 ?l29 ?c29 ?k29 ?a30 ?l30 ?c30 ?k30 ?a31 ?l31 ?c31 ?k31 ?a32 ?l32 ?c32 ?k32 ?t3 ?h3 ?z_abs ?z_dict ?z_enumerate ?z_len ?z_list ?z_max ?z_min ?z_range ?z_reversed ?z_set ?z_sorted ?z_tuple ?z_zip ?y_KNOT_NUMBERS ?y_TURNS
  (case a1 => k_is)
  (case l1 => k_is)
  (case c1 => k_is)
  (case k1 => k_is)
  (case a2 => k_is)
  (case l2 => k_is)
  (case c2 => k_is)
  (case k2 => k_is)
  (case a3 => k_is)
  (case l3 => k_is)
  (case c3 => k_is)
  (case k3 => k_is)
  (case a4 => k_is)
  (case l4 => k_is)
  (case c4 => k_is)
  (case k4 => k_is)
  (case a5 => k_is)
  (case l5 => k_is)
  (case c5 => k_is)
  (case k5 => k_is)
  (case a6 => k_is)
  (case l6 => k_is)
  (case c6 => k_is)
  (case k6 => k_is)
  (case a7 => k_is)
  (case l7 => k_is)
  (case c7 => k_is)
  (case k7 => k_is)
  (case a8 => k_is)
  (case l8 => k_is)
  (case c8 => k_is)
  (case k8 => k_is)
  (case a9 => k_is)
  (case l9 => k_is)
  (case c9 => k_is)
  (case k9 => k_is)
  (case a10 => k_is)
  (case l10 => k_is)
  (case c10 => k_is)
  (case k10 => k_is)
  (case a11 => k_is)
  (case l11 => k_is)
  (case c11 => k_is)
  (case k11 => k_is)
  (case a12 => k_is)
  (case l12 => k_is)
  (case c12 => k_is)
  (case k12 => k_is)
  (case a13 => k_is)
  (case l13 => k_is)
  (case c13 => k_is)
  (case k13 => k_is)
  (case a14 => k_is)
  (case l14 => k_is)
  (case c14 => k_is)
  (case k14 => k_is)
  (case a15 => k_is)
  (case l15 => k_is)
  (case c15 => k_is)
  (case k15 => k_is)
  (case a16 => k_is)
  (case l16 => k_is)
  (case c16 => k_is)
  (case k16 => k_is)
  (case a17 => k_is)
  (case l17 => k_is)
  (case c17 => k_is)
  (case k17 => k_is)
  (case a18 => k_is)
  (case l18 => k_is)
  (case c18 => k_is)
  (case k18 => k_is)
  (case a19 => k_is)
  (case l19 => k_is)
  (case c19 => k_is)
  (case k19 => k_is)
  (case a20 => k_is)
  (case l20 => k_is)
  (case c20 => k_is)
  (case k20 => k_is)
  (case a21 => k_is)
  (case l21 => k_is)
  (case c21 => k_is)
  (case k21 => k_is)
  (case a22 => k_is)
  (case l22 => k_is)
  (case c22 => k_is)
  (case k22 => k_is)
  (case a23 => k_is)
  (case l23 => k_is)
  (case c23 => k_is)
  (case k23 => k_is)
  (case a24 => k_is)
  (case l24 => k_is)
  (case c24 => k_is)
  (case k24 => k_is)
  (case a25 => k_is)
  (case l25 => k_is)
  (case c25 => k_is)
  (case k25 => k_is)
  (case a26 => k_is)
  (case l26 => k_is)
  (case c26 => k_is)
  (case k26 => k_is)
  (case a27 => k_is)
  (case l27 => k_is)
  (case c27 => k_is)
  (case k27 => k_is)
  (case a28 => k_is)
  (case l28 => k_is)
  (case c28 => k_is)
  (case k28 => k_is)
  (case a29 => k_is)
  (case l29 => k_is)
  (case c29 => k_is)
  (case k29 => k_is)
  (case a30 => k_is)
  (case l30 => k_is)
  (case c30 => k_is)
  (case k30 => k_is)
  (case a31 => k_is)
  (case l31 => k_is)
  (case c31 => k_is)
  (case k31 => k_is)
  (case a32 => k_is)
  (case l32 => k_is)
  (case c32 => k_is)
  (case k32 => k_is)
  (case t3 => kernel_rfl)
  (case h3 => kernel_rfl)
  (case z_abs => k_is)
  (case z_dict => k_is)
  (case z_enumerate => k_is)
  (case z_len => k_is)
  (case z_list => k_is)
  (case z_max => k_is)
  (case z_min => k_is)
  (case z_range => k_is)
  (case z_reversed => k_is)
  (case z_set => k_is)
  (case z_sorted => k_is)
  (case z_tuple => k_is)
  (case z_zip => k_is)
  (case y_KNOT_NUMBERS => k_is)
  (case y_TURNS => k_is)

