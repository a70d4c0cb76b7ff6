import PyProof.Rows.All
import Wide.All
import OpenK.AllK
import Wide.FinOn
import PyProof.EqAt
import PyProof.EqKinds
import PyProof.TupleCall
import PyProof.NeKinds
import Lean
import PySem.Challenge.RW_bridgefind_k75_whole_searches_carried_al
set_option Elab.async false
set_option linter.all false
set_option maxRecDepth 100000
local macro_rules | `(tactic| omega)=>`(tactic| lia)
namespace L2
open PySem PySem.Spec PyProof.Rows
abbrev Key:=Sum Int Str
def zif : Key→Value→Bool
  | .inl k,v=>Value.isInt k v
  | .inr x,v=>Value.isStrOf x v
def keyH (w : World) : Key→Int
  | .inl k=>hashInt k
  | .inr x=>hashStr w x
theorem zaR : ∀ {k : Key} {v : Value},zif k v = true→(∃ i t,k = Sum.inl i∧v = Value.int i t)∨(∃ x t,k = Sum.inr x∧v = Value.str x t)
  | .inl i,v,h=>by
    obtain ⟨t,e⟩:=Value.isInt_shape (k:=i) (v:=v) h
    exact .inl ⟨i,t,rfl,e⟩
  | .inr x,v,h=>by
    obtain ⟨t,e⟩:=Value.isStrOf_shape (x:=x) (v:=v) h
    exact .inr ⟨x,t,rfl,e⟩
theorem zlC (i : Int) (t : Tok) : zif (.inl i) (.int i t) = true:=by simp [zif,Value.isInt]
theorem zlB (x : Str) (t : Tok) : zif (.inr x) (.str x t) = true:=by simp [zif,Value.isStrOf]
theorem key_ll (a b : Int) : decide ((Sum.inl a : Key) = Sum.inl b) = (a == b):=by
  by_cases e : a = b
  · subst e; simp
  · have h : ¬ (Sum.inl a : Key) = Sum.inl b:=fun q=>e (Sum.inl.inj q)
    rw [decide_eq_false h]
    exact (beq_eq_false_iff_ne.mpr e).symm
theorem key_rr (a b : Str) : decide ((Sum.inr a : Key) = Sum.inr b) = decide (a = b):=by
  by_cases e : a = b
  · subst e; simp
  · have h : ¬ (Sum.inr a : Key) = Sum.inr b:=fun q=>e (Sum.inr.inj q)
    rw [decide_eq_false h,decide_eq_false e]
theorem key_lr (a : Int) (b : Str) : decide ((Sum.inl a : Key) = Sum.inr b) = false:=decide_eq_false (fun q=>nomatch q)
theorem key_rl (a : Str) (b : Int) : decide ((Sum.inr a : Key) = Sum.inl b) = false:=decide_eq_false (fun q=>nomatch q)
def zaD (prog : Program) (w : World) : PySem.KeyKind prog w Key where
  is:=zif
  hash:=keyH w
  inj:=fun v a b ha hb=>by
    rcases zaR ha with ⟨i,t,rfl,rfl⟩ | ⟨x,t,rfl,rfl⟩
    · rcases zaR hb with ⟨j,u,rfl,e⟩ | ⟨y,u,rfl,e⟩
      · injection e with e1 _; rw [e1]
      · exact nomatch e
    · rcases zaR hb with ⟨j,u,rfl,e⟩ | ⟨y,u,rfl,e⟩
      · exact nomatch e
      · injection e with e1 _; rw [e1]
  byValue:=fun k v h=>by
    rcases zaR h with ⟨i,t,rfl,rfl⟩ | ⟨x,t,rfl,rfl⟩ <;> rfl
  pyHash:=fun hv h=>by
    rcases zaR hv with ⟨i,t,rfl,rfl⟩ | ⟨x,t,rfl,rfl⟩
    · exact wpAny_pyHash_int h
    · exact wpAny_pyHash_str h
  eqBool:=fun hu hv h=>by
    rcases zaR hu with ⟨i,t,rfl,rfl⟩ | ⟨x,t,rfl,rfl⟩
    · rcases zaR hv with ⟨j,u,rfl,rfl⟩ | ⟨y,u,rfl,rfl⟩
      · rw [key_ll] at h; exact wpAny_eqBool_int h
      · rw [key_lr] at h; exact SeqAt.EqAt.int_str i t y u _ _ _ _ h
    · rcases zaR hv with ⟨j,u,rfl,rfl⟩ | ⟨y,u,rfl,rfl⟩
      · rw [key_rl] at h; exact SeqAt.EqAt.str_int x t j u _ _ _ _ h
      · rw [key_rr] at h; exact wpAny_eqBool_str h
  «strs»:=fun k x t v h=>by
    rcases zaR h with ⟨i,u,rfl,e⟩ | ⟨y,u,rfl,e⟩
    · exact nomatch e
    · injection e with e1 _
      subst e1
      cases v <;> rfl
theorem zjX (prog : Program) (w : World) (k : Key) (v : Value) : (zaD prog w).is k v = zif k v:=rfl
theorem zh9 (prog : Program) (w : World) (i : Int) (t : Tok) : (zaD prog w).is (.inl i) (.int i t) = true:=zlC i t
theorem zh8 (prog : Program) (w : World) (x : Str) (t : Tok) : (zaD prog w).is (.inr x) (.str x t) = true:=zlB x t
end L2
namespace L2
open PySem PySem.Spec PyProof.Rows
inductive V where
  | non | bl (b : Bool) | int (i : Int) | str (x : Str) | byt (b : Array UInt8) | flt (b : UInt64) | ref (a : Addr) | ty (n : String)
  deriving DecidableEq
def RelV : V→Value→Prop
  | .non,u=>u = Value.none
  | .bl b,u=>u = Value.bool b
  | .int i,u=>∃ t,u = Value.int i t
  | .str x,u=>∃ t,u = Value.str x t
  | .byt b,u=>∃ t,u = Value.bytes b t
  | .flt b,u=>∃ t,u = Value.float b t
  | .ref a,u=>u = Value.ref a
  | .ty n,u=>u = Value.type n
abbrev Vals : List V→List Value→Prop:=Paired RelV
theorem Vals.length {xs : List V} {us : List Value} (r : Vals xs us) : xs.length = us.length:=Paired.length r
theorem Vals.get : ∀ {xs : List V} {us : List Value} {i : Nat} {x : V},Vals xs us→xs[i]? = some x→∃ u,us[i]? = some u∧RelV x u
  | _,_,_,_,.nil,e=>by simp at e
  | _,_,0,_,.cons r _,e=>by simp at e; subst e; exact ⟨_,rfl,r⟩
  | _,_,i + 1,x,.cons _ t,e=>by
    obtain ⟨u,h1,h2⟩:=Vals.get (i:=i) (x:=x) t (by simpa using e)
    exact ⟨u,by simpa using h1,h2⟩
theorem Vals.set {x : V} {u : Value} (r : RelV x u) : ∀ {xs : List V} {us : List Value} (i : Nat),Vals xs us→Vals (xs.set i x) (us.set i u)
  | _,_,_,.nil=>.nil
  | _,_,0,.cons _ t=>.cons r t
  | _,_,i + 1,.cons q t=>.cons q (Vals.set r i t)
theorem Vals.append : ∀ {xs ys : List V} {us ws : List Value},Vals xs us→Vals ys ws→Vals (xs ++ ys) (us ++ ws)
  | _,_,_,_,.nil,s=>s
  | _,_,_,_,.cons r t,s=>.cons r (Vals.append t s)
theorem Vals.take : ∀ {xs : List V} {us : List Value} (n : Nat),Vals xs us→Vals (xs.take n) (us.take n)
  | _,_,0,_=>.nil
  | _,_,_ + 1,.nil=>.nil
  | _,_,n + 1,.cons r t=>.cons r (Vals.take n t)
theorem Vals.drop : ∀ {xs : List V} {us : List Value} (n : Nat),Vals xs us→Vals (xs.drop n) (us.drop n)
  | _,_,0,r=>r
  | _,_,_ + 1,.nil=>.nil
  | _,_,n + 1,.cons _ t=>Vals.drop n t
def RelO : Option V→Option Value→Prop
  | some v,some u=>RelV v u
  | none,none=>True
  | _,_=>False
def KV {κ : Type} : List (κ×V)→List (κ×Value)→Prop:=Paired fun (p : κ×V) (q : κ×Value)=>p.1 = q.1∧RelV p.2 q.2
def kV : Key→V
  | .inl i=>.int i
  | .inr x=>.str x
inductive HO where
  | lst (xs : List V)
  | tup (xs : List V)
  | dK (kvs : List (Key×V)) | dT (kvs : List (List Key×V))
  | set (S : Int→Bool) (n : Nat)
  | ins (C dx : Addr) (fs : List (Str×V))
  | own (x : Addr)
  | xd (fs : List (Str×V))
  | met (f x : Addr)
  | rng (lo hi : Int)
  | frz (o : Obj) (u : HO)
  | tbl (ps : Array Value)
  | ext (φ : Heap→Prop)
abbrev Hp:=Addr→Option HO
def upd (H : Hp) (a : Addr) (o : HO) : Hp:=fun b=>if b = a then some o else H b
theorem zac {H : Hp} {a : Addr} {o : HO} : upd H a o a = some o:=by unfold upd; rw [if_pos rfl]
theorem zag {H : Hp} {a b : Addr} {o : HO} (h : b≠a) : upd H a o b = H b:=by unfold upd; rw [if_neg h]
theorem znW {H : Hp} {a : Addr} {o u : HO} : upd (upd H a o) a u = upd H a u:=by
  funext b; unfold upd; split <;> rfl
theorem ne_of {H : Hp} {a b : Addr} {o u : HO} (h : H a = some o) (h' : H b = some u) (d : o≠u) : a≠b:=by
  intro e; subst e; rw [h] at h'; exact d (Option.some.inj h')
theorem zab {H : Hp} {a b : Addr} {o : HO} (h : H a = some o) (h' : H b = none) : a≠b:=by
  intro e; subst e; rw [h] at h'; cases h'
section
variable (P : Program) (w : World)
def zbl (H : Hp) (h : Heap) (a : Addr) : HO→Prop
  | .lst xs=>xs.length≤sizeLine∧∃ (its : List Value) (n : Nat),Vals xs its∧h.get? a = some { cls:=.type "list",data:=.seq its.toArray n }
  | .tup xs=>xs.length≤sizeLine∧∃ its : List Value,Vals xs its∧IsTup h a its.toArray
  | .dK kvs=>kvs.length≤sizeLine∧(a == sysModules) = false∧∃ vs,KV kvs vs∧h.DictOf (zaD P w) a vs
  | .dT kvs=>kvs.length≤sizeLine∧(a == sysModules) = false∧∃ xs : List (List Key×Addr×Value),
      Paired (fun (p : List Key×V) (q : List Key×Addr×Value)=>p.1 = q.1∧H q.2.1 = some (.tup (p.1.map kV))∧RelV p.2 q.2.2) kvs xs∧
      ∃ o es ep,h.get? a = some o∧o.ExactDict∧o.data = .dict es ep∧es.toList = xs.map (entryOfKey (tupleKind (zaD P w)))∧(xs.map (·.1)).Nodup
  | .set S n=>h.SetOf (intKind P w) a S n
  | .ins C dx fs=>H dx = some (.own a)∧fs.length≤1000∧dx≠a∧h.get? a = some (PySem.W.instObj C dx)∧
      ∃ mA,h.Ns1 dx mA∧(∀ f,RelO (fs.lookup f) (mA f))∧PySem.Within mA (fs.map (·.1))
  | .own _=>∃ o,h.get? a = some o
  | .xd fs=>∃ mA,h.Ns1 a mA∧∀ f,RelO (fs.lookup f) (mA f)
  | .rng lo hi=>∃ t u v,h.get? a = some { cls:=.type "range",data:=.fields #[.int lo t,.int hi u,.int 1 v] }
  | .frz o u=>h.get? a = some o∧zbl H h a u
  | .tbl ps=>h.get? a = some { cls:=.none,data:=.fields ps }
  | .met f x=>h.get? a = some (PySem.W.methodObj (.ref f) (.ref x))
  | .ext φ=>φ h∧(∃ o,h.get? a = some o)∧∀ h1 h2 : Heap,φ h1→(∀ o,h1.get? a = some o→h2.get? a = some o)→φ h2
def HOk (H : Hp) (h : Heap) : Prop:=∀ a o,H a = some o→zbl P w H h a o
end
section
variable {P : Program} {w : World} {H H' : Hp} {h h' : Heap} {a : Addr} {o : HO}
theorem zbl.lt (x : zbl P w H h a o) : a < h.objs.size:=by
  cases o with
  | lst xs=>obtain ⟨_,_,_,_,e⟩:=x; exact Heap.lt_size e
  | tup xs=>obtain ⟨_,_,_,p⟩:=x; exact p.lt
  | dK kvs=>obtain ⟨_,_,_,_,o,_,_,e,_⟩:=x; exact Heap.lt_size e
  | dT kvs=>obtain ⟨_,_,_,_,o,_,_,e,_⟩:=x; exact Heap.lt_size e
  | set S n=>obtain ⟨o,_,_,_,e,_⟩:=x; exact Heap.lt_size e
  | ins C dx fs=>obtain ⟨_,_,_,e,_⟩:=x; exact Heap.lt_size e
  | own y=>obtain ⟨_,e⟩:=x; exact Heap.lt_size e
  | xd fs=>obtain ⟨_,⟨_,_,_,e,_⟩,_⟩:=x; exact Heap.lt_size e
  | rng lo hi=>obtain ⟨_,_,_,e⟩:=x; exact Heap.lt_size e
  | frz ob u=>obtain ⟨e,_⟩:=x; exact Heap.lt_size e
  | tbl ps=>exact Heap.lt_size (show h.get? a = some _ from x)
  | met f y=>exact Heap.lt_size (show h.get? a = some _ from x)
  | ext φ=>obtain ⟨_,⟨_,e⟩,_⟩:=x; exact Heap.lt_size e
theorem Paired.mapP {α β : Type} {F G : α→β→Prop} : ∀ {l₁ : List α} {l₂ : List β},Paired F l₁ l₂→(∀ a b,F a b→G a b)→Paired G l₁ l₂
  | _,_,.nil,_=>.nil
  | _,_,.cons r t,f=>.cons (f _ _ r) (Paired.mapP t f)
theorem zbl.stay (x : zbl P w H h a o) (k : ∀ b u,(b = a∨H b = some (.own a))→h.get? b = some u→h'.get? b = some u)
    (ho : ∀ b,H b = some (.own a)→H' b = some (.own a)) (ht : ∀ b xs,H b = some (.tup xs)→H' b = some (.tup xs)) : zbl P w H' h' a o:=by
  induction o with
  | lst xs=>obtain ⟨z,its,n,r,e⟩:=x; exact ⟨z,its,n,r,k _ _ (.inl rfl) e⟩
  | tup xs=>obtain ⟨z,its,r,ob,e,c⟩:=x; exact ⟨z,its,r,ob,k _ _ (.inl rfl) e,c⟩
  | dK kvs=>obtain ⟨z,y,vs,r,ob,es,ep,e,c⟩:=x; exact ⟨z,y,vs,r,ob,es,ep,k _ _ (.inl rfl) e,c⟩
  | dT kvs=>
    obtain ⟨z,y,xs,r,ob,es,ep,e,c⟩:=x
    exact ⟨z,y,xs,Paired.mapP r fun p q z=>⟨z.1,ht _ _ z.2.1,z.2.2⟩,ob,es,ep,k _ _ (.inl rfl) e,c⟩
  | set S n=>obtain ⟨ob,es,ep,t,e,c⟩:=x; exact ⟨ob,es,ep,t,k _ _ (.inl rfl) e,c⟩
  | ins C dx fs=>
    obtain ⟨d,z,ne,e,mA,⟨od,es,ep,e2,c⟩,r⟩:=x
    exact ⟨ho _ d,z,ne,k _ _ (.inl rfl) e,mA,⟨od,es,ep,k _ _ (.inr d) e2,c⟩,r⟩
  | own y=>obtain ⟨ob,e⟩:=x; exact ⟨ob,k _ _ (.inl rfl) e⟩
  | xd fs=>obtain ⟨mA,⟨od,es,ep,e,c⟩,r⟩:=x; exact ⟨mA,⟨od,es,ep,k _ _ (.inl rfl) e,c⟩,r⟩
  | rng lo hi=>obtain ⟨t,u,v,e⟩:=x; exact ⟨t,u,v,k _ _ (.inl rfl) e⟩
  | frz ob u ih=>obtain ⟨e,q⟩:=x; exact ⟨k _ _ (.inl rfl) e,ih q⟩
  | tbl ps=>
    have e : h.get? a = some { cls:=.none,data:=.fields ps }:=x
    show h'.get? a = some { cls:=.none,data:=.fields ps }
    exact k a _ (.inl rfl) e
  | met f y=>
    have e : h.get? a = some (PySem.W.methodObj (.ref f) (.ref y)):=x
    show h'.get? a = some (PySem.W.methodObj (.ref f) (.ref y))
    exact k a _ (.inl rfl) e
  | ext φ=>obtain ⟨p,⟨o,e⟩,st⟩:=x; exact ⟨st _ _ p fun o q=>k _ _ (.inl rfl) q,⟨o,k _ _ (.inl rfl) e⟩,st⟩
theorem HOk.lt (x : HOk P w H h) (e : H a = some o) : a < h.objs.size:=(x a o e).lt
theorem HOk.fresh (x : HOk P w H h) (e : h.objs.size≤a) : H a = none:=by
  cases q : H a with
  | none=>rfl
  | some u=>exact absurd (Nat.lt_of_lt_of_le (x.lt q) e) (Nat.lt_irrefl _)
theorem HOk.kept (x : HOk P w H h) (k : ∀ b u,h.get? b = some u→h'.get? b = some u) : HOk P w H h':=fun a o e=>
  (x a o e).stay (fun b u _ q=>k b u q) (fun _ q=>q) fun _ _ q=>q
theorem HOk.laid (x : HOk P w H h) (k : ∀ b u,h.get? b = some u→h'.get? b = some u) (hp : h.objs.size≤a) (new : zbl P w (upd H a o) h' a o) : HOk P w (upd H a o) h':=fun b u e=>by
  have hn:=x.fresh hp
  by_cases hb : b = a
  · subst hb; rw [zac] at e; cases e; exact new
  · rw [zag hb] at e
    exact (x b u e).stay (fun c v _ q=>k c v q) (fun c q=>by rw [zag (zab q hn)]; exact q) fun c xs q=>by rw [zag (zab q hn)]; exact q
end
def Rd (H : Hp) (a : Addr) (u : HO) : Prop:=H a = some u∨∃ o,H a = some (.frz o u)
theorem Rd.of {H : Hp} {a : Addr} {u : HO} (h : H a = some u) : Rd H a u:=.inl h
theorem Rd.ok {P : Program} {w : World} {H : Hp} {h : Heap} {a : Addr} {u : HO} (r : Rd H a u) (x : HOk P w H h) : zbl P w H h a u:=by
  rcases r with r | ⟨o,r⟩
  · exact x a u r
  · obtain ⟨_,q⟩:=x a _ r
    exact q
def Mut : Option HO→Prop
  | some (.lst _)=>True
  | some (.dK _)=>True
  | some (.dT _)=>True
  | some (.set _ _)=>True
  | some (.ins _ _ _)=>True
  | some (.ext _)=>True
  | _=>False
section
variable {P : Program} {w : World} {H : Hp} {h h' : Heap} {x e : Addr} {o' : HO}
theorem HOk.write (ok : HOk P w H h) (mu : Mut (H x)) (he : e = x∨H e = some (.own x)) (k : ∀ b u,b≠e→h.get? b = some u→h'.get? b = some u) (heo : ∃ u,h'.get? e = some u)
    (new : zbl P w (upd H x o') h' x o') : HOk P w (upd H x o') h':=fun b u q=>by
  have nown : ∀ c y,H c = some (.own y)→c≠x:=fun c y r z=>by subst z; rw [r] at mu; exact mu
  have ntup : ∀ c xs,H c = some (.tup xs)→c≠x:=fun c xs r z=>by subst z; rw [r] at mu; exact mu
  by_cases hb : b = x
  · subst hb; rw [zac] at q; cases q; exact new
  · rw [zag hb] at q
    by_cases hbe : b = e
    · have q' : H b = some (.own x):=by
        rcases he with z | z
        · exact absurd (hbe.trans z) hb
        · rw [hbe]; exact z
      rw [q] at q'; cases q'
      obtain ⟨v,hv⟩:=heo
      exact ⟨v,by rw [hbe]; exact hv⟩
    · refine (ok b u q).stay (fun c v hc r=>k c v ?_ r) (fun c r=>by rw [zag (nown c b r)]; exact r) fun c xs r=>by rw [zag (ntup c xs r)]; exact r
      rcases hc with rfl | hc
      · exact hbe
      · rintro rfl
        rcases he with z | z
        · exact nown c b hc z
        · rw [hc] at z; cases z; exact hb rfl
end
structure Un (fs ex : List Addr) (H H' : Hp) (h h' : Heap) : Prop where
  keep : ∀ b o,h.get? b = some o→H b = none→b∉fs→b∉ex→h'.get? b = some o
  slot : ∀ b o,h.get? b = some o→H b = none→b∈fs→b∉ex→∃ sl,h'.get? b = some { o with slots:=sl }
  free : ∀ b o,h.get? b = some o→H b = none→b∉ex→H' b = none
  there : ∀ b o,h.get? b = some o→b∉ex→∃ o',h'.get? b = some o'
  tups : ∀ b xs,H b = some (.tup xs)→H' b = some (.tup xs)
  frzs : ∀ b o u,H b = some (.frz o u)→H' b = some (.frz o u)
  tbls : ∀ b ps,H b = some (.tbl ps)→∃ more,H' b = some (.tbl (ps ++ more))
section
variable {fs fs' ex ex' : List Addr} {H H1 H2 : Hp} {h h1 h2 h' : Heap} {a x e : Addr} {o : HO}
theorem Un.any (u : Un fs ex H H1 h h1) {b : Addr} {ob : Obj} (q : h.get? b = some ob) (n : H b = none) (hx : b∉ex) : ∃ sl,h1.get? b = some { ob with slots:=sl }:=by
  by_cases hb : b∈fs
  · exact u.slot b ob q n hb hx
  · exact ⟨ob.slots,u.keep b ob q n hb hx⟩
theorem Un.trans (a : Un fs ex H H1 h h1) (b : Un fs ex H1 H2 h1 h2) : Un fs ex H H2 h h2 where
  keep:=fun c ob q n hc hx=>b.keep c ob (a.keep c ob q n hc hx) (a.free c ob q n hx) hc hx
  slot:=fun c ob q n hc hx=>by
    obtain ⟨sl,e1⟩:=a.slot c ob q n hc hx
    obtain ⟨sl',e2⟩:=b.slot c _ e1 (a.free c ob q n hx) hc hx
    exact ⟨sl',e2⟩
  free:=fun c ob q n hx=>by
    obtain ⟨o',e1⟩:=a.there c ob q hx
    exact b.free c o' e1 (a.free c ob q n hx) hx
  there:=fun c ob q hx=>by
    obtain ⟨o',e1⟩:=a.there c ob q hx
    exact b.there c o' e1 hx
  tups:=fun c xs q=>b.tups c xs (a.tups c xs q)
  frzs:=fun c ob xs q=>b.frzs c ob xs (a.frzs c ob xs q)
  tbls:=fun c ps q=>by
    obtain ⟨m1,e1⟩:=a.tbls c ps q
    obtain ⟨m2,e2⟩:=b.tbls c _ e1
    exact ⟨m1 ++ m2,by rw [e2,Array.append_assoc]⟩
theorem Un.kept (k : ∀ b u,h.get? b = some u→h'.get? b = some u) : Un fs ex H H h h':=
  ⟨fun b ob q _ _ _=>k b ob q,fun b ob q _ _ _=>⟨ob.slots,k b ob q⟩,fun _ _ _ n _=>n,fun b ob q _=>⟨ob,k b ob q⟩,fun _ _ q=>q,fun _ _ _ q=>q,fun _ ps q=>⟨#[],by rw [q]; simp⟩⟩
theorem Un.refl : Un fs ex H H h h:=Un.kept fun _ _ q=>q
theorem Un.laid (k : ∀ b u,h.get? b = some u→h'.get? b = some u) (hp : h.objs.size≤a) (hn : H a = none) : Un fs ex H (upd H a o) h h' where
  keep:=fun b u q _ _ _=>k b u q
  slot:=fun b u q _ _ _=>⟨u.slots,k b u q⟩
  free:=fun b u q n _=>by rw [zag (Nat.ne_of_lt (Nat.lt_of_lt_of_le (Heap.lt_size q) hp))]; exact n
  there:=fun b u q _=>⟨u,k b u q⟩
  tups:=fun b xs q=>by rw [zag (zab q hn)]; exact q
  frzs:=fun b u xs q=>by rw [zag (zab q hn)]; exact q
  tbls:=fun b ps q=>⟨#[],by rw [zag (zab q hn),q]; simp⟩
theorem Un.write (mu : Mut (H x)) (he : e = x∨H e = some (.own x)) (k : ∀ b u,b≠e→h.get? b = some u→h'.get? b = some u) (heo : ∃ u,h'.get? e = some u) : Un fs ex H (upd H x o) h h':=by
  have hx : ∀ b,H b = none→b≠x:=fun b n z=>by subst z; rw [n] at mu; exact mu
  have hb : ∀ b,H b = none→b≠e:=fun b n z=>by
    subst z
    rcases he with r | r
    · exact hx b n r
    · rw [n] at r; cases r
  have hm : ∀ b u,H b = some u→¬ Mut (some u)→b≠x:=fun b u q nm z=>by subst z; rw [q] at mu; exact nm mu
  refine ⟨fun b u q n _ _=>k b u (hb b n) q,fun b u q n _ _=>⟨u.slots,k b u (hb b n) q⟩,fun b u q n _=>by rw [zag (hx b n)]; exact n,fun b u q _=>?_,
    fun b xs q=>by rw [zag (hm b _ q fun z=>z)]; exact q,fun b u xs q=>by rw [zag (hm b _ q fun z=>z)]; exact q,fun b ps q=>⟨#[],by rw [zag (hm b _ q fun z=>z),q]; simp⟩⟩
  by_cases hbe : b = e
  · subst hbe; exact heo
  · exact ⟨u,k b u hbe q⟩
theorem Un.mono (u : Un fs ex H H1 h h1) (hs : ∀ b∈fs,b∈fs') (hx : ∀ b∈ex,b∈ex') : Un fs' ex' H H1 h h1:=
  ⟨fun b ob q n hb he=>u.keep b ob q n (fun z=>hb (hs b z)) fun z=>he (hx b z),fun _ _ q n _ he=>u.any q n fun z=>he (hx _ z),fun b ob q n he=>u.free b ob q n fun z=>he (hx b z),fun b ob q he=>u.there b ob q fun z=>he (hx b z),u.tups,u.frzs,u.tbls⟩
end
def trk (h : Heap) (H : Hp) : List Addr:=(List.range h.objs.size).filter fun a=>(H a).isSome
def hidT (h : Heap) (H : Hp) : Heap:=PySem.W.hideAll h (trk h H)
theorem zlI (h : Heap) (H : Hp) : (hidT h H).objs.size = h.objs.size:=PySem.W.hideAll_size _ _
theorem zna {h : Heap} {H : Hp} {b : Addr} {o : Obj} (e : h.get? b = some o) (n : H b = none) : (hidT h H).get? b = some o:=
  PySem.W.hideAll_get _ e fun hm=>by
    have q : (H b).isSome = true:=(List.mem_filter.mp hm).2
    rw [n] at q; simp at q
theorem zoz {h : Heap} {H : Hp} {b : Addr} {o : Obj} (e : (hidT h H).get? b = some o) : h.get? b = some o∧H b = none:=by
  have e' : h.get? b = some o:=PySem.W.of_hideAll (trk h H) e
  refine ⟨e',?_⟩
  cases q : H b with
  | none=>rfl
  | some x=>
    have hm : b∈trk h H:=List.mem_filter.mpr ⟨List.mem_range.mpr (Heap.lt_size e'),by simp [q]⟩
    have z : (hidT h H).get? b = none:=PySem.W.hideAll_none (trk h H) hm
    rw [z] at e; cases e
def allNews (g h : Heap) (L : Addr) : List (Addr×Obj):=(List.range h.objs.size).filterMap fun a=>if a = L∨(g.get? a).isSome = true then none else (h.get? a).map fun o=>(a,o)
def rest (g h : Heap) (L d : Addr) : List (Addr×Obj):=(allNews g h L).filter fun p=>decide (p.1≠d)
end L2
namespace L2
open PySem PySem.Spec PyProof.Rows
structure Mod (K : PySem.W.Frag) (mg : Str→Option Value) (base : Heap) : Prop where
  kin : K.In base
  glob : base.Ns mainGlobals mg
  blt : ∃ mb,base.Ns builtinsNs mb∧∀ x : Str,x ≠ "__name__"→mb x = bootBuiltins x
  nolimit : base.NoLimit
structure Cx where
  prog : Program
  w : World
  K : PySem.W.Frag
  mg : Str→Option Value
  base : Heap
  A : Around
  N : List Str
  s₀ : Shared
  H₀ : Hp
  env : Env
  outer : List Env
  stack : List Env
  ex : List Addr
  fn : Str→Bool
  calm : Bool
  pn : List (Addr×Obj)
  xe : Value→Shared→Prop
def frs (l : List Env) : List Addr:=l.filterMap (·.frame)
abbrev Cx.fs (X : Cx) : List Addr:=frs X.outer
def Vis (sc : Scope) (x : Str) : Prop:=sc.names.lookup x = some .local∨sc.names.lookup x = some .cell∨sc.names.lookup x = some .free
def Loc (sc : Scope) (x : Str) : Prop:=sc.names.lookup x = some .local∨sc.names.lookup x = some .cell
def Look (env : Env) (h : Heap) (m : Str→Option Value) (x : Str) (u : Value) : Prop:=
  (env.kindOf x = some .local∧m x = some u)∨((env.kindOf x = some .cell∨env.kindOf x = some .free)∧∃ c,env.cells.lookup x = some c∧h.IsCell c (some u))
structure Cx.Ok (X : Cx) : Prop where
  mod : Mod X.K X.mg X.base
  kind : X.env.scope.kind = .function
  glob : X.env.globals = mainGlobals
  blt : X.env.builtins = builtinsNs
  above : X.s₀.heap.objs.size≤X.env.locals
  inj : ∀ x y c,X.env.cells.lookup x = some c→X.env.cells.lookup y = some c→x = y
  has : ∀ x,(X.env.kindOf x = some .cell∨X.env.kindOf x = some .free)→∃ c,X.env.cells.lookup x = some c
  cab : ∀ x c,X.fn x = true→X.env.cells.lookup x = some c→X.s₀.heap.objs.size≤c
  hd : X.calm = true→X.A.handled = none
  frames : X.A.frames = some X.stack
  stk : X.stack = X.outer∨(X.stack = X.env :: X.outer∧X.env.frame = some X.env.locals)
  exf : ∀ b∈X.ex,b≠X.env.locals∧∀ x c,X.env.cells.lookup x = some c→c≠b
  bs : ∀ b o,X.base.get? b = some o→X.s₀.heap.get? b = some o∧X.H₀ b = none
  bsz : X.base.objs.size≤X.s₀.heap.objs.size
  noex : ∀ b o,X.base.get? b = some o→b∉X.ex
  exfs : ∀ b∈X.ex,b∉X.fs
  funs : X.s₀.heap.FunFrames X.base X.outer
  frf : ∀ b∈X.fs,X.H₀ b = none
structure Inv (X : Cx) (pins : List (Addr×Obj)) (σ : List (Option V)) (H : Hp) (s : Shared) : Prop where
  ok : X.Ok
  os : s.os = X.s₀.os
  bare : AllBare s.gens
  base : Un X.fs X.ex X.H₀ H X.s₀.heap s.heap
  loc : ∃ m,s.heap.Ns X.env.locals m∧∀ (i : Nat) (x : Str) (v : V),X.N[i]? = some x→σ[i]? = some (some v)→Vis X.env.scope x→∃ u,RelV v u∧Look X.env s.heap m x u
  cell : ∀ x c,X.env.cells.lookup x = some c→∃ v,s.heap.IsCell c v
  free : H X.env.locals = none
  freeC : ∀ x c,X.env.cells.lookup x = some c→H c = none
  pin : ∀ p∈X.pn ++ pins,s.heap.get? p.1 = some p.2∧H p.1 = none∧p.1≠X.env.locals∧p.1∉X.fs∧∀ v,p.2.data≠.cell v
  hok : HOk X.prog X.w H s.heap
  len : σ.length = X.N.length
section
variable {X : Cx} {pins : List (Addr×Obj)} {σ : List (Option V)} {H H' : Hp} {s : Shared} {h' : Heap}
theorem Cx.Ok.nofr (ok : X.Ok) {b : Addr} {o : Obj} (e : X.base.get? b = some o) : b∉X.fs:=fun hb=>by
  have:=(ok.funs.mem hb).1
  rw [e] at this; cases this
theorem Inv.bs (I : Inv X pins σ H s) : ∀ b o,X.base.get? b = some o→s.heap.get? b = some o∧H b = none:=fun b o e=>
  ⟨I.base.keep b o (I.ok.bs b o e).1 (I.ok.bs b o e).2 (I.ok.nofr e) (I.ok.noex b o e),I.base.free b o (I.ok.bs b o e).1 (I.ok.bs b o e).2 (I.ok.noex b o e)⟩
theorem Inv.bk (I : Inv X pins σ H s) : ∀ b o,X.base.get? b = some o→s.heap.get? b = some o:=fun b o e=>(I.bs b o e).1
theorem Inv.mod (I : Inv X pins σ H s) : Mod X.K X.mg X.base:=I.ok.mod
theorem Inv.kIn (I : Inv X pins σ H s) : X.K.In s.heap:=I.ok.mod.kin.keeps I.bk
theorem Inv.nolimit (I : Inv X pins σ H s) : s.heap.NoLimit:=I.ok.mod.nolimit.keeps I.bk
theorem Inv.fr (I : Inv X pins σ H s) : ∃ m,Fr X.base X.env.locals s.heap m:=
  let ⟨m,hn,_⟩:=I.loc
  ⟨m,hn,I.bk,Nat.le_trans I.ok.bsz I.ok.above⟩
theorem Inv.lt (I : Inv X pins σ H s) : X.env.locals < s.heap.objs.size:=let ⟨_,hn,_⟩:=I.loc; hn.lt
theorem Inv.sz (I : Inv X pins σ H s) : X.s₀.heap.objs.size≤s.heap.objs.size:=Nat.le_trans I.ok.above (Nat.le_of_lt I.lt)
theorem Inv.nofs (I : Inv X pins σ H s) {a : Addr} (h : s.heap.objs.size≤a) : a∉X.fs:=fun hb=>by
  obtain ⟨_,o,ho,_⟩:=I.ok.funs.mem hb
  exact absurd (Nat.lt_of_lt_of_le (Heap.lt_size ho) (Nat.le_trans I.sz h)) (Nat.lt_irrefl _)
theorem Inv.cne (I : Inv X pins σ H s) : ∀ x c,X.env.cells.lookup x = some c→c≠X.env.locals:=fun x c e z=>by
  obtain ⟨v,o,ho,hd⟩:=I.cell x c e
  obtain ⟨m,⟨o',es,ep,ho',hd',_⟩,_⟩:=I.loc
  rw [z,ho'] at ho; cases ho; rw [hd'] at hd; cases hd
theorem Inv.funs (I : Inv X pins σ H s) : s.heap.FunFrames X.base X.outer:=by
  have all : ∀ (l : List Env),(∀ b∈frs l,b∈X.fs)→X.s₀.heap.FunFrames X.base l→s.heap.FunFrames X.base l:=by
    intro l
    induction l with
    | nil=>intro _ _; trivial
    | cons env r ih=>
      intro hs hl
      obtain ⟨hk,⟨L,o,hf,hn,ho,hd⟩,hr⟩:=hl
      have hL : L∈X.fs:=hs L (by unfold frs; rw [List.filterMap_cons,hf]; exact List.mem_cons_self)
      obtain ⟨sl,e⟩:=I.base.slot L o ho (I.ok.frf L hL) hL fun z=>I.ok.exfs L z hL
      exact ⟨hk,⟨L,_,hf,hn,e,hd⟩,ih (fun b hb=>hs b (by unfold frs; rw [List.filterMap_cons,hf]; exact List.mem_cons_of_mem _ hb)) hr⟩
  exact all X.outer (fun _ hb=>hb) I.ok.funs
theorem Inv.stack (I : Inv X pins σ H s) : s.heap.FunFrames X.base X.stack:=by
  rcases I.ok.stk with e | ⟨e,hf⟩
  · rw [e]; exact I.funs
  · rw [e]
    obtain ⟨m,hn,_⟩:=I.loc
    refine .cons (by rw [I.ok.kind]; decide) hf hn ?_ I.funs
    exact Heap.get?_none_of_le (Nat.le_trans I.ok.bsz I.ok.above)
theorem Inv.stkSub (I : Inv X pins σ H s) : ∀ b∈frs X.stack,b∈X.env.locals :: X.fs:=fun b hb=>by
  rcases I.ok.stk with e | ⟨e,hf⟩
  · rw [e] at hb; exact List.mem_cons_of_mem _ hb
  · rw [e] at hb
    unfold frs at hb
    rw [List.filterMap_cons,hf] at hb
    exact hb
theorem Inv.stkFree (I : Inv X pins σ H s) : ∀ b∈frs X.stack,H b = none:=fun b hb=>by
  rcases List.mem_cons.mp (I.stkSub b hb) with e | hb
  · rw [e]; exact I.free
  · obtain ⟨_,o,ho,_⟩:=I.ok.funs.mem hb
    exact I.base.free b o ho (I.ok.frf b hb) fun z=>I.ok.exfs b z hb
theorem Inv.step {g' : Array GenState} {t' : Nat} {d' : Drawn} {ch : List Addr} (I : Inv X pins σ H s)
    (hch : ∀ b∈ch,(b∈X.ex∨X.s₀.heap.objs.size≤b)∧b≠X.env.locals∧(∀ x c,X.env.cells.lookup x = some c→c≠b)∧∀ p∈X.pn ++ pins,p.1≠b)
    (keep : ∀ b o,b≠X.env.locals→b∉X.fs→b∉ch→s.heap.get? b = some o→H b = none→h'.get? b = some o)
    (slot : ∀ b o,b≠X.env.locals→b∈X.fs→b∉ch→s.heap.get? b = some o→H b = none→∃ sl,h'.get? b = some { o with slots:=sl }) (free : ∀ b o,b∉ch→s.heap.get? b = some o→H b = none→H' b = none)
    (there : ∀ b o,b∉ch→s.heap.get? b = some o→∃ o',h'.get? b = some o')
    (tups : ∀ b xs,H b = some (.tup xs)→H' b = some (.tup xs)) (frzs : ∀ b o u,H b = some (.frz o u)→H' b = some (.frz o u)) (tbls : ∀ b ps,H b = some (.tbl ps)→∃ more,H' b = some (.tbl (ps ++ more)))
    (ns : ∀ m,s.heap.Ns X.env.locals m→h'.Ns X.env.locals m) (hok : HOk X.prog X.w H' h') (hg : AllBare g') :
    Inv X pins σ H' { s with heap:=h',gens:=g',drawn:=d',toks:=t' }:=by
  have neL : ∀ b o,X.s₀.heap.get? b = some o→b≠X.env.locals:=fun b o e=>Nat.ne_of_lt (Nat.lt_of_lt_of_le (Heap.lt_size e) I.ok.above)
  have neC : ∀ b o,X.s₀.heap.get? b = some o→b∉X.ex→b∉ch:=fun b o e hx hb=>by
    rcases (hch b hb).1 with z | z
    · exact hx z
    · exact absurd (Nat.lt_of_lt_of_le (Heap.lt_size e) z) (Nat.lt_irrefl _)
  have cellK : ∀ x c,X.env.cells.lookup x = some c→∀ v,s.heap.IsCell c v→h'.IsCell c v:=fun x c e v ⟨o,ho,hd⟩=>by
    have nch : c∉ch:=fun z=>(hch c z).2.2.1 x c e rfl
    by_cases hc : c∈X.fs
    · obtain ⟨sl,q⟩:=slot c o (I.cne x c e) hc nch ho (I.freeC x c e)
      exact ⟨_,q,hd⟩
    · exact ⟨o,keep c o (I.cne x c e) hc nch ho (I.freeC x c e),hd⟩
  refine ⟨I.ok,I.os,hg,⟨fun b o e n hb hx=>?_,fun b o e n hb hx=>?_,fun b o e n hx=>?_,fun b o e hx=>?_,fun b xs e=>tups b xs (I.base.tups b xs e),fun b o xs e=>frzs b o xs (I.base.frzs b o xs e),fun b ps e=>?_⟩,?_,fun x c e=>?_,?_,fun x c e=>?_,fun p hp=>?_,hok,I.len⟩
  · exact keep b o (neL b o e) hb (neC b o e hx) (I.base.keep b o e n hb hx) (I.base.free b o e n hx)
  · obtain ⟨sl,e1⟩:=I.base.slot b o e n hb hx
    obtain ⟨sl',e2⟩:=slot b _ (neL b o e) hb (neC b o e hx) e1 (I.base.free b o e n hx)
    exact ⟨sl',e2⟩
  · obtain ⟨o',e1⟩:=I.base.there b o e hx
    exact free b o' (neC b o e hx) e1 (I.base.free b o e n hx)
  · obtain ⟨o',e1⟩:=I.base.there b o e hx
    exact there b o' (neC b o e hx) e1
  · obtain ⟨m1,e1⟩:=I.base.tbls b ps e
    obtain ⟨m2,e2⟩:=tbls b _ e1
    exact ⟨m1 ++ m2,by rw [e2,Array.append_assoc]⟩
  · obtain ⟨m,hn,hl⟩:=I.loc
    refine ⟨m,ns m hn,fun i x v e1 e2 e3=>?_⟩
    obtain ⟨u,r,l⟩:=hl i x v e1 e2 e3
    refine ⟨u,r,?_⟩
    rcases l with l | ⟨k,c,e,z⟩
    · exact .inl l
    · exact .inr ⟨k,c,e,cellK x c e _ z⟩
  · obtain ⟨v,z⟩:=I.cell x c e
    exact ⟨v,cellK x c e v z⟩
  · obtain ⟨m,⟨o,_,_,ho,_⟩,_⟩:=I.loc
    exact free _ o (fun z=>(hch _ z).2.1 rfl) ho I.free
  · obtain ⟨v,o,ho,hd⟩:=I.cell x c e
    exact free c o (fun z=>(hch c z).2.2.1 x c e rfl) ho (I.freeC x c e)
  · obtain ⟨e,n,ne,nf,d⟩:=I.pin p hp
    have nch : p.1∉ch:=fun z=>(hch p.1 z).2.2.2 p hp rfl
    exact ⟨keep p.1 p.2 ne nf nch e n,free p.1 p.2 nch e n,ne,nf,d⟩
theorem Inv.un {t' : Nat} (I : Inv X pins σ H s) (u : Un X.fs [] H H' s.heap h') (hok : HOk X.prog X.w H' h') : Inv X pins σ H' { s with heap:=h',toks:=t' }:=by
  obtain ⟨m,⟨o,es,ep,ho,r⟩,_⟩:=id I.loc
  obtain ⟨sl,hL⟩:=u.any ho I.free (by simp)
  exact I.step (g':=s.gens) (d':=s.drawn) (ch:=[]) (fun _ z=>nomatch z) (fun b o _ hb _ e n=>u.keep b o e n hb (by simp)) (fun b o _ hb _ e n=>u.slot b o e n hb (by simp)) (fun b o _ e n=>u.free b o e n (by simp)) (fun b o _ e=>u.there b o e (by simp)) u.tups u.frzs u.tbls (fun m' hm=>by
    obtain ⟨o',es',ep',ho',r'⟩:=hm
    rw [ho] at ho'; cases ho'
    exact ⟨_,es',ep',hL,r'⟩) hok I.bare
theorem Inv.call {g' : Array GenState} {t' : Nat} {d' : Drawn} {ch : List Addr} (I : Inv X pins σ H s) (u : Un (frs X.stack) ch H H' s.heap h') (hok : HOk X.prog X.w H' h') (hg : AllBare g')
    (hch : ∀ b∈ch,(b∈X.ex∨X.s₀.heap.objs.size≤b)∧b≠X.env.locals∧(∀ x c,X.env.cells.lookup x = some c→c≠b)∧∀ p∈X.pn ++ pins,p.1≠b) :
    Inv X pins σ H' { s with heap:=h',gens:=g',drawn:=d',toks:=t' }:=by
  obtain ⟨m,⟨o,es,ep,ho,r⟩,_⟩:=id I.loc
  obtain ⟨sl,hL⟩:=u.any ho I.free fun z=>(hch _ z).2.1 rfl
  exact I.step (ch:=ch) hch (fun b o hL hb hc e n=>u.keep b o e n (fun z=>(List.mem_cons.mp (I.stkSub b z)).elim hL hb) hc) (fun b o _ _ hc e n=>u.any e n hc) (fun b o hc e n=>u.free b o e n hc) (fun b o hc e=>u.there b o e hc) u.tups u.frzs u.tbls (fun m' hm=>by
    obtain ⟨o',es',ep',ho',r'⟩:=hm
    rw [ho] at ho'; cases ho'
    exact ⟨_,es',ep',hL,r'⟩) hok hg
theorem Inv.turned {t' : Nat} {it : Addr} (I : Inv X pins σ H s) (k : ∀ b o,b≠it→s.heap.get? b = some o→h'.get? b = some o) (hn : H it = none) (hL : it≠X.env.locals)
    (h1 : it∈X.ex∨X.s₀.heap.objs.size≤it) (h2 : ∀ x c,X.env.cells.lookup x = some c→c≠it) (h3 : ∀ p∈X.pn ++ pins,p.1≠it) : Inv X pins σ H { s with heap:=h',toks:=t' }:=by
  have nit : ∀ b u,H b = some u→b≠it:=fun b u e z=>by rw [z,hn] at e; cases e
  refine I.step (g':=s.gens) (d':=s.drawn) (ch:=[it]) (fun b hb=>?_) (fun b o _ _ hc e _=>k b o (fun z=>hc (by simp [z])) e) (fun b o _ _ hc e _=>⟨o.slots,k b o (fun z=>hc (by simp [z])) e⟩) (fun _ _ _ _ n=>n)
    (fun b o hc e=>⟨o,k b o (fun z=>hc (by simp [z])) e⟩) (fun _ _ e=>e) (fun _ _ _ e=>e) (fun b ps e=>⟨#[],by rw [e]; simp⟩) (fun m hm=>?_) (fun b u e=>?_) I.bare
  · have e : b = it:=by simpa using hb
    subst e
    exact ⟨h1,hL,h2,h3⟩
  · obtain ⟨o,es,ep,ho,r⟩:=hm
    exact ⟨o,es,ep,k _ o (Ne.symm hL) ho,r⟩
  · refine (I.hok b u e).stay (fun c v hc q=>k c v ?_ q) (fun _ q=>q) fun _ _ q=>q
    rcases hc with z | z
    · rw [z]; exact nit b u e
    · exact nit c _ z
theorem Inv.tok (I : Inv X pins σ H s) (t : Nat) : Inv X pins σ H { s with toks:=t }:=I.un (h':=s.heap) (t':=t) Un.refl I.hok
theorem Inv.kept {t' : Nat} (I : Inv X pins σ H s) (k : ∀ b u,s.heap.get? b = some u→h'.get? b = some u) : Inv X pins σ H { s with heap:=h',toks:=t' }:=I.un (Un.kept k) (I.hok.kept k)
theorem Inv.laid {a : Addr} {o : HO} {t' : Nat} (I : Inv X pins σ H s) (k : ∀ b u,s.heap.get? b = some u→h'.get? b = some u) (hp : s.heap.objs.size≤a) (new : zbl X.prog X.w (upd H a o) h' a o) :
    Inv X pins σ (upd H a o) { s with heap:=h',toks:=t' }:=I.un (Un.laid k hp (I.hok.fresh hp)) (I.hok.laid k hp new)
theorem Inv.write {x e : Addr} {o : HO} {t' : Nat} (I : Inv X pins σ H s) (mu : Mut (H x)) (he : e = x∨H e = some (.own x)) (k : ∀ b u,b≠e→s.heap.get? b = some u→h'.get? b = some u) (heo : ∃ u,h'.get? e = some u)
    (new : zbl X.prog X.w (upd H x o) h' x o) : Inv X pins σ (upd H x o) { s with heap:=h',toks:=t' }:=I.un (Un.write mu he k heo) (I.hok.write mu he k heo new)
theorem Inv.pins_of {pins' : List (Addr×Obj)} (I : Inv X pins σ H s) (h : ∀ p∈pins',s.heap.get? p.1 = some p.2∧H p.1 = none∧p.1≠X.env.locals∧p.1∉X.fs∧∀ v,p.2.data≠.cell v) : Inv X pins' σ H s:=
  ⟨I.ok,I.os,I.bare,I.base,I.loc,I.cell,I.free,I.freeC,fun p hp=>(List.mem_append.mp hp).elim (fun z=>I.pin p (List.mem_append_left _ z)) (h p),I.hok,I.len⟩
theorem zjc {N : List Str} (hN : N.Nodup) {i j : Nat} {x : Str} (a : N[i]? = some x) (b : N[j]? = some x) : i = j:=by
  obtain ⟨h1,e1⟩:=List.getElem?_eq_some_iff.mp a
  obtain ⟨h2,e2⟩:=List.getElem?_eq_some_iff.mp b
  exact (List.getElem_inj hN).mp (e1.trans e2.symm)
theorem zgZ {M : Model} {A : Around} {E : Value→Shared→Prop} {i : Nat} {x : Str} {v : V} {u : Value} {Q : Unit→Shared→Prop} (I : Inv X pins σ H s) (hN : X.N.Nodup) (hi : X.N[i]? = some x) (hx : Loc X.env.scope x) (r : RelV v u)
    (h : ∀ s',Inv X pins (σ.set i (some v)) H s'→(∃ a,Heap.SameBut a s.heap s'.heap∧(a = X.env.locals∨X.env.cells.lookup x = some a))→Q () s') (hf : X.fn x = true∨X.env.scope.names.lookup x = some .local:=by first | exact .inl rfl | exact .inr rfl | assumption) : wpAny M A (storeName X.env x u) Q E s:=by
  obtain ⟨m,hn,hl⟩:=id I.loc
  have hcls : (X.env.scope.kind == .class || (X.env.scope.kind == .module && X.env.locals != X.env.globals)) = false:=by rw [I.ok.kind]; rfl
  have hiσ : i < σ.length:=by rw [I.len]; exact (List.getElem?_eq_some_iff.mp hi).1
  have cne:=I.cne
  have tracked : ∀ {a : Addr} {h' : Heap},(∃ o,s.heap.get? a = some o∧H a = none)→Heap.SameBut a s.heap h'→HOk X.prog X.w H h':=fun {a h'} ha hs b ob e=>by
    obtain ⟨_,_,hfree⟩:=ha
    refine (I.hok b ob e).stay (fun c w' hc q=>(hs.2 c ?_).trans q) (fun _ q=>q) fun _ _ q=>q
    rintro rfl
    rcases hc with rfl | hc
    · rw [hfree] at e; cases e
    · rw [hfree] at hc; cases hc
  rcases hx with hk | hk
  · refine wpAny_storeName_local hk hn (fun h' hn' hs=>?_) hcls
    obtain ⟨oL,_,_,hoL,_⟩:=id hn
    refine h _ ⟨I.ok,I.os,I.bare,⟨fun b o e n hb hx=>?_,fun b o e n hb hx=>?_,I.base.free,fun b o e hx=>?_,I.base.tups,I.base.frzs,I.base.tbls⟩,⟨_,hn',fun j y v' e1 e2 e3=>?_⟩,fun y c e=>?_,I.free,I.freeC,fun p hp=>?_,tracked ⟨oL,hoL,I.free⟩ hs,by simpa using I.len⟩ ⟨_,hs,.inl rfl⟩
    · exact (hs.2 b (Nat.ne_of_lt (Nat.lt_of_lt_of_le (Heap.lt_size e) I.ok.above))).trans (I.base.keep b o e n hb hx)
    · obtain ⟨sl,e1⟩:=I.base.slot b o e n hb hx
      exact ⟨sl,(hs.2 b (Nat.ne_of_lt (Nat.lt_of_lt_of_le (Heap.lt_size e) I.ok.above))).trans e1⟩
    · obtain ⟨o',e1⟩:=I.base.there b o e hx
      exact ⟨o',(hs.2 b (Nat.ne_of_lt (Nat.lt_of_lt_of_le (Heap.lt_size e) I.ok.above))).trans e1⟩
    · by_cases hj : j = i
      · subst hj
        rw [hi] at e1; cases e1
        rw [List.getElem?_set_self hiσ] at e2
        cases e2
        exact ⟨u,r,.inl ⟨hk,by simp⟩⟩
      · rw [List.getElem?_set_ne (Ne.symm hj)] at e2
        obtain ⟨u',r',q⟩:=hl j y v' e1 e2 e3
        refine ⟨u',r',?_⟩
        rcases q with ⟨k,e⟩ | ⟨k,c,e,z⟩
        · refine .inl ⟨k,?_⟩
          have : y≠x:=fun e=>hj (zjc hN e1 (e ▸ hi))
          simp [this,e]
        · exact .inr ⟨k,c,e,z.sameBut hs (cne y c e)⟩
    · obtain ⟨w',z⟩:=I.cell y c e
      exact ⟨w',z.sameBut hs (cne y c e)⟩
    · obtain ⟨e,n,ne,nf,d⟩:=I.pin p hp
      exact ⟨(hs.2 p.1 ne).trans e,n,ne,nf,d⟩
  · have hfn : X.fn x = true:=by
      rcases hf with z | z
      · exact z
      · rw [z] at hk; cases hk
    obtain ⟨c,hc⟩:=I.ok.has x (.inl hk)
    obtain ⟨w',z⟩:=I.cell x c hc
    refine wpAny_storeName_cell I.ok.kind hk hc z (fun h' hc' hs=>?_)
    obtain ⟨oc,hoc,hocd⟩:=id z
    refine h { s with heap:=h' } ⟨I.ok,I.os,I.bare,⟨fun b o e n hb hx=>?_,fun b o e n hb hx=>?_,I.base.free,fun b o e hx=>?_,I.base.tups,I.base.frzs,I.base.tbls⟩,⟨m,hn.sameBut hs (Ne.symm (cne x c hc)),fun j y v' e1 e2 e3=>?_⟩,fun y c' e=>?_,I.free,I.freeC,fun p hp=>?_,tracked ⟨oc,hoc,I.freeC x c hc⟩ hs,by simpa using I.len⟩ ⟨c,hs,.inr hc⟩
    · exact (hs.2 b (Nat.ne_of_lt (Nat.lt_of_lt_of_le (Heap.lt_size e) (I.ok.cab x c hfn hc)))).trans (I.base.keep b o e n hb hx)
    · obtain ⟨sl,e1⟩:=I.base.slot b o e n hb hx
      exact ⟨sl,(hs.2 b (Nat.ne_of_lt (Nat.lt_of_lt_of_le (Heap.lt_size e) (I.ok.cab x c hfn hc)))).trans e1⟩
    · obtain ⟨o',e1⟩:=I.base.there b o e hx
      exact ⟨o',(hs.2 b (Nat.ne_of_lt (Nat.lt_of_lt_of_le (Heap.lt_size e) (I.ok.cab x c hfn hc)))).trans e1⟩
    · by_cases hj : j = i
      · subst hj
        rw [hi] at e1; cases e1
        rw [List.getElem?_set_self hiσ] at e2
        cases e2
        exact ⟨u,r,.inr ⟨.inl hk,c,hc,hc'⟩⟩
      · rw [List.getElem?_set_ne (Ne.symm hj)] at e2
        obtain ⟨u',r',q⟩:=hl j y v' e1 e2 e3
        refine ⟨u',r',?_⟩
        rcases q with q | ⟨k,c',e,z'⟩
        · exact .inl q
        · refine .inr ⟨k,c',e,z'.sameBut hs ?_⟩
          rintro rfl
          exact hj (zjc hN e1 (I.ok.inj _ _ _ e hc ▸ hi))
    · by_cases hcc : c' = c
      · subst hcc; exact ⟨_,hc'⟩
      · obtain ⟨w2,z2⟩:=I.cell y c' e
        exact ⟨w2,z2.sameBut hs hcc⟩
    · obtain ⟨e,n,ne,nf,d⟩:=I.pin p hp
      refine ⟨(hs.2 p.1 ?_).trans e,n,ne,nf,d⟩
      intro q
      rw [q,hoc] at e
      have q' : oc = p.2:=Option.some.inj e
      exact d w' (by rw [← q']; exact hocd)
theorem ziK {M : Model} {A : Around} {E : Value→Shared→Prop} {i : Nat} {x : Str} {v : V} {u : Value} {Q : Unit→Shared→Prop} (I : Inv X pins σ H s) (hN : X.N.Nodup) (hi : X.N[i]? = some x) (hx : Loc X.env.scope x) (r : RelV v u)
    (h : ∀ s',Inv X pins (σ.set i (some v)) H s'→Q () s') (hf : X.fn x = true∨X.env.scope.names.lookup x = some .local:=by first | exact .inl rfl | exact .inr rfl | assumption) : wpAny M A (storeName X.env x u) Q E s:=
  zgZ I hN hi hx r (fun s' I' _=>h s' I') hf
theorem Inv.call' {s' : Shared} {ch : List Addr} (I : Inv X pins σ H s) (ho : s'.os = s.os) (u : Un (frs X.stack) ch H H' s.heap s'.heap) (hok : HOk X.prog X.w H' s'.heap) (hg : AllBare s'.gens)
    (hch : ∀ b∈ch,(b∈X.ex∨X.s₀.heap.objs.size≤b)∧b≠X.env.locals∧(∀ x c,X.env.cells.lookup x = some c→c≠b)∧∀ p∈X.pn ++ pins,p.1≠b) : Inv X pins σ H' s':=by
  obtain ⟨h',g',d',t',o'⟩:=s'
  have e : o' = s.os:=ho
  subst e
  exact I.call (g':=g') (t':=t') (d':=d') u hok hg hch
end
abbrev XK:=Value→Option Addr→Hp→Prop
abbrev St:=List (Option V)
abbrev VK:=V→Hp→Prop
abbrev TE:=St→Hp→VK→Prop
abbrev TT:=St→Hp→(Bool→Hp→Prop)→Prop
abbrev TA:=St→Hp→(List V→Hp→Prop)→Prop
structure Ends where
  nx : St→Hp→Prop
  rt : VK
  bk : St→Hp→Prop:=fun _ _=>False
  ct : St→Hp→Prop:=fun _ _=>False
abbrev TS:=Ends→St→Hp→Prop
def EP (X : Cx) (pins : List (Addr×Obj)) (σ : St) (Q : VK) (u : Value) (s' : Shared) : Prop:=∃ v H',Inv X pins σ H' s'∧RelV v u∧Q v H'
def TP (X : Cx) (pins : List (Addr×Obj)) (σ : St) (Q : Bool→Hp→Prop) (b : Bool) (s' : Shared) : Prop:=∃ H',Inv X pins σ H' s'∧Q b H'
def AP (X : Cx) (pins : List (Addr×Obj)) (σ : St) (Q : List V→Hp→Prop) (us : List Value) (s' : Shared) : Prop:=∃ vs H',Inv X pins σ H' s'∧Vals vs us∧Q vs H'
def SP (X : Cx) (pins : List (Addr×Obj)) (D : Ends) (f : Flow) (s' : Shared) : Prop:=
  match f with
  | .next=>∃ σ' H',Inv X pins σ' H' s'∧D.nx σ' H'
  | .brk=>∃ σ' H',Inv X pins σ' H' s'∧D.bk σ' H'
  | .cont=>∃ σ' H',Inv X pins σ' H' s'∧D.ct σ' H'
  | .ret u=>∃ v σ' H',Inv X pins σ' H' s'∧RelV v u∧D.rt v H'
def PE (X : Cx) (e : Expr) (t : TE) : Prop:=
  ∀ (pins : List (Addr×Obj)) (s : Shared) (σ : St) (H : Hp) (Q : VK),Inv X pins σ H s→t σ H Q→wpAny (model X.prog X.w) X.A (eval e X.env) (EP X pins σ Q) X.xe s
def PT (X : Cx) (e : Expr) (t : TT) : Prop:=
  ∀ (pins : List (Addr×Obj)) (s : Shared) (σ : St) (H : Hp) (Q : Bool→Hp→Prop),Inv X pins σ H s→t σ H Q→wpAny (model X.prog X.w) X.A (isTrue e X.env (eval e X.env)) (TP X pins σ Q) X.xe s
def PW (X : Cx) (e : Expr) (t : TT) : Prop:=
  ∀ (whole : Sem Value) (pins : List (Addr×Obj)) (s : Shared) (σ : St) (H : Hp) (Q : Bool→Hp→Prop),Inv X pins σ H s→t σ H Q→wpAny (model X.prog X.w) X.A (isTrue e X.env whole) (TP X pins σ Q) X.xe s
theorem PW.pt {X : Cx} {e : Expr} {t : TT} (h : PW X e t) : PT X e t:=h _
def PA (X : Cx) (es : List Expr) (t : TA) : Prop:=
  ∀ (pos : Pos) (pins : List (Addr×Obj)) (s : Shared) (σ : St) (H : Hp) (Q : List V→Hp→Prop),Inv X pins σ H s→t σ H Q→wpAny (model X.prog X.w) X.A (spliced (backTo pos (starEach es X.env))) (AP X pins σ Q) X.xe s
def PS (X : Cx) (st : Stmt) (t : TS) : Prop:=
  ∀ (pins : List (Addr×Obj)) (s : Shared) (σ : St) (H : Hp) (D : Ends),Inv X pins σ H s→t D σ H→wpAny (model X.prog X.w) X.A (exec st X.env) (SP X pins D) X.xe s
def PSs (X : Cx) (st : List Stmt) (t : TS) : Prop:=
  ∀ (pins : List (Addr×Obj)) (s : Shared) (σ : St) (H : Hp) (D : Ends),Inv X pins σ H s→t D σ H→wpAny (model X.prog X.w) X.A (execs st X.env) (SP X pins D) X.xe s
theorem thn {α : Type} {t : Sem α} {Q Q' : α→Shared→Prop} {M : Model} {A : Around} {E : Value→Shared→Prop} {s : Shared} (h : wpAny M A t Q E s) (hQ : ∀ a s,Q a s→Q' a s) : wpAny M A t Q' E s:=wpAny_mono h hQ fun _ _ x=>x
end L2
namespace L2
open PySem PySem.Spec PyProof.Rows
section
variable {X : Cx}
def tVar (i : Nat) : TE:=fun σ H Q=>∃ v,σ[i]? = some (some v)∧Q v H
def tC (v : V) : TE:=fun _ H Q=>Q v H
theorem pe_var {i : Nat} {x : Str} {pos : Pos} (hN : X.N[i]? = some x) (hv : Vis X.env.scope x) (hd : (x == ("__debug__" : Str)) = false:=by decide) (hcd : (x == ("__classdict__" : Str)) = false:=by decide) : PE X (.Name x pos) (tVar i):=by
  intro pins s σ H Q I h
  obtain ⟨v,e,h⟩:=h
  obtain ⟨m,hn,hl⟩:=I.loc
  obtain ⟨u,r,l⟩:=hl i x v hN e hv
  have fin : EP X pins σ Q u s:=⟨v,H,I,r,h⟩
  rcases l with ⟨hk,hm⟩ | ⟨hk,c,hc,hcell⟩
  · exact wpAny_Name (wpAny_loadName_local I.ok.kind hk hn hm fin) hd
  · rcases hk with hk | hk
    · exact wpAny_Name (wpAny_loadName_cell I.ok.kind hk hc hcell fin) hd
    · exact wpAny_Name (wpAny_loadName_free I.ok.kind hk hc hcell fin hcd) hd
theorem zae {i j pos} : PE X (.Constant (.int i) j pos) (tC (.int i)):=fun _ _ _ H _ I h=>wpAny_Constant_int ⟨.int i,H,I.tok _,⟨_,rfl⟩,h⟩
theorem zgr {b j pos} : PE X (.Constant (.bool b) j pos) (tC (.bl b)):=fun _ _ _ H _ I h=>Constant_bool ⟨.bl b,H,I,rfl,h⟩
theorem pe_non {j pos} : PE X (.Constant .none j pos) (tC .non):=fun _ _ _ H _ I h=>Constant_none ⟨.non,H,I,rfl,h⟩
theorem zdg {x j pos} : PE X (.Constant (.str x) j pos) (tC (.str x)):=fun _ _ _ H _ I h=>Calls.Constant_str ⟨.str x,H,I.tok _,⟨_,rfl⟩,h⟩
def Gl (X : Cx) (x : Str) : Prop:=X.env.kindOf x = some .globalImplicit
theorem zgC {E : Value→Shared→Prop} {pins : List (Addr×Obj)} {s : Shared} {σ : St} {H : Hp} {x : Str} {u : Value} {pos : Pos} {Q : Value→Shared→Prop} (I : Inv X pins σ H s) (hg : Gl X x) (hm : X.mg x = some u) (h : Q u s)
    (hd : (x == ("__debug__" : Str)) = false:=by decide) : wpAny (model X.prog X.w) X.A (eval (.Name x pos) X.env) Q E s:=
  Calls.Name_function_global I.ok.kind hg (Calls.loadGlobal_global (by rw [I.ok.glob]; exact I.mod.glob.keeps I.bk) hm h) hd
theorem zeh {E : Value→Shared→Prop} {pins : List (Addr×Obj)} {s : Shared} {σ : St} {H : Hp} {x : Str} {u : Value} {pos : Pos} {Q : Value→Shared→Prop} (I : Inv X pins σ H s) (hg : Gl X x) (hm : X.mg x = none) (hv : bootBuiltins x = some u) (h : Q u s)
    (hn : x ≠ "__name__":=by decide) (hd : (x == ("__debug__" : Str)) = false:=by decide) : wpAny (model X.prog X.w) X.A (eval (.Name x pos) X.env) Q E s:=by
  obtain ⟨mb,h1,h2⟩:=I.mod.blt
  exact Calls.Name_function_global I.ok.kind hg (Calls.loadGlobal_builtin (by rw [I.ok.glob]; exact I.mod.glob.keeps I.bk) hm (by rw [I.ok.blt]; exact h1.keeps I.bk) ((h2 x hn).trans hv) h) hd
theorem zom {x : Str} {v : V} {u : Value} {pos : Pos} (hg : Gl X x) (hm : X.mg x = some u) (r : RelV v u) (hd : (x == ("__debug__" : Str)) = false:=by decide) : PE X (.Name x pos) (tC v):=
  fun _ _ _ H _ I h=>zgC I hg hm ⟨v,H,I,r,h⟩ hd
theorem zk2 {x : Str} {v : V} {u : Value} {pos : Pos} (hg : Gl X x) (hm : X.mg x = none) (hv : bootBuiltins x = some u) (r : RelV v u) (hn : x ≠ "__name__":=by decide) (hd : (x == ("__debug__" : Str)) = false:=by decide) : PE X (.Name x pos) (tC v):=
  fun _ _ _ H _ I h=>zeh I hg hm hv ⟨v,H,I,r,h⟩ hn hd
def t2I (ta tb : TE) (k : Int→Int→Hp→Prop) : St→Hp→Prop:=fun σ H=>ta σ H fun x H1=>tb σ H1 fun y H2=>∃ i j,x = .int i∧y = .int j∧k i j H2
def tAdd (ta tb : TE) : TE:=fun σ H Q=>t2I ta tb (fun i j H2=>Q (.int (i + j)) H2) σ H
def tSub (ta tb : TE) : TE:=fun σ H Q=>t2I ta tb (fun i j H2=>Q (.int (i - j)) H2) σ H
def tMul (ta tb : TE) : TE:=fun σ H Q=>t2I ta tb (fun i j H2=>(-(2 ^ 64) < i∧i < 2 ^ 64)∧Q (.int (i * j)) H2) σ H
variable {a b : Expr} {ta tb : TE} {pos : Pos}
def PC (X : Cx) (op : CmpOp) (a b : Expr) (t : TE) : Prop:=
  ∀ (pins : List (Addr×Obj)) (s : Shared) (σ : St) (H : Hp) (Q : VK),Inv X pins σ H s→t σ H Q→
    wpAny (model X.prog X.w) X.A (eval a X.env) (fun v s₁=>wpAny (model X.prog X.w) X.A (eval b X.env) (fun u s₂=>wpAny (model X.prog X.w) X.A (compareOp op v u) (EP X pins σ Q) X.xe s₂) X.xe s₁) X.xe s
def tCmp (p : Int→Int→Bool) (ta tb : TE) : TE:=fun σ H Q=>t2I ta tb (fun i j H2=>Q (.bl (p i j)) H2) σ H
abbrev tLt : TE→TE→TE:=tCmp fun i j=>decide (i < j)
abbrev tLe : TE→TE→TE:=tCmp fun i j=>decide (i≤j)
abbrev tGt : TE→TE→TE:=tCmp fun i j=>decide (j < i)
abbrev tGe : TE→TE→TE:=tCmp fun i j=>decide (j≤i)
abbrev tEqI : TE→TE→TE:=tCmp fun i j=>decide (i = j)
abbrev tNeI : TE→TE→TE:=tCmp fun i j=>!decide (i = j)
def tIsN (ta : TE) : TE:=fun σ H Q=>ta σ H fun x H1=>Q (.bl (decide (x = .non))) H1
def tNotN (ta : TE) : TE:=fun σ H Q=>ta σ H fun x H1=>Q (.bl (!decide (x = .non))) H1
def tB (t : TE) : TT:=fun σ H Q=>t σ H fun x H1=>∃ c,x = .bl c∧Q c H1
theorem zhe {e : Expr} {t : TE} (h : PE X e t) (he : ∀ whole,isTrue e X.env whole = (do let v ← whole; standAt e.pos; holding [v] (truthy v)):=by intro _; rfl) : PT X e (tB t):=by
  intro pins s σ H Q I hw
  refine isTrue_plain (thn (h pins s σ H _ I hw) fun v s1 ⟨x,H1,I1,r1,q1⟩=>?_) (he _)
  obtain ⟨d,rfl,q⟩:=q1
  cases r1
  exact wpAny_truthy_bool ⟨H1,I1,q⟩
variable {tA tB' : TT} {rest : List Expr}
def tAnd (t u : TT) : TT:=fun σ H Q=>t σ H fun c H1=>if c = true then u σ H1 Q else Q false H1
def tOr (t u : TT) : TT:=fun σ H Q=>t σ H fun c H1=>if c = true then Q true H1 else u σ H1 Q
def tNot (t : TT) : TT:=fun σ H Q=>t σ H fun c H1=>Q (!c) H1
theorem zfh (ha : PT X a tA) : PW X (.BoolOp .And [a] pos) tA:=by
  intro wh pins s σ H Q I h
  refine isTrue_and (thn (ha pins s σ H Q I h) fun c s1 e=>?_)
  cases c with
  | true=>exact isTrue_and_nil e
  | false=>exact e
theorem zi0 (ha : PT X a tA) : PW X (.BoolOp .Or [a] pos) tA:=by
  intro wh pins s σ H Q I h
  refine isTrue_or (thn (ha pins s σ H Q I h) fun c s1 e=>?_)
  cases c with
  | false=>exact isTrue_or_nil e
  | true=>exact e
theorem zhd (ha : PT X a tA) (hb : PW X (.BoolOp .And (b :: rest) pos) tB') : PW X (.BoolOp .And (a :: b :: rest) pos) (tAnd tA tB'):=by
  intro wh pins s σ H Q I h
  refine isTrue_and (thn (ha pins s σ H _ I h) fun c s1 ⟨H1,I1,q1⟩=>?_)
  cases c with
  | true=>exact hb wh pins s1 σ H1 Q I1 q1
  | false=>exact ⟨H1,I1,q1⟩
theorem zmy (ha : PT X a tA) (hb : PW X (.BoolOp .Or (b :: rest) pos) tB') : PW X (.BoolOp .Or (a :: b :: rest) pos) (tOr tA tB'):=by
  intro wh pins s σ H Q I h
  refine isTrue_or (thn (ha pins s σ H _ I h) fun c s1 ⟨H1,I1,q1⟩=>?_)
  cases c with
  | true=>exact ⟨H1,I1,q1⟩
  | false=>exact hb wh pins s1 σ H1 Q I1 q1
theorem znH (ha : PT X a tA) : PT X (.UnaryOp .Not a pos) (tNot tA):=by
  intro pins s σ H Q I h
  exact isTrue_not (ha pins s σ H (fun c H1=>Q (!c) H1) I h)
def tAndV (ta tb : TE) : TE:=fun σ H Q=>ta σ H fun x H1=>∃ c,x = .bl c∧if c = true then tb σ H1 Q else Q (.bl false) H1
def tOrV (ta tb : TE) : TE:=fun σ H Q=>ta σ H fun x H1=>∃ c,x = .bl c∧if c = true then Q (.bl true) H1 else tb σ H1 Q
def tNotV (ta : TE) : TE:=fun σ H Q=>ta σ H fun x H1=>∃ c,x = .bl c∧Q (.bl (!c)) H1
theorem znJ {op} {t : TE} (h : PE X a t) : PE X (.BoolOp op [a] pos) t:=fun pins s σ H Q I hw=>BoolOp_one (h pins s σ H Q I hw)
theorem znK (ha : PE X a ta) (hb : PE X (.BoolOp .And (b :: rest) pos) tb) : PE X (.BoolOp .And (a :: b :: rest) pos) (tAndV ta tb):=by
  intro pins s σ H Q I h
  refine BoolOp_and (thn (ha pins s σ H _ I h) fun v s1 ⟨x,H1,I1,r1,q1⟩=>?_)
  obtain ⟨c,rfl,q1⟩:=q1
  cases r1
  refine wpAny_truthy_bool ?_
  cases c with
  | true=>exact hb pins s1 σ H1 Q I1 q1
  | false=>exact ⟨.bl false,H1,I1,rfl,q1⟩
theorem pe_not (ha : PE X a ta) : PE X (.UnaryOp .Not a pos) (tNotV ta):=by
  intro pins s σ H Q I h
  refine UnaryOp_ (thn (ha pins s σ H _ I h) fun v s1 ⟨x,H1,I1,r1,q1⟩=>?_)
  obtain ⟨c,rfl,q1⟩:=q1
  cases r1
  exact not_of (wpAny_truthy_bool ⟨.bl (!c),H1,I1,rfl,q1⟩)
def tIf (t : TT) (ta tb : TE) : TE:=fun σ H Q=>t σ H fun c H1=>if c = true then ta σ H1 Q else tb σ H1 Q
theorem zi4 {c : Expr} (hc : PT X c tA) (ha : PE X a ta) (hb : PE X b tb) : PE X (.IfExp c a b pos) (tIf tA ta tb):=by
  intro pins s σ H Q I h
  refine wpAny_IfExp (thn (hc pins s σ H _ I h) fun d s1 ⟨H1,I1,q1⟩=>?_)
  cases d with
  | true=>exact ha pins s1 σ H1 Q I1 q1
  | false=>exact hb pins s1 σ H1 Q I1 q1
end
end L2
namespace L2
open PySem PySem.Spec PyProof.Rows
def SqL (K : PySem.W.Frag) (H : Hp) (a : Addr) (xs : List V) : Prop:=
  Rd H a (.lst xs)∨
    ∃ (o : Obj) (its : Array Value) (n : Nat),K.lookup a = some o∧o.cls = .type "list"∧o.dict = none∧o.data = .seq its n∧its.size≤sizeLine∧Vals xs its.toList
def SqT (K : PySem.W.Frag) (H : Hp) (a : Addr) (xs : List V) : Prop:=
  Rd H a (.tup xs)∨
    ∃ (o : Obj) (its : Array Value) (n : Nat),K.lookup a = some o∧o.cls = .type "tuple"∧o.data = .seq its n∧its.size≤sizeLine∧Vals xs its.toList
def absV : Value→Option V
  | .none=>some .non
  | .bool b=>some (.bl b)
  | .int i _=>some (.int i)
  | .str x _=>some (.str x)
  | .bytes b _=>some (.byt b)
  | .float b _=>some (.flt b)
  | .ref a=>some (.ref a)
  | .type n=>some (.ty n)
  | _=>none
theorem RelV.abs {x : V} {u : Value} (r : RelV x u) : absV u = some x:=by
  cases x with
  | non=>cases r; rfl
  | bl _=>cases r; rfl
  | int _=>obtain ⟨t,rfl⟩:=r; rfl
  | str _=>obtain ⟨t,rfl⟩:=r; rfl
  | byt _=>obtain ⟨t,rfl⟩:=r; rfl
  | flt _=>obtain ⟨t,rfl⟩:=r; rfl
  | ref _=>cases r; rfl
  | ty _=>cases r; rfl
theorem RelV.inj {x y : V} {u : Value} (r : RelV x u) (q : RelV y u) : x = y:=Option.some.inj (r.abs.symm.trans q.abs)
theorem Vals.inj : ∀ {xs ys : List V} {us : List Value},Vals xs us→Vals ys us→xs = ys
  | _,_,_,.nil,.nil=>rfl
  | _,_,_,.cons r t,.cons r' t'=>by rw [r.inj r',Vals.inj t t']
section
variable {X : Cx} {pins : List (Addr×Obj)} {σ : St} {H : Hp} {s : Shared} {a : Addr} {xs ys : List V}
theorem SqL.of {K : PySem.W.Frag} (h : H a = some (.lst xs)) : SqL K H a xs:=.inl (.inl h)
theorem SqT.of {K : PySem.W.Frag} (h : H a = some (.tup xs)) : SqT K H a xs:=.inl (.inl h)
theorem Inv.list (I : Inv X pins σ H s) (h : SqL X.K H a xs) : ∃ its : List Value,Vals xs its∧PlainL s.heap a its.toArray∧xs.length≤sizeLine:=by
  rcases h with h | ⟨o,its,n,hk,hc,hd,hs,hz,r⟩
  · obtain ⟨z,its,n,r,e⟩:=h.ok I.hok
    exact ⟨its,r,⟨_,n,e,rfl,rfl,rfl⟩,z⟩
  · refine ⟨its.toList,r,⟨o,n,I.kIn a o hk,hc,hd,by simpa using hs⟩,?_⟩
    have e:=r.length
    simp only [Array.length_toList] at e
    omega
theorem Inv.tuple (I : Inv X pins σ H s) (h : SqT X.K H a xs) : ∃ its : List Value,Vals xs its∧IsTup s.heap a its.toArray∧xs.length≤sizeLine:=by
  rcases h with h | ⟨o,its,n,hk,hc,hs,hz,r⟩
  · obtain ⟨z,its,r,p⟩:=h.ok I.hok
    exact ⟨its,r,p,z⟩
  · refine ⟨its.toList,r,⟨o,I.kIn a o hk,hc,n,by simpa using hs⟩,?_⟩
    have e:=r.length
    simp only [Array.length_toList] at e
    omega
theorem Inv.list_inj (I : Inv X pins σ H s) (h : SqL X.K H a xs) (h' : SqL X.K H a ys) : xs = ys:=by
  obtain ⟨its,r,⟨o,n,e,_,_,d⟩,_⟩:=I.list h
  obtain ⟨its',r',⟨o',n',e',_,_,d'⟩,_⟩:=I.list h'
  rw [e] at e'; cases e'
  rw [d] at d'
  injection d' with d1 _
  have : its = its':=by simpa using congrArg Array.toList d1
  subst this
  exact r.inj r'
theorem Inv.tuple_inj (I : Inv X pins σ H s) (h : SqT X.K H a xs) (h' : SqT X.K H a ys) : xs = ys:=by
  obtain ⟨its,r,⟨o,e,_,n,d⟩,_⟩:=I.tuple h
  obtain ⟨its',r',⟨o',e',_,n',d'⟩,_⟩:=I.tuple h'
  rw [e] at e'; cases e'
  rw [d] at d'
  injection d' with d1 _
  have : its = its':=by simpa using congrArg Array.toList d1
  subst this
  exact r.inj r'
end
abbrev Cx.wish (X : Cx) (E : Value→Shared→Prop) : Cx:={ X with xe:=E }
abbrev Cx.nox (X : Cx) : Cx:=X.wish fun _ _=>False
theorem Cx.Ok.wish {X : Cx} (ok : X.Ok) (E : Value→Shared→Prop) : (X.wish E).Ok:=
  ⟨ok.mod,ok.kind,ok.glob,ok.blt,ok.above,ok.inj,ok.has,ok.cab,ok.hd,ok.frames,ok.stk,ok.exf,ok.bs,ok.bsz,ok.noex,ok.exfs,ok.funs,ok.frf⟩
theorem Cx.Ok.unwish {X : Cx} {E : Value→Shared→Prop} (ok : (X.wish E).Ok) : X.Ok:=
  ⟨ok.mod,ok.kind,ok.glob,ok.blt,ok.above,ok.inj,ok.has,ok.cab,ok.hd,ok.frames,ok.stk,ok.exf,ok.bs,ok.bsz,ok.noex,ok.exfs,ok.funs,ok.frf⟩
section
variable {X : Cx} {pins : List (Addr×Obj)} {σ : St} {H : Hp} {s : Shared} {E : Value→Shared→Prop}
theorem Inv.wish (I : Inv X pins σ H s) (E : Value→Shared→Prop) : Inv (X.wish E) pins σ H s:=⟨I.ok.wish E,I.os,I.bare,I.base,I.loc,I.cell,I.free,I.freeC,I.pin,I.hok,I.len⟩
theorem Inv.unwish (I : Inv (X.wish E) pins σ H s) : Inv X pins σ H s:=⟨I.ok.unwish,I.os,I.bare,I.base,I.loc,I.cell,I.free,I.freeC,I.pin,I.hok,I.len⟩
theorem SP.unwish {D : Ends} {f : Flow} {s' : Shared} (h : SP (X.wish E) pins D f s') : SP X pins D f s':=by
  cases f with
  | next=>obtain ⟨σ',H',I,q⟩:=h; exact ⟨σ',H',I.unwish,q⟩
  | brk=>obtain ⟨σ',H',I,q⟩:=h; exact ⟨σ',H',I.unwish,q⟩
  | cont=>obtain ⟨σ',H',I,q⟩:=h; exact ⟨σ',H',I.unwish,q⟩
  | ret u=>obtain ⟨v,σ',H',I,r,q⟩:=h; exact ⟨v,σ',H',I.unwish,r,q⟩
theorem PE.nox {e : Expr} {t : TE} (h : PE X.nox e t) : PE X e t:=fun pins s σ H Q I hw=>
  wpAny_mono (h pins s σ H Q (I.wish _) hw) (fun _ _ ⟨v,H',I',r,q⟩=>⟨v,H',I'.unwish,r,q⟩) fun _ _ z=>False.elim z
theorem PT.nox {e : Expr} {t : TT} (h : PT X.nox e t) : PT X e t:=fun pins s σ H Q I hw=>
  wpAny_mono (h pins s σ H Q (I.wish _) hw) (fun _ _ ⟨H',I',q⟩=>⟨H',I'.unwish,q⟩) fun _ _ z=>False.elim z
theorem PSs.nox {st : List Stmt} {t : TS} (h : PSs X.nox st t) : PSs X st t:=fun pins s σ H D I hw=>
  wpAny_mono (h pins s σ H D (I.wish _) hw) (fun _ _ q=>q.unwish) fun _ _ z=>False.elim z
end
section
variable {X : Cx} {st : Stmt} {rest : List Stmt} {t u : TS} {e : Expr} {te : TE} {pos : Pos}
def tNext : TS:=fun D σ H=>D.nx σ H
def tSeq (t u : TS) : TS:=fun D σ H=>t { D with nx:=u D } σ H
theorem za5 : PSs X [] tNext:=fun _ _ σ H _ I h=>wpAny_execs_nil ⟨σ,H,I,h⟩
theorem zaf (h1 : PS X st t) (h2 : PSs X rest u) : PSs X (st :: rest) (tSeq t u):=by
  intro pins s σ H D I h
  refine wpAny_execs_cons (thn (h1 pins s σ H { D with nx:=u D } I h) fun f s1 q=>?_)
  cases f with
  | next=>
    obtain ⟨σ',H',I',q⟩:=q
    exact h2 pins s1 σ' H' D I' q
  | ret v=>exact q
  | brk=>exact q
  | cont=>exact q
theorem zah (h1 : PS X st t) : PSs X [st] t:=by
  intro pins s σ H D I h
  refine wpAny_execs_cons (thn (h1 pins s σ H D I h) fun f s1 q=>?_)
  cases f with
  | next=>exact wpAny_execs_nil q
  | ret v=>exact q
  | brk=>exact q
  | cont=>exact q
def tBreak : TS:=fun D σ H=>D.bk σ H
def tCont : TS:=fun D σ H=>D.ct σ H
theorem Inv.quiet {pins : List (Addr×Obj)} {σ : St} {H : Hp} {s : Shared} (I : Inv X pins σ H s) : interactive X.env = false:=by simp [interactive,I.ok.kind]
def tDrop (te : TE) : TS:=fun D σ H=>te σ H fun _ H1=>D.nx σ H1
theorem zbz (he : PE X e te) (hs : swapsWith e none pos.line X.env = pure false:=by rfl) : PS X (.Expr e pos) (tDrop te):=by
  intro pins s σ H D I h
  exact wpAny_Expr_any (thn (he pins s σ H _ I h) fun v s1 ⟨x,H1,I1,r1,q1⟩=>⟨σ,H1,I1,q1⟩) I.quiet hs
def tRet (te : TE) : TS:=fun D σ H=>te σ H D.rt
theorem zar (he : PE X e te) : PS X (.Return (some e) pos) (tRet te):=by
  intro pins s σ H D I h
  exact wpAny_Return_some (thn (he pins s σ H _ I h) fun v s1 ⟨x,H1,I1,r1,q1⟩=>⟨x,σ,H1,I1,r1,q1⟩)
def tRetN : TS:=fun D _ H=>D.rt .non H
def tIfS (c : TT) (t u : TS) : TS:=fun D σ H=>c σ H fun b H1=>if b = true then t D σ H1 else u D σ H1
theorem zcy {c : Expr} {a b : List Stmt} {tc : TT} (hc : PT X c tc) (ha : PSs X a t) (hb : PSs X b u) : PS X (.If c a b pos) (tIfS tc t u):=by
  intro pins s σ H D I h
  refine wpAny_If (thn (hc pins s σ H _ I h) fun d s1 ⟨H1,I1,q1⟩=>?_)
  cases d with
  | true=>exact ha pins s1 σ H1 D I1 q1
  | false=>exact hb pins s1 σ H1 D I1 q1
def tNever : TS:=fun _ _ _=>False
theorem zmz : PS X st tNever:=fun _ _ _ _ _ _ h=>h.elim
end
abbrev TG:=V→St→Hp→(St→Hp→Prop)→Prop
abbrev TGs:=List V→St→Hp→(St→Hp→Prop)→Prop
def PG (X : Cx) (target : Expr) (t : TG) : Prop:=
  ∀ (pins : List (Addr×Obj)) (s : Shared) (σ : St) (H : Hp) (v : V) (u : Value) (Q : St→Hp→Prop),Inv X pins σ H s→RelV v u→t v σ H Q→
    wpAny (model X.prog X.w) X.A (assign target X.env u) (fun _ s'=>∃ σ' H',Inv X pins σ' H' s'∧Q σ' H') X.xe s
def PGs (X : Cx) (ts : List Expr) (t : TGs) : Prop:=
  ∀ (pins : List (Addr×Obj)) (s : Shared) (σ : St) (H : Hp) (vs : List V) (us : List Value) (Q : St→Hp→Prop),Inv X pins σ H s→Vals vs us→t vs σ H Q→
    wpAny (model X.prog X.w) X.A (assignInOrder ((assignEach ts X.env).map (·.2)) us) (fun _ s'=>∃ σ' H',Inv X pins σ' H' s'∧Q σ' H') X.xe s
abbrev TSet:=V→V→V→Hp→(Hp→Prop)→Prop
def PSet (X : Cx) (t : TSet) : Prop:=
  ∀ (pins : List (Addr×Obj)) (s : Shared) (σ : St) (H : Hp) (o i v : V) (ov iv u : Value) (Q : Hp→Prop),Inv X pins σ H s→RelV o ov→RelV i iv→RelV v u→t o i v H Q→
    wpAny (model X.prog X.w) X.A (setItem ov iv u) (fun _ s'=>∃ H',Inv X pins σ H' s'∧Q H') X.xe s
abbrev TIp:=V→V→Hp→VK→Prop
def PIp (X : Cx) (op : Operator) (t : TIp) : Prop:=
  ∀ (pins : List (Addr×Obj)) (s : Shared) (σ : St) (H : Hp) (x y : V) (v u : Value) (Q : VK),Inv X pins σ H s→RelV x v→RelV y u→t x y H Q→
    wpAny (model X.prog X.w) X.A (inplaceOp op v u) (EP X pins σ Q) X.xe s
section
variable {X : Cx} {pos : Pos}
def zij (i : Nat) : TG:=fun v σ H Q=>Q (σ.set i (some v)) H
theorem zao {i : Nat} {x : Str} (hN : X.N.Nodup) (hi : X.N[i]? = some x) (hx : Loc X.env.scope x) (hf : X.fn x = true∨X.env.scope.names.lookup x = some .local:=by first | exact .inl rfl | exact .inr rfl | assumption) : PG X (.Name x pos) (zij i):=by
  intro pins s σ H v u Q I r h
  exact wpAny_assign_Name (ziK I hN hi hx r (fun s' I'=>⟨_,H,I',h⟩) hf)
def gNil : TGs:=fun vs σ H Q=>vs = []∧Q σ H
def gCons (t : TG) (u : TGs) : TGs:=fun vs σ H Q=>∃ v r,vs = v :: r∧t v σ H fun σ' H'=>u r σ' H' Q
theorem zdf : PGs X [] gNil:=by
  intro pins s σ H vs us Q I r h
  obtain ⟨e,h⟩:=h
  subst e
  cases r
  exact assignInOrder_nil ⟨σ,H,I,h⟩
theorem zaT {e : Expr} {es : List Expr} {t : TG} {u : TGs} (h1 : PG X e t) (h2 : PGs X es u)
    (hs : (assignEach (e :: es) X.env).map (·.2) = assign e X.env :: (assignEach es X.env).map (·.2):=by rfl) : PGs X (e :: es) (gCons t u):=by
  intro pins s σ H vs us Q I r h
  obtain ⟨v,vr,e1,h⟩:=h
  subst e1
  cases r with
  | cons r rr=>
    rw [hs]
    refine assignInOrder_cons (thn (h1 pins s σ H _ _ _ I r h) fun _ s1 ⟨σ1,H1,I1,q1⟩=>?_)
    exact h2 pins s1 σ1 H1 _ _ Q I1 rr q1
def gTup (K : PySem.W.Frag) (n : Nat) (t : TGs) : TG:=fun v σ H Q=>∃ a xs,v = .ref a∧SqT K H a xs∧xs.length = n∧t xs σ H Q
theorem zfm {es : List Expr} {k : Nat} {t : TGs} {n : Nat} (hc : X.calm = true) (h : PGs X es t)
    (hn : (assignEach es X.env).length = n:=by rfl) (hst : (assignEach es X.env).findIdx? (·.1) = none:=by rfl) : PG X (.Tuple es k pos) (gTup X.K n t):=by
  intro pins s σ H v u Q I r hw
  obtain ⟨a,xs,e1,hq,hl,hw⟩:=hw
  subst e1
  cases r
  obtain ⟨its,rv,ht,hz⟩:=I.tuple hq
  refine assign_Tuple_tuple (I.ok.hd hc) ht (by simp [hn,← hl,rv.length]) hst fun h' hx=>?_
  have I1 : Inv X pins σ H { s with heap:=h' }:=I.kept (t':=s.toks) fun b o e=>hx b o (Nat.ne_of_lt (Heap.lt_size e)) e
  exact h pins _ σ H xs _ Q I1 (by simpa using rv) hw
def gSub (to ti : TE) (t : TSet) : TG:=fun v σ H Q=>to σ H fun o H1=>ti σ H1 fun i H2=>t o i v H2 fun H3=>Q σ H3
theorem zi3 {o i : Expr} {to ti : TE} {t : TSet} (ho : PE X o to) (hi : PE X i ti) (hs : PSet X t)
    (ha : ∀ v,assign (.Subscript o i pos) X.env v = (do
      let ov ← holding [v] (eval o X.env)
      let iv ← holding [v,ov] (eval i X.env)
      standAt pos
      holding [v,ov,iv] (setItem ov iv v)
      release [v,ov,iv] []):=by intro _; rfl) : PG X (.Subscript o i pos) (gSub to ti t):=by
  intro pins s σ H v u Q I r h
  rw [ha]
  refine wpAny_bind (wpAny_holding (thn (ho pins s σ H _ I h) fun ov s1 ⟨x,H1,I1,r1,q1⟩=>?_))
  refine wpAny_bind (wpAny_holding (thn (hi pins s1 σ H1 _ I1 q1) fun iv s2 ⟨y,H2,I2,r2,q2⟩=>?_))
  refine wpAny_bind (wpAny_standAt (wpAny_bind (wpAny_holding (thn (hs pins s2 σ H2 x y v ov iv u _ I2 r1 r2 r q2) fun _ s3 ⟨H3,I3,q3⟩=>?_))))
  exact wpAny_release ⟨σ,H3,I3,q3⟩
def tAsg (te : TE) (g : TG) : TS:=fun D σ H=>te σ H fun x H1=>g x σ H1 D.nx
theorem zi2 {tg e : Expr} {te : TE} {g : TG} (he : PE X e te) (hg : PG X tg g) (hs : swapsWithSole [tg] e pos.line X.env = pure false:=by rfl) (hw : swappedStores [tg] e X.env = pure none:=by rfl)
    (h1 : (assignEach [tg] X.env).map (·.2) = [assign tg X.env]:=by rfl) : PS X (.Assign [tg] e pos) (tAsg te g):=by
  intro pins s σ H D I h
  refine wpAny_Assign_stores (thn (he pins s σ H _ I h) fun v s1 ⟨x,H1,I1,r1,q1⟩=>?_) hs hw
  rw [h1]
  exact thn (hg pins s1 σ H1 x v _ I1 r1 q1) fun _ s2 q=>q
theorem zap {i : Nat} {x : Str} {e : Expr} {te : TE} {pos' : Pos} (hN : X.N.Nodup) (hi : X.N[i]? = some x) (hx : Loc X.env.scope x) (he : PE X e te) (hs : swapsWith e (some (.Name x pos')) pos.line X.env = pure false:=by rfl) (hf : X.fn x = true∨X.env.scope.names.lookup x = some .local:=by first | exact .inl rfl | exact .inr rfl | assumption) :
    PS X (.Assign [.Name x pos'] e pos) (tAsg te (zij i)):=by
  intro pins s σ H D I h
  refine wpAny_Assign_Name (thn (he pins s σ H _ I h) fun v s1 ⟨y,H1,I1,r1,q1⟩=>?_) hs
  exact ziK I1 hN hi hx r1 (fun s2 I2=>⟨_,H1,I2,q1⟩) hf
def tPar (i j : Nat) (ta : TA) : TS:=fun D σ H=>ta σ H fun vs H1=>∃ v w,vs = [v,w]∧D.nx ((σ.set i (some v)).set j (some w)) H1
def tAug (i : Nat) (te : TE) (ti : TIp) : TS:=fun D σ H=>∃ x,σ[i]? = some (some x)∧te σ H fun y H1=>ti x y H1 fun z H2=>D.nx (σ.set i (some z)) H2
def tAugS (to ti te : TE) (tget : V→V→Hp→VK→Prop) (tip : TIp) (tset : TSet) : TS:=fun D σ H=>to σ H fun o H1=>ti σ H1 fun i H2=>tget o i H2 fun x H3=>te σ H3 fun y H4=>tip x y H4 fun z H5=>tset o i z H5 fun H6=>D.nx σ H6
def PGet (X : Cx) (t : V→V→Hp→VK→Prop) : Prop:=
  ∀ (pins : List (Addr×Obj)) (s : Shared) (σ : St) (H : Hp) (o i : V) (ov iv : Value) (Q : VK),Inv X pins σ H s→RelV o ov→RelV i iv→t o i H Q→
    wpAny (model X.prog X.w) X.A (getItem ov iv) (EP X pins σ Q) X.xe s
def ipI (f : Int→Int→Int) : TIp:=fun x y H Q=>∃ i j,x = .int i∧y = .int j∧Q (.int (f i j)) H
end
section
variable {X : Cx} {pos : Pos}
def zkv (c : TT) (tb : TS) : TS:=fun D σ H=>∃ W : Nat→St→Hp→Prop,(∃ m,W m σ H)∧∀ m σ H,W m σ H→
  c σ H fun b H1=>if b = true then ∃ N : St→Hp→Prop,(∀ σ' H',N σ' H'→∃ m',m' < m∧W m' σ' H')∧tb { D with nx:=N,ct:=N,bk:=D.nx } σ H1 else D.nx σ H1
theorem zgm {c : Expr} {body : List Stmt} {tc : TT} {tb : TS} (hp : PassesOwn (model X.prog X.w) X.A X.env X.xe) (hc : PT X c tc) (hb : PSs X body tb) : PS X (.While c body [] pos) (zkv tc tb):=by
  intro pins s σ H D I h
  obtain ⟨W,⟨m0,w0⟩,turn⟩:=h
  refine wpAny_While (codeAny_whileLoop (fun n s'=>∃ σ' H',Inv X pins σ' H' s'∧W n σ' H') ?_ m0 ⟨σ,H,I,w0⟩)
  rintro n s1 ⟨σ1,H1,I1,w1⟩
  refine wpAny_passesOwn hp (thn (hc pins s1 σ1 H1 _ I1 (turn n σ1 H1 w1)) fun b s2 ⟨H2,I2,q2⟩=>?_)
  cases b with
  | true=>
    obtain ⟨N,hN,q2⟩:=q2
    rw [if_pos rfl]
    refine wpAny_passesOwn hp (thn (hb pins s2 σ1 H2 _ I2 q2) fun f s3 q3=>?_)
    cases f with
    | next=>
      obtain ⟨σ3,H3,I3,n3⟩:=q3
      obtain ⟨m',hm,w3⟩:=hN σ3 H3 n3
      exact ⟨m',hm,σ3,H3,I3,w3⟩
    | cont=>
      obtain ⟨σ3,H3,I3,n3⟩:=q3
      obtain ⟨m',hm,w3⟩:=hN σ3 H3 n3
      exact ⟨m',hm,σ3,H3,I3,w3⟩
    | brk=>exact q3
    | ret v=>exact q3
  | false=>
    rw [if_neg Bool.false_ne_true]
    exact wpAny_execs_nil ⟨σ1,H2,I2,q2⟩
end
structure It where
  go : Nat→Hp→Prop
  yld : Nat→Hp→V→Hp→Prop
  stop : Nat→Hp→Prop
def FpOk (X : Cx) (pins : List (Addr×Obj)) (H : Hp) (b : Addr) : Prop:=
  H b = none∧b≠X.env.locals∧b∉X.fs∧(b∈X.ex∨X.s₀.heap.objs.size≤b)∧(∀ x c,X.env.cells.lookup x = some c→c≠b)∧∀ p∈X.pn ++ pins,p.1≠b
theorem Inv.fpOk {X : Cx} {pins : List (Addr×Obj)} {σ : St} {H H' : Hp} {s : Shared} {b : Addr} (I : Inv X pins σ H s) (hb : s.heap.objs.size≤b) (hn : H' b = none) : FpOk X pins H' b:=by
  refine ⟨hn,Nat.ne_of_gt (Nat.lt_of_lt_of_le I.lt hb),I.nofs hb,.inr (Nat.le_trans I.sz hb),fun x c e z=>?_,fun p hp z=>?_⟩
  · obtain ⟨v,q⟩:=I.cell x c e
    exact absurd (Nat.lt_of_lt_of_le q.lt (by rw [z]; exact hb)) (Nat.lt_irrefl _)
  · exact absurd (Nat.lt_of_lt_of_le (Heap.lt_size (I.pin p hp).1) (by rw [z]; exact hb)) (Nat.lt_irrefl _)
structure Turn (P : Program) (w : World) (K : PySem.W.Frag) (tg : Expr) (J : It) (fp : List Addr) (it : Addr) (tn : Nat→Heap→Prop) : Prop where
  mem : it∈fp
  obj : ∀ i h,tn i h→∀ b∈fp,∃ o,h.get? b = some o∧∀ v,o.data≠.cell v
  keep : ∀ i h h',tn i h→(∀ b∈fp,∀ o,h.get? b = some o→h'.get? b = some o)→tn i h'
  item : ∀ (X : Cx),X.prog = P→X.w = w→X.K = K→X.calm = true→∀ (i : Nat) (pins : List (Addr×Obj)) (s : Shared) (σ : St) (H : Hp) (E : Value→Shared→Prop),Inv X pins σ H s→(∀ b∈fp,FpOk X pins H b)→tn i s.heap→J.go i H→
    wpAny (model P w) X.A (pyNext (.ref it)) (fun r s1=>∃ u,r = some u∧
      wpAny (model P w) X.A (letOwnedTupleGo tg (.ref it) u) (fun _ s2=>∃ x H',Inv X pins σ H' s2∧RelV x u∧J.yld i H x H'∧tn (i + 1) s2.heap∧∀ b∈fp,H' b = none) E s1) E s
  done : ∀ (X : Cx),X.prog = P→X.w = w→X.K = K→X.calm = true→∀ (i : Nat) (pins : List (Addr×Obj)) (s : Shared) (σ : St) (H : Hp) (E : Value→Shared→Prop),Inv X pins σ H s→(∀ b∈fp,FpOk X pins H b)→tn i s.heap→J.stop i H→
    wpAny (model P w) X.A (pyNext (.ref it)) (fun r s1=>r = none∧Inv X pins σ H s1) E s
  self : ∀ (A : Around) (i : Nat) (s : Shared) (Q : Value→Shared→Prop) (E : Value→Shared→Prop),tn i s.heap→Q (.ref it) s→wpAny (model P w) A (pyIter (.ref it)) Q E s
abbrev TI:=St→Hp→(It→Hp→Prop)→Prop
def PIE (X : Cx) (pins : List (Addr×Obj)) (σ : St) (tg : Expr) (R : It→Hp→Prop) (itv : Value) (s2 : Shared) : Prop:=
  ∃ (it : Addr) (fp : List Addr) (tn : Nat→Heap→Prop) (J : It) (H' : Hp),itv = .ref it∧Inv X pins σ H' s2∧Turn X.prog X.w X.K tg J fp it tn∧tn 0 s2.heap∧(∀ b∈fp,FpOk X pins H' b)∧R J H'
def PI (X : Cx) (tg iter : Expr) (wi : TI) : Prop:=
  ∀ (pins : List (Addr×Obj)) (s : Shared) (σ : St) (H : Hp) (R : It→Hp→Prop),Inv X pins σ H s→wi σ H R→
    wpAny (model X.prog X.w) X.A (eval iter X.env) (fun v s1=>wpAny (model X.prog X.w) X.A (pyIter v) (PIE X pins σ tg R) X.xe s1) X.xe s
theorem zlM {M : Model} {A : Around} {E : Value→Shared→Prop} {s : Shared} {tg : Expr} {it : Addr} {u : Value} {o : Obj} {n : String} {vs : Array Value} {Q : Unit→Shared→Prop} (ho : s.heap.get? it = some o) (hc : o.cls = .type n) (hd : o.data = .fields vs)
    (hn : ["enumerate","zip","dict_itemiterator","dict_reverseitemiterator","odict_iterator","itertools.zip_longest","itertools.pairwise"].contains n = false) (hQ : Q () s) : wpAny M A (letOwnedTupleGo tg (.ref it) u) Q E s:=by
  unfold letOwnedTupleGo
  cases tg <;> first
    | exact wpAny_pure hQ
    | (cases u <;> first
        | exact wpAny_pure hQ
        | (refine wpAny_bind (wpAny_load ho ?_)
           rw [hc,hd]
           show wpAny M A (if (["enumerate","zip","dict_itemiterator","dict_reverseitemiterator","odict_iterator","itertools.zip_longest","itertools.pairwise"].contains n && vs[0]? == some (rawInt _)) = true then _ else _) Q E s
           rw [if_neg (by intro h; rw [hn,Bool.false_and] at h; cases h)]
           exact wpAny_pure hQ))
def Itl (K : PySem.W.Frag) (a : Addr) : It:=
  ⟨fun i H=>∃ xs x,SqL K H a xs∧xs[i]? = some x,fun i H x H'=>H' = H∧∀ xs,SqL K H a xs→xs[i]? = some x,fun i H=>∃ xs,SqL K H a xs∧xs.length≤i⟩
def Itt (K : PySem.W.Frag) (a : Addr) : It:=
  ⟨fun i H=>∃ xs x,SqT K H a xs∧xs[i]? = some x,fun i H x H'=>H' = H∧∀ xs,SqT K H a xs→xs[i]? = some x,fun i H=>∃ xs,SqT K H a xs∧xs.length≤i⟩
def Itr (lo : Int) (n : Nat) : It:=⟨fun i _=>i < n,fun i H x H'=>H' = H∧x = .int (lo + i),fun i _=>n≤i⟩
theorem zkp {P : Program} {w : World} {K : PySem.W.Frag} {tg : Expr} (a it : Addr) : Turn P w K tg (Itl K a) [it] it (fun i h=>h.IsListIter it a i) where
  mem:=by simp
  obj:=fun i h st b hb=>by
    have e : b = it:=by simpa using hb
    subst e
    obtain ⟨o,e,c,d⟩:=st
    exact ⟨o,e,fun v z=>by rw [d] at z; cases z⟩
  keep:=fun i h h' st k=>st.at fun o e=>k it (by simp) o e
  item:=by
    intro X hP hw hK hc i pins s σ H E I hf st hg
    subst hP hw hK
    obtain ⟨xs,x,hq,hx⟩:=hg
    obtain ⟨its,rv,p,hz⟩:=I.list hq
    obtain ⟨u,hu,ru⟩:=rv.get hx
    obtain ⟨f0,f1,f2,f3,f4,f5⟩:=hf it (by simp)
    refine wpAny_pyNext_list_item st p.isList (x:=u) (by simpa using hu) fun h' st' sb=>?_
    have I1 : Inv X pins σ H { s with heap:=h' }:=I.turned (t':=s.toks) (fun b o hb e=>(sb.2 b hb).trans e) f0 f1 f3 f4 f5
    obtain ⟨o,e,c,d⟩:=id st'
    exact ⟨u,rfl,zlM (s:={ s with heap:=h' }) e c d (by decide) ⟨x,H,I1,ru,⟨rfl,fun ys hy=>by rw [I.list_inj hy hq]; exact hx⟩,st',fun b hb=>(hf b hb).1⟩⟩
  done:=by
    intro X hP hw hK hc i pins s σ H E I hf st hg
    subst hP hw hK
    obtain ⟨xs,hq,hx⟩:=hg
    obtain ⟨its,rv,p,hz⟩:=I.list hq
    obtain ⟨f0,f1,f2,f3,f4,f5⟩:=hf it (by simp)
    have hl:=rv.length
    exact wpAny_pyNext_list_end (I.ok.hd hc) st p.isList (by simp; omega) fun h' eb=>⟨rfl,I.turned (t':=s.toks) (fun b o hb e=>eb b o hb e) f0 f1 f3 f4 f5⟩
  self:=fun _ _ _ _ _ st h=>wpAny_pyIter_listiter st h
theorem zjD {P : Program} {w : World} {K : PySem.W.Frag} {tg : Expr} (a it : Addr) : Turn P w K tg (Itt K a) [it] it (fun i h=>h.IsTupleIter it a i) where
  mem:=by simp
  obj:=fun i h st b hb=>by
    have e : b = it:=by simpa using hb
    subst e
    obtain ⟨o,e,c,d⟩:=st
    exact ⟨o,e,fun v z=>by rw [d] at z; cases z⟩
  keep:=fun i h h' st k=>st.at fun o e=>k it (by simp) o e
  item:=by
    intro X hP hw hK hc i pins s σ H E I hf st hg
    subst hP hw hK
    obtain ⟨xs,x,hq,hx⟩:=hg
    obtain ⟨its,rv,p,hz⟩:=I.tuple hq
    obtain ⟨u,hu,ru⟩:=rv.get hx
    obtain ⟨f0,f1,f2,f3,f4,f5⟩:=hf it (by simp)
    refine wpAny_pyNext_tuple_item st (show s.heap.IsTuple a its.toArray from p) (x:=u) (by simpa using hu) fun h' st' sb=>?_
    have I1 : Inv X pins σ H { s with heap:=h' }:=I.turned (t':=s.toks) (fun b o hb e=>(sb.2 b hb).trans e) f0 f1 f3 f4 f5
    obtain ⟨o,e,c,d⟩:=id st'
    exact ⟨u,rfl,zlM (s:={ s with heap:=h' }) e c d (by decide) ⟨x,H,I1,ru,⟨rfl,fun ys hy=>by rw [I.tuple_inj hy hq]; exact hx⟩,st',fun b hb=>(hf b hb).1⟩⟩
  done:=by
    intro X hP hw hK hc i pins s σ H E I hf st hg
    subst hP hw hK
    obtain ⟨xs,hq,hx⟩:=hg
    obtain ⟨its,rv,p,hz⟩:=I.tuple hq
    obtain ⟨f0,f1,f2,f3,f4,f5⟩:=hf it (by simp)
    have hl:=rv.length
    exact wpAny_pyNext_tuple_end (I.ok.hd hc) st (show s.heap.IsTuple a its.toArray from p) (by simp; omega) fun h' eb=>⟨rfl,I.turned (t':=s.toks) (fun b o hb e=>eb b o hb e) f0 f1 f3 f4 f5⟩
  self:=fun _ _ _ _ _ st h=>wpAny_pyIter_tupleiter st h
theorem zjE {P : Program} {w : World} {K : PySem.W.Frag} {tg : Expr} (it : Addr) (lo : Int) (n : Nat) : Turn P w K tg (Itr lo n) [it] it (fun i h=>IsRangeIter h it (lo + (i : Nat) * 1) ((n : Int) - (i : Nat)) 1) where
  mem:=by simp
  obj:=fun i h st b hb=>by
    have e : b = it:=by simpa using hb
    subst e
    exact ⟨_,st,fun v z=>by
      have z' : Data.fields _ = Data.cell v:=z
      cases z'⟩
  keep:=fun i h h' st k=>k it (by simp) _ st
  item:=by
    intro X hP hw hK hc i pins s σ H E I hf st hg
    subst hP hw hK
    obtain ⟨f0,f1,f2,f3,f4,f5⟩:=hf it (by simp)
    have W:=Walks.range (prog:=X.prog) (w:=X.w) (I.ok.hd hc) it lo 1 n
    refine W.item i s _ _ hg st fun v h' tk hv st' kk=>?_
    obtain ⟨t,rfl⟩:=hv
    have I1 : Inv X pins σ H { s with heap:=h',toks:=tk }:=I.turned (fun b o hb e=>kk b o (by simpa using hb) e) f0 f1 f3 f4 f5
    refine ⟨_,rfl,zlM (s:={ s with heap:=h',toks:=tk }) (n := "range_iterator") st' rfl rfl (by decide) ⟨.int (lo + i),H,I1,⟨t,?_⟩,⟨rfl,rfl⟩,st',fun b hb=>(hf b hb).1⟩⟩
    rw [Int.mul_one]
  done:=by
    intro X hP hw hK hc i pins s σ H E I hf st hg
    subst hP hw hK
    obtain ⟨f0,f1,f2,f3,f4,f5⟩:=hf it (by simp)
    exact wpAny_pyNext_range_end (I.ok.hd hc) st (by have : n≤i:=hg; omega) fun h' eb=>⟨rfl,I.turned (t':=s.toks) (fun b o hb e=>eb b o hb e) f0 f1 f3 f4 f5⟩
  self:=fun _ _ _ _ _ st h=>wpAny_pyIter_rangeiter st h
end L2
namespace L2
open PySem PySem.Spec PyProof.Rows
section
variable {X : Cx} {tg : Expr}
def iList (K : PySem.W.Frag) (tl : TE) : TI:=fun σ H R=>tl σ H fun x H1=>∃ a,x = .ref a∧(∃ xs,SqL K H1 a xs)∧R (Itl K a) H1
def iTup (K : PySem.W.Frag) (tl : TE) : TI:=fun σ H R=>tl σ H fun x H1=>∃ a,x = .ref a∧(∃ xs,SqT K H1 a xs)∧R (Itt K a) H1
theorem zb2 {l : Expr} {tl : TE} (hl : PE X l tl) : PI X tg l (iList X.K tl):=by
  intro pins s σ H R I h
  refine thn (hl pins s σ H _ I h) fun v s1 ⟨x,H1,I1,r1,q1⟩=>?_
  obtain ⟨a,e,⟨xs,hq⟩,q⟩:=q1
  subst e
  cases r1
  obtain ⟨its,rv,p,hz⟩:=I1.list hq
  refine wpAny_pyIter_list p.isList ?_
  refine ⟨s1.heap.objs.size,[s1.heap.objs.size],_,_,H1,rfl,I1.kept (t':=s1.toks) fun b o e=>Heap.get?_push_of_some _ e,zkp a _,⟨_,Heap.get?_push_size _ rfl,rfl,rfl⟩,fun b hb=>?_,q⟩
  have e : b = s1.heap.objs.size:=by simpa using hb
  subst e
  exact I1.fpOk (Nat.le_refl _) (I1.hok.fresh (Nat.le_refl _))
theorem zdF {l : Expr} {tl : TE} (hl : PE X l tl) : PI X tg l (iTup X.K tl):=by
  intro pins s σ H R I h
  refine thn (hl pins s σ H _ I h) fun v s1 ⟨x,H1,I1,r1,q1⟩=>?_
  obtain ⟨a,e,⟨xs,hq⟩,q⟩:=q1
  subst e
  cases r1
  obtain ⟨its,rv,p,hz⟩:=I1.tuple hq
  refine wpAny_pyIter_tuple (show s1.heap.IsTuple a its.toArray from p) ?_
  refine ⟨s1.heap.objs.size,[s1.heap.objs.size],_,_,H1,rfl,I1.kept (t':=s1.toks) fun b o e=>Heap.get?_push_of_some _ e,zjD a _,⟨_,Heap.get?_push_size _ rfl,rfl,rfl⟩,fun b hb=>?_,q⟩
  have e : b = s1.heap.objs.size:=by simpa using hb
  subst e
  exact I1.fpOk (Nat.le_refl _) (I1.hok.fresh (Nat.le_refl _))
theorem ziZ {pins : List (Addr×Obj)} {σ : St} {H : Hp} {s : Shared} {R : It→Hp→Prop} {E : Value→Shared→Prop} {lo hi : Int} {t u v : Tok} {tk : Nat} (I : Inv X pins σ H s) (h1 : -(2 ^ 62)≤lo) (h2 : lo < 2 ^ 62) (h3 : -(2 ^ 62)≤hi) (h4 : hi < 2 ^ 62)
    (q : R (Itr lo (hi - lo).toNat) H) : wpAny (model X.prog X.w) X.A (pyIter (.ref s.heap.objs.size)) (PIE X pins σ tg R) E { s with heap:=s.heap.push { cls:=.type "range",data:=.fields #[.int lo t,.int hi u,.int 1 v] },toks:=tk }:=by
  refine wpAny_pyIter_range (IsRange.new ..) (small_one h1 h2 h3 h4) ?_
  have I1 : Inv X pins σ H { s with heap:=s.heap.push { cls:=.type "range",data:=.fields #[.int lo t,.int hi u,.int 1 v] },toks:=tk }:=I.kept fun b o e=>Heap.get?_push_of_some _ e
  refine ⟨(s.heap.push { cls:=.type "range",data:=.fields #[.int lo t,.int hi u,.int 1 v] }).objs.size,[(s.heap.push { cls:=.type "range",data:=.fields #[.int lo t,.int hi u,.int 1 v] }).objs.size],_,_,H,rfl,
    I1.kept (t':=tk) fun b o e=>Heap.get?_push_of_some _ e,zjE _ lo (hi - lo).toNat,?_,fun b hb=>?_,q⟩
  · have e1 : lo + ((0 : Nat) : Int) * 1 = lo:=by simp
    have e2 : (((hi - lo).toNat : Nat) : Int) - ((0 : Nat) : Int) = Builtin.Range.rangeSize lo hi 1:=by rw [rangeSize_one]; split <;> omega
    show IsRangeIter _ _ (lo + ((0 : Nat) : Int) * 1) ((((hi - lo).toNat : Nat) : Int) - ((0 : Nat) : Int)) 1
    rw [e1,e2]
    exact Heap.get?_push_size _ rfl
  · have e : b = (s.heap.push { cls:=.type "range",data:=.fields #[.int lo t,.int hi u,.int 1 v] }).objs.size:=by simpa using hb
    subst e
    exact I1.fpOk (Nat.le_refl _) (I1.hok.fresh (Nat.le_refl _))
def iRng1 (ta : TA) : TI:=fun σ H R=>ta σ H fun vs H1=>∃ j : Int,vs = [.int j]∧-(2 ^ 62)≤j∧j < 2 ^ 62∧R (Itr 0 j.toNat) H1
def iRng2 (ta : TA) : TI:=fun σ H R=>ta σ H fun vs H1=>∃ i j : Int,vs = [.int i,.int j]∧(-(2 ^ 62)≤i∧i < 2 ^ 62∧-(2 ^ 62)≤j∧j < 2 ^ 62)∧R (Itr i (j - i).toNat) H1
theorem zbK {a : Expr} {ta : TA} {p pos : Pos} (hg : Gl X "range") (hm : X.mg "range" = none) (ha : PA X [a] ta) (hs : starEach [a] X.env = [(false,eval a X.env)]:=by rfl) : PI X tg (.Call (.Name "range" p) [a] [] pos) (iRng1 ta):=by
  intro pins s σ H R I h
  refine Call_ (zeh I hg hm boot_range (PyProof.Rows.callWith_type1 (thn (ha pos pins s σ H _ I h) fun us s1 ⟨vs,H1,I1,r1,q1⟩=>?_) hs rfl))
  obtain ⟨j,e,q1,q2,q⟩:=q1
  subst e
  cases r1 with
  | cons r rr=>
    cases rr
    obtain ⟨t,rfl⟩:=r
    exact call_range_1 (ziZ I1 (by omega) (by omega) q1 q2 (by simpa using q))
theorem zfl {a b : Expr} {ta : TA} {p pos : Pos} (hg : Gl X "range") (hm : X.mg "range" = none) (ha : PA X [a,b] ta) (hs : starEach [a,b] X.env = [(false,eval a X.env),(false,eval b X.env)]:=by rfl) (hs2 : starEach [b] X.env = [(false,eval b X.env)]:=by rfl) :
    PI X tg (.Call (.Name "range" p) [a,b] [] pos) (iRng2 ta):=by
  intro pins s σ H R I h
  refine Call_ (zeh I hg hm boot_range (PyProof.Rows.callWith_type1 (thn (ha pos pins s σ H _ I h) fun us s1 ⟨vs,H1,I1,r1,q1⟩=>?_) (by rw [hs,hs2]) (by rw [hs2]; rfl)))
  obtain ⟨i,j,e,⟨q1,q2,q3,q4⟩,q⟩:=q1
  subst e
  cases r1 with
  | cons r rr=>
    cases rr with
    | cons r' rr=>
      cases rr
      obtain ⟨t,rfl⟩:=r
      obtain ⟨t',rfl⟩:=r'
      exact call_range_2 (ziZ I1 q1 q2 q3 q4 q)
def tFor (wi : TI) (g : TG) (tb : TS) : TS:=fun D σ H=>wi σ H fun J H1=>∃ W : Nat→Nat→St→Hp→Prop,(∃ m,W 0 m σ H1)∧∀ i m σ H,W i m σ H→
  (J.stop i H∧D.nx σ H)∨(J.go i H∧∃ N : St→Hp→Prop,(∀ σ' H',N σ' H'→∃ m',m' < m∧W (i + 1) m' σ' H')∧∀ x H',J.yld i H x H'→g x σ H' fun σ2 H2=>tb { D with nx:=N,ct:=N,bk:=D.nx } σ2 H2)
def zhg (fp : List Addr) (h : Heap) : List (Addr×Obj):=fp.filterMap fun b=>(h.get? b).map fun o=>(b,o)
theorem zdy {fp : List Addr} {h : Heap} {b : Addr} {o : Obj} (hb : b∈fp) (e : h.get? b = some o) : (b,o)∈zhg fp h:=List.mem_filterMap.mpr ⟨b,hb,by rw [e]; rfl⟩
theorem zlg {fp : List Addr} {h : Heap} {p : Addr×Obj} (hp : p∈zhg fp h) : p.1∈fp∧h.get? p.1 = some p.2:=by
  obtain ⟨b,hb,e⟩:=List.mem_filterMap.mp hp
  cases q : h.get? b with
  | none=>rw [q] at e; cases e
  | some o=>
    rw [q] at e
    have e' : (b,o) = p:=Option.some.inj e
    subst e'
    exact ⟨hb,q⟩
theorem Inv.pinned {pins : List (Addr×Obj)} {σ : St} {H : Hp} {s : Shared} {fp : List Addr} (I : Inv X pins σ H s) (hf : ∀ b∈fp,FpOk X pins H b) (ho : ∀ b∈fp,∃ o,s.heap.get? b = some o∧∀ v,o.data≠.cell v) : Inv X (pins ++ zhg fp s.heap) σ H s:=
  I.pins_of fun p hp=>(List.mem_append.mp hp).elim (fun z=>I.pin p (List.mem_append_right _ z)) fun z=>by
    obtain ⟨hb,e⟩:=zlg z
    obtain ⟨f0,f1,f2,_⟩:=hf p.1 hb
    obtain ⟨o,e',d⟩:=ho p.1 hb
    rw [e] at e'; cases e'
    exact ⟨e,f0,f1,f2,d⟩
theorem Inv.unpinned {pins pl : List (Addr×Obj)} {σ : St} {H : Hp} {s : Shared} (I : Inv X (pins ++ pl) σ H s) : Inv X pins σ H s:=I.pins_of fun p hp=>I.pin p (List.mem_append_right _ (List.mem_append_left _ hp))
theorem zbv {iter : Expr} {body : List Stmt} {wi : TI} {g : TG} {tb : TS} {pos : Pos} (hp : PassesOwn (model X.prog X.w) X.A X.env X.xe) (hc : X.calm = true) (hi : PI X tg iter wi) (hg : PG X tg g) (hb : PSs X body tb)
    (hs : ∀ x,foldedSetIterable iter X.env x = pure x:=by intro _; rfl) : PS X (.For tg iter body [] pos) (tFor wi g tb):=by
  intro pins s σ H D I h
  refine wpAny_For (thn (hi pins s σ H _ I h) fun v s1 h1=>thn h1 fun itv s2 h2=>?_) hs
  obtain ⟨it,fp,tn,J,H2,e,I2,T,st2,f2,W,⟨m0,w0⟩,turn⟩:=h2
  subst e
  have stat : ∀ {H' : Hp},(∀ b∈fp,H' b = none)→∀ b∈fp,FpOk X pins H' b:=fun hn b hb=>⟨hn b hb,(f2 b hb).2⟩
  refine codeAny_forLoop_any (fun n s'=>∃ i σ' H',Inv X pins σ' H' s'∧tn i s'.heap∧(∀ b∈fp,H' b = none)∧W i n σ' H') ?_ m0 ⟨0,σ,H2,I2,st2,fun b hb=>(f2 b hb).1,w0⟩
  rintro n s3 ⟨i,σ3,H3,I3,st3,fr3,w3⟩
  rcases turn i n σ3 H3 w3 with ⟨stop,qn⟩ | ⟨go,N,hN,step⟩
  · refine wpAny_passesOwn hp (thn (T.done X rfl rfl rfl hc i pins s3 σ3 H3 X.xe I3 (stat fr3) st3 stop) fun r s4 ⟨hr,I4⟩=>?_)
    subst hr
    exact wpAny_execs_nil ⟨σ3,H3,I4,qn⟩
  · refine wpAny_passesOwn hp (thn (T.item X rfl rfl rfl hc i pins s3 σ3 H3 X.xe I3 (stat fr3) st3 go) fun r s4 ⟨u,hr,h4⟩=>?_)
    subst hr
    refine wpAny_passesOwn hp (thn h4 fun _ s5 ⟨x,H5,I5,r5,y5,st5,fr5⟩=>?_)
    have I5':=I5.pinned (stat fr5) (T.obj _ _ st5)
    refine wpAny_passesOwn hp (thn (hg _ s5 σ3 H5 x u _ I5' r5 (step x H5 y5)) fun _ s6 ⟨σ6,H6,I6,q6⟩=>?_)
    refine wpAny_passesOwn hp (thn (hb _ s6 σ6 H6 _ I6 q6) fun f s7 q7=>?_)
    have again : ∀ {σ7 : St} {H7 : Hp},Inv X (pins ++ zhg fp s5.heap) σ7 H7 s7→N σ7 H7→∃ m,m < n∧∃ i σ' H',Inv X pins σ' H' s7∧tn i s7.heap∧(∀ b∈fp,H' b = none)∧W i m σ' H':=fun {σ7 H7} I7 n7=>by
      obtain ⟨m',hm,w7⟩:=hN σ7 H7 n7
      refine ⟨m',hm,i + 1,σ7,H7,I7.unpinned,T.keep _ _ _ st5 fun b hb o e=>(I7.pin (b,o) (List.mem_append_right _ (List.mem_append_right _ (zdy hb e)))).1,fun b hb=>?_,w7⟩
      obtain ⟨o,e,d⟩:=T.obj _ _ st5 b hb
      exact (I7.pin (b,o) (List.mem_append_right _ (List.mem_append_right _ (zdy hb e)))).2.1
    cases f with
    | next=>obtain ⟨σ7,H7,I7,n7⟩:=q7; exact again I7 n7
    | cont=>obtain ⟨σ7,H7,I7,n7⟩:=q7; exact again I7 n7
    | brk=>obtain ⟨σ7,H7,I7,q7⟩:=q7; exact ⟨σ7,H7,I7.unpinned,q7⟩
    | ret v=>obtain ⟨x7,σ7,H7,I7,r7,q7⟩:=q7; exact ⟨x7,σ7,H7,I7.unpinned,r7,q7⟩
end
theorem zgG {K : PySem.W.Frag} {a : Addr} {xs : List V} {g : TG} {tb : TS} {D : Ends} {σ : St} {H : Hp} (Pv : Nat→St→Hp→Prop) (h0 : Pv 0 σ H) (hl : ∀ i σ H,i≤xs.length→Pv i σ H→SqL K H a xs)
    (hs : ∀ i x σ H,xs[i]? = some x→Pv i σ H→g x σ H fun σ2 H2=>tb { D with nx:=Pv (i + 1),ct:=Pv (i + 1),bk:=D.nx } σ2 H2) (hd : ∀ σ H,Pv xs.length σ H→D.nx σ H) :
    ∃ W : Nat→Nat→St→Hp→Prop,(∃ m,W 0 m σ H)∧∀ i m σ H,W i m σ H→
      ((Itl K a).stop i H∧D.nx σ H)∨((Itl K a).go i H∧∃ N : St→Hp→Prop,(∀ σ' H',N σ' H'→∃ m',m' < m∧W (i + 1) m' σ' H')∧∀ x H',(Itl K a).yld i H x H'→g x σ H' fun σ2 H2=>tb { D with nx:=N,ct:=N,bk:=D.nx } σ2 H2):=by
  refine ⟨fun i m σ H=>m = xs.length - i∧i≤xs.length∧Pv i σ H,⟨xs.length,by simp,Nat.zero_le _,h0⟩,?_⟩
  rintro i m σ H ⟨rfl,hi,p⟩
  have q:=hl i σ H hi p
  by_cases hlt : i < xs.length
  · refine .inr ⟨⟨xs,xs[i],q,by simp [hlt]⟩,Pv (i + 1),fun σ' H' p'=>⟨xs.length - (i + 1),by omega,rfl,hlt,p'⟩,fun x H' y=>?_⟩
    obtain ⟨e,y⟩:=y
    subst e
    exact hs i x σ _ (y xs q) p
  · have e : i = xs.length:=by omega
    subst e
    exact .inl ⟨⟨xs,q,Nat.le_refl _⟩,hd σ H p⟩
theorem zil {K : PySem.W.Frag} {a : Addr} {xs : List V} {g : TG} {tb : TS} {D : Ends} {σ : St} {H : Hp} (Pv : Nat→St→Hp→Prop) (h0 : Pv 0 σ H) (hl : ∀ i σ H,i≤xs.length→Pv i σ H→SqT K H a xs)
    (hs : ∀ i x σ H,xs[i]? = some x→Pv i σ H→g x σ H fun σ2 H2=>tb { D with nx:=Pv (i + 1),ct:=Pv (i + 1),bk:=D.nx } σ2 H2) (hd : ∀ σ H,Pv xs.length σ H→D.nx σ H) :
    ∃ W : Nat→Nat→St→Hp→Prop,(∃ m,W 0 m σ H)∧∀ i m σ H,W i m σ H→
      ((Itt K a).stop i H∧D.nx σ H)∨((Itt K a).go i H∧∃ N : St→Hp→Prop,(∀ σ' H',N σ' H'→∃ m',m' < m∧W (i + 1) m' σ' H')∧∀ x H',(Itt K a).yld i H x H'→g x σ H' fun σ2 H2=>tb { D with nx:=N,ct:=N,bk:=D.nx } σ2 H2):=by
  refine ⟨fun i m σ H=>m = xs.length - i∧i≤xs.length∧Pv i σ H,⟨xs.length,by simp,Nat.zero_le _,h0⟩,?_⟩
  rintro i m σ H ⟨rfl,hi,p⟩
  have q:=hl i σ H hi p
  by_cases hlt : i < xs.length
  · refine .inr ⟨⟨xs,xs[i],q,by simp [hlt]⟩,Pv (i + 1),fun σ' H' p'=>⟨xs.length - (i + 1),by omega,rfl,hlt,p'⟩,fun x H' y=>?_⟩
    obtain ⟨e,y⟩:=y
    subst e
    exact hs i x σ _ (y xs q) p
  · have e : i = xs.length:=by omega
    subst e
    exact .inl ⟨⟨xs,q,Nat.le_refl _⟩,hd σ H p⟩
theorem zbO {lo : Int} {n : Nat} {g : TG} {tb : TS} {D : Ends} {σ : St} {H : Hp} (Pv : Nat→St→Hp→Prop) (h0 : Pv 0 σ H)
    (hs : ∀ i σ H,i < n→Pv i σ H→g (.int (lo + i)) σ H fun σ2 H2=>tb { D with nx:=Pv (i + 1),ct:=Pv (i + 1),bk:=D.nx } σ2 H2) (hd : ∀ σ H,Pv n σ H→D.nx σ H) :
    ∃ W : Nat→Nat→St→Hp→Prop,(∃ m,W 0 m σ H)∧∀ i m σ H,W i m σ H→
      ((Itr lo n).stop i H∧D.nx σ H)∨((Itr lo n).go i H∧∃ N : St→Hp→Prop,(∀ σ' H',N σ' H'→∃ m',m' < m∧W (i + 1) m' σ' H')∧∀ x H',(Itr lo n).yld i H x H'→g x σ H' fun σ2 H2=>tb { D with nx:=N,ct:=N,bk:=D.nx } σ2 H2):=by
  refine ⟨fun i m σ H=>m = n - i∧i≤n∧Pv i σ H,⟨n,by simp,Nat.zero_le _,h0⟩,?_⟩
  rintro i m σ H ⟨rfl,hi,p⟩
  by_cases hlt : i < n
  · refine .inr ⟨hlt,Pv (i + 1),fun σ' H' p'=>⟨n - (i + 1),by omega,rfl,hlt,p'⟩,fun x H' y=>?_⟩
    obtain ⟨e,y⟩:=y
    subst e y
    exact hs i σ _ hlt p
  · have e : i = n:=by omega
    subst e
    exact .inl ⟨Nat.le_refl _,hd σ H p⟩
theorem zmm {c : TT} {tb : TS} {D : Ends} {σ : St} {H : Hp} (Pv : St→Hp→Prop) (μ : St→Hp→Nat) (h0 : Pv σ H)
    (hs : ∀ σ H,Pv σ H→c σ H fun b H1=>if b = true then tb { D with nx:=fun σ' H'=>Pv σ' H'∧μ σ' H' < μ σ H,ct:=fun σ' H'=>Pv σ' H'∧μ σ' H' < μ σ H,bk:=D.nx } σ H1 else D.nx σ H1)
    (mono : ∀ σ H Q Q',(∀ b H1,Q b H1→Q' b H1)→c σ H Q→c σ H Q') : zkv c tb D σ H:=by
  refine ⟨fun m σ H=>m = μ σ H∧Pv σ H,⟨_,rfl,h0⟩,?_⟩
  rintro m σ H ⟨rfl,p⟩
  refine mono σ H _ _ (fun b H1 q=>?_) (hs σ H p)
  cases b with
  | true=>exact ⟨_,fun σ' H' ⟨p',l⟩=>⟨_,l,rfl,p'⟩,q⟩
  | false=>exact q
end L2
namespace L2
open PySem PySem.Spec PyProof.Rows
abbrev R2:=V→V→Hp→VK→Prop
def OpR (X : Cx) (f : Value→Value→Sem Value) (r : R2) : Prop:=
  ∀ (pins : List (Addr×Obj)) (s : Shared) (σ : St) (H : Hp) (x y : V) (v u : Value) (Q : VK),Inv X pins σ H s→RelV x v→RelV y u→r x y H Q→
    wpAny (model X.prog X.w) X.A (f v u) (EP X pins σ Q) X.xe s
def UnR (X : Cx) (f : Value→Sem Value) (r : V→Hp→VK→Prop) : Prop:=
  ∀ (pins : List (Addr×Obj)) (s : Shared) (σ : St) (H : Hp) (x : V) (v : Value) (Q : VK),Inv X pins σ H s→RelV x v→r x H Q→
    wpAny (model X.prog X.w) X.A (f v) (EP X pins σ Q) X.xe s
def zdS (X : Cx) (f : Value) (r : List V→Hp→VK→Prop) : Prop:=
  ∀ (pins : List (Addr×Obj)) (s : Shared) (σ : St) (H : Hp) (xs : List V) (us : List Value) (Q : VK),Inv X pins σ H s→Vals xs us→r xs H Q→
    wpAny (model X.prog X.w) X.A (call f us) (EP X pins σ Q) X.xe s
def TruR (X : Cx) (r : V→Hp→(Bool→Hp→Prop)→Prop) : Prop:=
  ∀ (pins : List (Addr×Obj)) (s : Shared) (σ : St) (H : Hp) (x : V) (v : Value) (Q : Bool→Hp→Prop),Inv X pins σ H s→RelV x v→r x H Q→
    wpAny (model X.prog X.w) X.A (truthy v) (TP X pins σ Q) X.xe s
def tOp (r : R2) (ta tb : TE) : TE:=fun σ H Q=>ta σ H fun x H1=>tb σ H1 fun y H2=>r x y H2 Q
def tUn (r : V→Hp→VK→Prop) (ta : TE) : TE:=fun σ H Q=>ta σ H fun x H1=>r x H1 Q
def rI (C : Int→Int→Prop) (g : Int→Int→V) : R2:=fun x y H Q=>∃ i j,x = .int i∧y = .int j∧C i j∧Q (g i j) H
def rI0 (g : Int→Int→V) : R2:=fun x y H Q=>∃ i j,x = .int i∧y = .int j∧Q (g i j) H
def rU (g : Int→V) : V→Hp→VK→Prop:=fun x H Q=>∃ i,x = .int i∧Q (g i) H
section
variable {X : Cx} {a b c : Expr} {ta tb tc : TE} {pos : Pos}
theorem binT (ha : PE X a ta) (hb : PE X b tb) {pins : List (Addr×Obj)} {s : Shared} {σ : St} {H : Hp} {R : V→V→Hp→Prop} (I : Inv X pins σ H s)
    (h : ta σ H fun x H1=>tb σ H1 fun y H2=>R x y H2) {Q : Value→Shared→Prop} {f : Value→Value→Sem Value}
    (hf : ∀ v u s2 x y H2,Inv X pins σ H2 s2→RelV x v→RelV y u→R x y H2→wpAny (model X.prog X.w) X.A (f v u) Q X.xe s2) :
    wpAny (model X.prog X.w) X.A (eval a X.env) (fun v s₁=>wpAny (model X.prog X.w) X.A (eval b X.env) (fun u s₂=>wpAny (model X.prog X.w) X.A (f v u) Q X.xe s₂) X.xe s₁) X.xe s:=by
  refine thn (ha pins s σ H _ I h) fun v s1 ⟨x,H1,I1,r1,q1⟩=>?_
  refine thn (hb pins s1 σ H1 _ I1 q1) fun u s2 ⟨y,H2,I2,r2,q2⟩=>?_
  exact hf v u s2 x y H2 I2 r1 r2 q2
theorem zaq {op : Operator} {r : R2} (ho : OpR X (binaryOp op) r) (ha : PE X a ta) (hb : PE X b tb) : PE X (.BinOp a op b pos) (tOp r ta tb):=by
  intro pins s σ H Q I h
  exact wpAny_BinOp (binT ha hb I h fun v u s2 x y H2 I2 rx ry q=>ho pins s2 σ H2 x y v u Q I2 rx ry q)
theorem zfK {op : UnaryOp} {r : V→Hp→VK→Prop} (ho : UnR X (unaryOp op) r) (ha : PE X a ta) : PE X (.UnaryOp op a pos) (tUn r ta):=by
  intro pins s σ H Q I h
  exact UnaryOp_ (thn (ha pins s σ H _ I h) fun v s1 ⟨x,H1,I1,r1,q1⟩=>ho pins s1 σ H1 x v Q I1 r1 q1)
theorem opI {f : Value→Value→Sem Value} {C : Int→Int→Prop} {g : Int→Int→Int}
    (rule : ∀ (i j : Int) (t u : Tok) (s : Shared) (Q : Value→Shared→Prop) (E : Value→Shared→Prop),C i j→Q (.int (g i j) s.toks) { s with toks:=s.toks + 1 }→wpAny (model X.prog X.w) X.A (f (.int i t) (.int j u)) Q E s) :
    OpR X f (rI C fun i j=>.int (g i j)):=by
  intro pins s σ H x y v u Q I rx ry h
  obtain ⟨i,j,rfl,rfl,hc,q⟩:=h
  obtain ⟨t,rfl⟩:=rx
  obtain ⟨t',rfl⟩:=ry
  exact rule i j t t' s _ _ hc ⟨.int (g i j),H,I.tok _,⟨_,rfl⟩,q⟩
theorem opI0 {f : Value→Value→Sem Value} {g : Int→Int→Int}
    (rule : ∀ (i j : Int) (t u : Tok) (s : Shared) (Q : Value→Shared→Prop) (E : Value→Shared→Prop),Q (.int (g i j) s.toks) { s with toks:=s.toks + 1 }→wpAny (model X.prog X.w) X.A (f (.int i t) (.int j u)) Q E s) :
    OpR X f (rI0 fun i j=>.int (g i j)):=by
  intro pins s σ H x y v u Q I rx ry h
  obtain ⟨i,j,rfl,rfl,q⟩:=h
  obtain ⟨t,rfl⟩:=rx
  obtain ⟨t',rfl⟩:=ry
  exact rule i j t t' s _ _ ⟨.int (g i j),H,I.tok _,⟨_,rfl⟩,q⟩
theorem opB0 {f : Value→Value→Sem Value} {g : Int→Int→Bool}
    (rule : ∀ (i j : Int) (t u : Tok) (s : Shared) (Q : Value→Shared→Prop) (E : Value→Shared→Prop),Q (.bool (g i j)) s→wpAny (model X.prog X.w) X.A (f (.int i t) (.int j u)) Q E s) :
    OpR X f (rI0 fun i j=>.bl (g i j)):=by
  intro pins s σ H x y v u Q I rx ry h
  obtain ⟨i,j,rfl,rfl,q⟩:=h
  obtain ⟨t,rfl⟩:=rx
  obtain ⟨t',rfl⟩:=ry
  exact rule i j t t' s _ _ ⟨.bl (g i j),H,I,rfl,q⟩
def CDiv (i j : Int) : Prop:=0 < j∧j < 1073741824
def CDivN (i j : Int) : Prop:=j≠0∧j.natAbs < 1073741824
def CPow (i j : Int) : Prop:=0≤j∧j≤1000000∧i.natAbs < 2 ^ 64
def CMul (i j : Int) : Prop:=(-(2 ^ 64) < i∧i < 2 ^ 64)∨(-(2 ^ 64) < j∧j < 2 ^ 64)
theorem CMul.ok {i j : Int} (h : CMul i j) : IntMulOk i j:=by
  rcases h with ⟨h1,h2⟩ | ⟨h1,h2⟩
  · exact .of_left (intBits_le_64 h1 h2)
  · exact .of_right (intBits_le_64 h1 h2)
theorem zjC (k : Nat) : (0 : Int)≤2 ^ k:=by
  rw [two_pow_cast]
  exact Int.natCast_nonneg _
theorem za6 : OpR X (binaryOp .Add) (rI0 fun i j=>.int (i + j)):=opI0 fun _ _ _ _ _ _ _ q=>add_int q
theorem zbM : OpR X (binaryOp .Sub) (rI0 fun i j=>.int (i - j)):=opI0 fun _ _ _ _ _ _ _ q=>sub_int q
theorem zcj : OpR X (binaryOp .Mult) (rI CMul fun i j=>.int (i * j)):=opI fun _ _ _ _ _ _ _ hc q=>mul_int q hc.ok
theorem zh4 : OpR X (binaryOp .FloorDiv) (rI CDiv fun i j=>.int (i / j)):=opI fun i j _ _ _ _ _ hc q=>by
  have h1 : (0 : Int) < j:=hc.1
  have h2 : j < 1073741824:=hc.2
  exact floordiv_int (by omega) (by rw [Int.fdiv_eq_ediv_of_nonneg i (by omega)]; exact q) (.inl (PyProof.noPylong_small (by omega)))
theorem zeB : OpR X (binaryOp .Mod) (rI (fun _ j=>0 < j) fun i j=>.int (i % j)):=opI fun i j _ _ _ _ _ hc q=>by
  have h1 : (0 : Int) < j:=hc
  exact mod_int' (by omega) (by rw [Int.fmod_eq_emod_of_nonneg i (by omega)]; exact q)
theorem zed : OpR X (binaryOp .Pow) (rI CPow fun i j=>.int (i ^ j.toNat)):=opI fun _ _ _ _ _ _ _ hc q=>pow_int_small hc.1 hc.2.1 hc.2.2 q
theorem op_shr : OpR X (binaryOp .RShift) (rI (fun _ j=>0≤j) fun i j=>.int (i / 2 ^ j.toNat)):=opI fun i j _ _ _ _ _ hc q=>
  rshift_int hc (by rw [Int.fdiv_eq_ediv_of_nonneg i (zjC _)]; exact q)
theorem znL : OpR X (binaryOp .BitAnd) (rI0 fun i j=>.int (Builtin.bitAnd i j)):=opI0 fun _ _ _ _ _ _ _ q=>and_int q
theorem op_xor : OpR X (binaryOp .BitXor) (rI0 fun i j=>.int (Builtin.bitXor i j)):=opI0 fun _ _ _ _ _ _ _ q=>xor_int q
theorem unI {f : Value→Sem Value} {g : Int→Int}
    (rule : ∀ (i : Int) (t : Tok) (s : Shared) (Q : Value→Shared→Prop) (E : Value→Shared→Prop),Q (.int (g i) s.toks) { s with toks:=s.toks + 1 }→wpAny (model X.prog X.w) X.A (f (.int i t)) Q E s) :
    UnR X f (rU fun i=>.int (g i)):=by
  intro pins s σ H x v Q I rx h
  obtain ⟨i,rfl,q⟩:=h
  obtain ⟨t,rfl⟩:=rx
  exact rule i t s _ _ ⟨.int (g i),H,I.tok _,⟨_,rfl⟩,q⟩
theorem zdD : UnR X (unaryOp .USub) (rU fun i=>.int (-i)):=unI fun _ _ _ _ _ q=>neg_int q
end
def scal : V→V→Bool
  | .non,.non=>true | .non,.int _=>true | .int _,.non=>true | .non,.bl _=>true | .bl _,.non=>true | .non,.str _=>true | .str _,.non=>true
  | .int _,.int _=>true | .bl _,.bl _=>true | .str _,.str _=>true | .byt _,.byt _=>true
  | .int _,.str _=>true | .str _,.int _=>true | .bl _,.str _=>true | .str _,.bl _=>true
  | _,_=>false
def rEq : R2:=fun x y H Q=>scal x y = true∧Q (.bl (decide (x = y))) H
def rNe : R2:=fun x y H Q=>scal x y = true∧Q (.bl (!decide (x = y))) H
theorem dec_int {i j : Int} : decide (V.int i = V.int j) = (i == j):=by
  rw [Bool.eq_iff_iff]
  simp
theorem dec_bl {i j : Bool} : decide (V.bl i = V.bl j) = (i == j):=by
  rw [Bool.eq_iff_iff]
  simp
theorem dec_str {i j : Str} : decide (V.str i = V.str j) = (i == j):=by
  rw [Bool.eq_iff_iff]
  simp
theorem dec_byt {i j : Array UInt8} : decide (V.byt i = V.byt j) = (i.toList == j.toList):=by
  rw [Bool.eq_iff_iff]
  cases i
  cases j
  simp
section
variable {X : Cx} {a b c : Expr} {ta tb tc : TE} {pos : Pos}
theorem zb8 {pins : List (Addr×Obj)} {σ : St} {H : Hp} {s : Shared} {Q : VK} {k k' : Bool} (I : Inv X pins σ H s) (q : Q (.bl k) H) (e : k = k') : EP X pins σ Q (.bool k') s:=by
  subst e
  exact ⟨.bl k,H,I,rfl,q⟩
theorem zfo : OpR X (compareOp .Eq) rEq:=by
  intro pins s σ H x y v u Q I rx ry h
  obtain ⟨hs,q⟩:=h
  cases x with
  | non=>
    cases rx
    cases y with
    | non=>cases ry; exact PySem.EqNone.eq_none_none (zb8 I q (by simp))
    | bl j=>cases ry; exact PySem.EqNone.eq_none_bool (zb8 I q (by simp))
    | int j=>obtain ⟨t',rfl⟩:=ry; exact PySem.EqNone.eq_none_int (zb8 I q (by simp))
    | str j=>obtain ⟨t',rfl⟩:=ry; exact PySem.EqNone.eq_none_str (zb8 I q (by simp))
    | _=>exact absurd (show false = true from hs) Bool.false_ne_true
  | bl i=>
    cases rx
    cases y with
    | non=>cases ry; exact PySem.EqNone.eq_bool_none (zb8 I q (by simp))
    | bl j=>cases ry; exact eq_bool (zb8 I q dec_bl)
    | str j=>obtain ⟨t',rfl⟩:=ry; exact PySem.EqMixed.eq_bool_str (zb8 I q (by simp))
    | _=>exact absurd (show false = true from hs) Bool.false_ne_true
  | int i=>
    obtain ⟨t,rfl⟩:=rx
    cases y with
    | non=>cases ry; exact PySem.EqNone.eq_int_none (zb8 I q (by simp))
    | int j=>obtain ⟨t',rfl⟩:=ry; exact eq_int (zb8 I q dec_int)
    | str j=>obtain ⟨t',rfl⟩:=ry; exact PySem.EqMixed.eq_int_str (zb8 I q (by simp))
    | _=>exact absurd (show false = true from hs) Bool.false_ne_true
  | str i=>
    obtain ⟨t,rfl⟩:=rx
    cases y with
    | non=>cases ry; exact PySem.EqNone.eq_str_none (zb8 I q (by simp))
    | bl j=>cases ry; exact PySem.EqMixed.eq_str_bool (zb8 I q (by simp))
    | int j=>obtain ⟨t',rfl⟩:=ry; exact PySem.EqMixed.eq_str_int (zb8 I q (by simp))
    | str j=>obtain ⟨t',rfl⟩:=ry; exact eq_str (zb8 I q dec_str)
    | _=>exact absurd (show false = true from hs) Bool.false_ne_true
  | byt i=>
    obtain ⟨t,rfl⟩:=rx
    cases y with
    | byt j=>obtain ⟨t',rfl⟩:=ry; exact PySem.W.eq_bytes (zb8 I q dec_byt)
    | _=>exact absurd (show false = true from hs) Bool.false_ne_true
  | _=>cases y <;> exact absurd (show false = true from hs) Bool.false_ne_true
theorem zfL : OpR X (compareOp .Lt) (rI0 fun i j=>.bl (decide (i < j))):=opB0 fun _ _ _ _ _ _ _ q=>lt_int q
theorem zk6 : OpR X (compareOp .Gt) (rI0 fun i j=>.bl (decide (j < i))):=opB0 fun _ _ _ _ _ _ _ q=>gt_int q
theorem op_ge : OpR X (compareOp .GtE) (rI0 fun i j=>.bl (decide (j≤i))):=opB0 fun _ _ _ _ _ _ _ q=>ge_int q
def isObj : HO→Bool
  | .lst _=>true
  | .ins _ _ _=>true
  | _=>false
theorem zaF (b : Expr) {op : CmpOp} (h : op≠.In:=by decide) (h2 : op≠.NotIn:=by decide) : behindInMarks op b = false:=by
  have e1 : (op == CmpOp.In) = false:=by cases op <;> first | rfl | exact absurd rfl h
  have e2 : (op == CmpOp.NotIn) = false:=by cases op <;> first | rfl | exact absurd rfl h2
  cases b <;> simp [behindInMarks,e1,e2]
theorem zh1 {op : CmpOp} {r : R2} (ho : OpR X (compareOp op) r) (ha : PE X a ta) (hb : PE X b tb) (hm : behindInMarks op b = false) : PE X (.Compare a [op] [b] pos) (tOp r ta tb):=by
  intro pins s σ H Q I h
  exact wpAny_Compare1 (binT ha hb I h fun v u s2 x y H2 I2 rx ry q=>ho pins s2 σ H2 x y v u Q I2 rx ry q) hm
def tTest (t : TE) : TT:=fun σ H Q=>t σ H fun x H'=>∃ k,x = .bl k∧Q k H'
theorem zav {op : CmpOp} {r : R2} (ho : OpR X (compareOp op) r) (ha : PE X a ta) (hb : PE X b tb) (hm : behindInMarks op b = false) : PT X (.Compare a [op] [b] pos) (tTest (tOp r ta tb)):=by
  intro pins s σ H Q I h
  refine wpAny_isTrue_Compare1 (thn (ha pins s σ H _ I h) fun v s1 ⟨x,H1,I1,r1,q1⟩=>thn (hb pins s1 σ H1 _ I1 q1) fun u s2 ⟨y,H2,I2,r2,q2⟩=>
    thn (ho pins s2 σ H2 x y v u _ I2 r1 r2 q2) fun c s3 ⟨z,H3,I3,r3,k,e,q3⟩=>?_) hm
  subst e
  cases r3
  exact wpAny_truthy_bool ⟨H3,I3,q3⟩
def tChain (r r' : R2) (ta tb tc : TE) : TE:=fun σ H Q=>ta σ H fun x H1=>tb σ H1 fun y H2=>r x y H2 fun z H3=>∃ k,z = .bl k∧
  (if k = true then tc σ H3 fun w' H4=>r' y w' H4 Q else Q (.bl false) H3)
def TruV (K : PySem.W.Frag) (x : V) (H : Hp) (k : Bool) : Prop:=
  match x with
  | .non=>k = false
  | .bl b=>k = b
  | .int i=>k = (i != 0)
  | .str y=>y.length≤sizeLine∧k = ((y.length : Int) != 0)
  | .byt y=>y.size≤sizeLine∧k = ((y.size : Int) != 0)
  | .ref p=>(∃ xs,SqL K H p xs∧k = !xs.isEmpty)∨(∃ xs,SqT K H p xs∧k = !xs.isEmpty)∨∃ kvs,H p = some (.dK kvs)∧k = !kvs.isEmpty
  | _=>False
theorem zjd : (sizeLine : Nat) < 2 ^ 63:=by rw [sizeLine_eq]; decide
def PlainIxT (b : Expr) : Prop:=∀ o i,subscripted b false o i = operate [o,i] (getItem o i)
theorem zgX {x : V} {us : List Value} (r : Vals [x] us) : ∃ u,us = [u]∧RelV x u:=by
  cases r with
  | cons r1 r2=>cases r2; exact ⟨_,rfl,r1⟩
theorem zgW {x y : V} {us : List Value} (r : Vals [x,y] us) : ∃ u w',us = [u,w']∧RelV x u∧RelV y w':=by
  cases r with
  | cons r1 r2=>
    cases r2 with
    | cons r3 r4=>cases r4; exact ⟨_,_,rfl,r1,r3⟩
theorem zfb : zdS X (.builtin "abs") (fun xs H Q=>∃ i,xs = [.int i]∧Q (.int (if i < 0 then -i else i)) H):=by
  intro pins s σ H xs us Q I r h
  obtain ⟨i,rfl,q⟩:=h
  obtain ⟨u,rfl,t,rfl⟩:=zgX r
  exact call_abs_int fun u tk=>⟨.int (if i < 0 then -i else i),H,I.tok _,⟨_,rfl⟩,q⟩
theorem zhI (hc : X.calm = true) : zdS X (.builtin "max") (fun xs H Q=>∃ i j,xs = [.int i,.int j]∧Q (.int (if j > i then j else i)) H):=by
  intro pins s σ H xs us Q I r h
  obtain ⟨i,j,rfl,q⟩:=h
  obtain ⟨u,w',rfl,⟨t,rfl⟩,⟨t',rfl⟩⟩:=zgW r
  refine max_two_ints (I.ok.hd hc) fun h' tk k=>⟨_,H,I.kept k,?_,q⟩
  by_cases hj : j > i
  · rw [if_pos hj,if_pos hj]; exact ⟨_,rfl⟩
  · rw [if_neg hj,if_neg hj]; exact ⟨_,rfl⟩
theorem zl7 (hc : X.calm = true) : zdS X (.builtin "min") (fun xs H Q=>∃ i j,xs = [.int i,.int j]∧Q (.int (if j < i then j else i)) H):=by
  intro pins s σ H xs us Q I r h
  obtain ⟨i,j,rfl,q⟩:=h
  obtain ⟨u,w',rfl,⟨t,rfl⟩,⟨t',rfl⟩⟩:=zgW r
  refine min_two_ints (I.ok.hd hc) fun h' tk k=>⟨_,H,I.kept k,?_,q⟩
  by_cases hj : j < i
  · rw [if_pos hj,if_pos hj]; exact ⟨_,rfl⟩
  · rw [if_neg hj,if_neg hj]; exact ⟨_,rfl⟩
def LenV (K : PySem.W.Frag) (x : V) (H : Hp) (n : Nat) : Prop:=
  match x with
  | .str y=>y.length≤sizeLine∧n = y.length
  | .byt y=>y.size≤sizeLine∧n = y.size
  | .ref p=>(∃ xs,SqL K H p xs∧n = xs.length)∨∃ xs,SqT K H p xs∧n = xs.length
  | _=>False
end
end L2
namespace L2
open PySem PySem.Spec PyProof.Rows
structure ObjM (h : Heap) (x dx C : Addr) (mA : Str→Option Value) : Prop where
  obj : h.get? x = some (PySem.W.instObj C dx)
  ns : h.Ns1 dx mA
  ne : dx≠x
theorem zlr {h : Heap} {dx : Addr} {mA : Str→Option Value} (n : h.Ns1 dx mA) : ∃ od,h.get? dx = some od∧∀ name,PySem.W.lookIn name od = some (mA name):=by
  obtain ⟨o,es,ep,ho,hd,hk,_,hm⟩:=n
  refine ⟨o,ho,fun name=>?_⟩
  have e:=hm name
  unfold nsFind findBy at e
  rw [← Array.find?_toList] at e
  unfold PySem.W.lookIn
  rw [hd]
  dsimp only
  split
  · rename_i y q
    rw [q] at e
    exact congrArg some e
  · rename_i q
    rw [q] at e
    have a : es.toList.any (·.refKey) = false:=by
      rw [List.any_eq_false]
      intro y hy
      obtain ⟨z,t,hkey⟩:=hk y (Array.mem_toList_iff.mp hy)
      simp [DictEntry.refKey,hkey]
    have a' : ¬ es.toList.any (·.refKey) = true:=by rw [a]; exact Bool.false_ne_true
    rw [if_neg a']
    exact congrArg some e
theorem ObjM.look {h : Heap} {x dx C : Addr} {mA : Str→Option Value} (I : ObjM h x dx C mA) : ∃ od,PySem.W.InstAt h x (PySem.W.instObj C dx) C (some od)∧∀ name,PySem.W.lookIn name od = some (mA name):=
  let ⟨od,ho,hl⟩:=zlr I.ns
  ⟨od,⟨I.obj,rfl,rfl,ho⟩,hl⟩
section
variable {prog : Program} {w : World} {A : Around} {E : Value→Shared→Prop} {s : Shared} {K : PySem.W.Frag} {x dx C f : Addr} {mA : Str→Option Value} {name : Str} {v : Value}
end
def putF (f : Str) (v : V) : List (Str×V)→List (Str×V)
  | []=>[(f,v)]
  | (g,x) :: r=>if g = f then (g,v) :: r else (g,x) :: putF f v r
theorem RelO.some_of {v : V} {o : Option Value} (r : RelO (some v) o) : ∃ u,o = some u∧RelV v u:=by
  cases o with
  | none=>exact (show False from r).elim
  | some u=>exact ⟨u,rfl,r⟩
section
variable {P : Program} {w : World} {H H' : Hp} {h h' : Heap} {a C dx : Addr} {fs fs' : List (Str×V)}
theorem ins_get (hok : HOk P w H h) (e : H a = some (.ins C dx fs)) : ∃ mA,ObjM h a dx C mA∧(∀ f,RelO (fs.lookup f) (mA f))∧PySem.Within mA (fs.map (·.1))∧fs.length≤1000∧H dx = some (.own a):=by
  obtain ⟨d,z,ne,ob,mA,n,r,q⟩:=(show zbl P w H h a (.ins C dx fs) from hok a _ e)
  exact ⟨mA,⟨ob,n,ne⟩,r,q,z,d⟩
end
structure Cls (K : PySem.W.Frag) (C : Addr) : Prop where
  pg : PySem.W.plainGet K C Str.empty = true
  hd : PySem.W.hasDictIn K C = true
  po : PySem.W.plainOver K C = true
  sa : PySem.W.findIn K (.ref C) "__setattr__" = some (some (.builtin "object.__setattr__"))
theorem Cls.get {K : PySem.W.Frag} {C : Addr} (c : Cls K C) (f : Str) : PySem.W.plainGet K C f = true:=c.pg
def zmh (K : PySem.W.Frag) (C : Addr) (f : Str) : Prop:=PySem.W.findIn K (.ref C) f = some none
structure Con (K : PySem.W.Frag) (C : Addr) (f : Str) (v : V) (u : Value) : Prop where
  at_ : PySem.W.findIn K (.ref C) f = some (some u)
  rel : RelV v u
  get : PySem.W.specialIn K u "__get__" = some none
  cp : PySem.W.copiedNames.contains f = false
structure Meth (K : PySem.W.Frag) (C : Addr) (m : Str) (f : Addr) : Prop where
  at_ : PySem.W.findIn K (.ref C) m = some (some (.ref f))
  fn : PySem.W.isFn K (.ref f) = true
  kp : PySem.W.keepIn K (.ref f) = true
section
variable {X : Cx} {pins : List (Addr×Obj)} {σ : St} {H : Hp} {s : Shared} {a C dx : Addr} {fs : List (Str×V)} {f : Str} {v : V} {A : Around} {E : Value→Shared→Prop}
theorem Inv.made (I : Inv X pins σ H s) : Inv X pins σ (upd (upd H s.heap.objs.size (.own (s.heap.objs.size + 1))) (s.heap.objs.size + 1) (.ins C s.heap.objs.size []))
    { s with heap:=(s.heap.push PySem.W.emptyDict).push (PySem.W.instObj C s.heap.objs.size) }:=by
  have e1 : (s.heap.push PySem.W.emptyDict).get? s.heap.objs.size = some PySem.W.emptyDict:=Heap.get?_push_size s.heap rfl
  have e2 : ((s.heap.push PySem.W.emptyDict).push (PySem.W.instObj C s.heap.objs.size)).get? (s.heap.objs.size + 1) = some (PySem.W.instObj C s.heap.objs.size):=by
    have:=Heap.get?_push_size (s.heap.push PySem.W.emptyDict) (o:=PySem.W.instObj C s.heap.objs.size) rfl
    rwa [Heap.size_push] at this
  have e3 : (s.heap.push PySem.W.emptyDict).Ns s.heap.objs.size (fun _=>none):=⟨PySem.W.emptyDict,#[],_,e1,rfl,(fun e he=>absurd he (by simp)),fun _=>rfl⟩
  have I1:=I.laid (a:=s.heap.objs.size) (o:=.own (s.heap.objs.size + 1)) (h':=s.heap.push PySem.W.emptyDict) (t':=s.toks) (fun b u q=>Heap.get?_push_of_some _ q) (Nat.le_refl _) ⟨_,e1⟩
  refine I1.laid (a:=s.heap.objs.size + 1) (o:=.ins C s.heap.objs.size []) (t':=s.toks) (fun b u q=>Heap.get?_push_of_some _ q) (Nat.le_of_eq (Heap.size_push _ _)) ?_
  have ne : s.heap.objs.size≠s.heap.objs.size + 1:=Nat.ne_of_lt (Nat.lt_succ_self _)
  refine ⟨by rw [zag ne,zac],Nat.zero_le _,ne,e2,fun _=>none,(Heap.Ns1.of_empty e3).at fun o q=>Heap.get?_push_of_some _ q,fun _=>True.intro,fun y hy=>absurd rfl hy⟩
end
def tFld (K : PySem.W.Frag) (ta : TE) (f : Str) : TE:=fun σ H Q=>ta σ H fun x H1=>∃ a C dx fs v,x = .ref a∧H1 a = some (.ins C dx fs)∧Cls K C∧zmh K C f∧fs.lookup f = some v∧Q v H1
def tCon (K : PySem.W.Frag) (ta : TE) (f : Str) : TE:=fun σ H Q=>ta σ H fun x H1=>∃ a C dx fs v u,x = .ref a∧H1 a = some (.ins C dx fs)∧Cls K C∧Con K C f v u∧fs.lookup f = none∧Q v H1
def sFld (K : PySem.W.Frag) (ta tv : TE) (f : Str) : TS:=fun D σ H=>tv σ H fun y H1=>ta σ H1 fun x H2=>∃ a C dx fs,x = .ref a∧H2 a = some (.ins C dx fs)∧Cls K C∧zmh K C f∧fs.length < 1000∧
  D.nx σ (upd H2 a (.ins C dx (putF f y fs)))
def InOp (X : Cx) (op : Operator) (rd : V→V→Hp→VK→Prop) : Prop:=
  ∀ (pins : List (Addr×Obj)) (s : Shared) (σ : St) (H : Hp) (x y : V) (u v : Value) (Q : VK),Inv X pins σ H s→RelV x u→RelV y v→rd x y H Q→wpAny (model X.prog X.w) X.A (inplaceOp op u v) (EP X pins σ Q) X.xe s
def sFldAug (K : PySem.W.Frag) (ta tv : TE) (rd : V→V→Hp→VK→Prop) (f : Str) : TS:=fun D σ H=>ta σ H fun x H1=>∃ a C dx fs v,x = .ref a∧H1 a = some (.ins C dx fs)∧Cls K C∧zmh K C f∧fs.lookup f = some v∧
  tv σ H1 fun y H2=>rd v y H2 fun z H3=>∃ dx' fs',H3 a = some (.ins C dx' fs')∧fs'.length < 1000∧D.nx σ (upd H3 a (.ins C dx' (putF f z fs')))
section
variable {X : Cx} {o e value : Expr} {f : Str} {pos pos' tpos : Pos} {ta tv : TE}
def rAdd : V→V→Hp→VK→Prop:=fun x y H Q=>∃ i j,x = .int i∧y = .int j∧Q (.int (i + j)) H
def rSub : V→V→Hp→VK→Prop:=fun x y H Q=>∃ i j,x = .int i∧y = .int j∧Q (.int (i - j)) H
end
section
variable {X : Cx} {pins : List (Addr×Obj)} {σ : St} {H : Hp} {s : Shared} {A : Around} {E : Value→Shared→Prop} {Q : Value→Shared→Prop} {c : Value} {b : Bool}
inductive TyOf (K : PySem.W.Frag) (H : Hp) : V→Value→Prop where
  | non : TyOf K H .non (.type "NoneType")
  | bl (x : Bool) : TyOf K H (.bl x) (.type "bool")
  | int (i : Int) : TyOf K H (.int i) (.type "int")
  | str (x : Str) : TyOf K H (.str x) (.type "str")
  | flt (x : UInt64) : TyOf K H (.flt x) (.type "float")
  | lst {a : Addr} {xs : List V} (e : H a = some (.lst xs)) : TyOf K H (.ref a) (.type "list")
  | frz {a : Addr} {o : Obj} {xs : List V} (e : H a = some (.frz o (.lst xs))) : TyOf K H (.ref a) (.type "list")
  | tup {a : Addr} {xs : List V} (e : H a = some (.tup xs)) : TyOf K H (.ref a) (.type "tuple")
  | dK {a : Addr} {kvs : List (Key×V)} (e : H a = some (.dK kvs)) : TyOf K H (.ref a) (.type "dict")
  | dT {a : Addr} {kvs : List (List Key×V)} (e : H a = some (.dT kvs)) : TyOf K H (.ref a) (.type "dict")
  | ins {a C dx : Addr} {fs : List (Str×V)} (e : H a = some (.ins C dx fs)) (cl : Cls K C) (ha : PySem.W.findIn K (.ref C) "__class__" = some (some (.builtin "object.__class__")))
      (hn : PySem.W.specialIn K (.builtin "object.__class__") "__get__" = some (some (.builtin "getset_descriptor.__get__"))) (htk : PySem.W.takesIn K (.builtin "object.__class__") = some true)
      (hm : PySem.W.mroIn K C (.type "object") = some true) : TyOf K H (.ref a) (.ref C)
theorem zlF {x : V} {u t : Value} (I : Inv X pins σ H s) (rx : RelV x u) (ty : TyOf X.K H x t) (e : PySem.W.kitOne X.K t c = some b) (h : ∀ tk,Q (.bool b) { s with toks:=tk }) :
    wpAny (model X.prog X.w) A (call (.builtin "isinstance") [u,c]) Q E s:=by
  cases ty with
  | non=>cases (show u = Value.none from rx); exact PySem.W.kia_one PySem.W.kitx_none I.kIn True.intro e (fun z=>nomatch z) h
  | bl y=>cases (show u = Value.bool y from rx); exact PySem.W.kia_one PySem.W.kitx_bool I.kIn True.intro e (fun z=>nomatch z) h
  | int i=>obtain ⟨t,q⟩:=(show ∃ t,u = Value.int i t from rx); cases q; exact PySem.W.kia_one PySem.W.kitx_int I.kIn True.intro e (fun z=>nomatch z) h
  | str y=>obtain ⟨t,q⟩:=(show ∃ t,u = Value.str y t from rx); cases q; exact PySem.W.kia_one PySem.W.kitx_str I.kIn True.intro e (fun z=>nomatch z) h
  | flt y=>obtain ⟨t,q⟩:=(show ∃ t,u = Value.float y t from rx); cases q; exact PySem.W.kia_one PySem.W.kitx_float I.kIn True.intro e (fun z=>nomatch z) h
  | @lst a xs ea=>
    cases (show u = Value.ref a from rx)
    obtain ⟨_,_,n,_,h1⟩:=(show zbl X.prog X.w H s.heap a (.lst xs) from I.hok a _ ea)
    exact PySem.W.kia_one PySem.W.kitx_list I.kIn ⟨_,h1,rfl⟩ e (fun z=>nomatch z) h
  | @frz a ob xs ea=>
    cases (show u = Value.ref a from rx)
    obtain ⟨_,_,_,n,_,h1⟩:=(show zbl X.prog X.w H s.heap a (.frz ob (.lst xs)) from I.hok a _ ea)
    exact PySem.W.kia_one PySem.W.kitx_list I.kIn ⟨_,h1,rfl⟩ e (fun z=>nomatch z) h
  | @tup a xs ea=>
    cases (show u = Value.ref a from rx)
    obtain ⟨_,_,_,p⟩:=(show zbl X.prog X.w H s.heap a (.tup xs) from I.hok a _ ea)
    obtain ⟨o,h1,h2,_⟩:=p
    exact PySem.W.kia_one PySem.W.kitx_tuple I.kIn ⟨o,h1,h2⟩ e (fun z=>nomatch z) h
  | @dK a kvs ea=>
    cases (show u = Value.ref a from rx)
    obtain ⟨_,_,vs,_,p⟩:=(show zbl X.prog X.w H s.heap a (.dK kvs) from I.hok a _ ea)
    obtain ⟨o,es,ep,h1,h2,_⟩:=p
    exact PySem.W.kia_one PySem.W.kitx_dict I.kIn ⟨o,h1,h2.1⟩ e (fun z=>nomatch z) h
  | @dT a kvs ea=>
    cases (show u = Value.ref a from rx)
    obtain ⟨_,_,xs,_,o,es,ep,h1,h2,_⟩:=(show zbl X.prog X.w H s.heap a (.dT kvs) from I.hok a _ ea)
    exact PySem.W.kia_one PySem.W.kitx_dict I.kIn ⟨o,h1,h2.1⟩ e (fun z=>nomatch z) h
  | @ins a C dx fs ea cl ha hn htk hm=>
    cases (show u = Value.ref a from rx)
    obtain ⟨mA,O,_⟩:=ins_get I.hok ea
    obtain ⟨od,J,_⟩:=O.look
    exact PySem.W.kia_one (PySem.W.kitx_own (cl.get _) cl.hd ha hn htk hm) I.kIn J e (fun z=>nomatch z) h
end
end L2
namespace L2
open PySem PySem.Spec PyProof.Rows
structure Room (k : Nat) (A : Around) : Prop where
  hd : A.handled = none
  dp : A.depth + 3 * k + 5 < recursionLimit
  un : A.units + 16 * k + 200 < cLine
  gd : A.guards = some []
theorem Room.mono {j k : Nat} {A : Around} (r : Room k A) (h : j≤k) : Room j A:=⟨r.hd,by have:=r.dp; omega,by have:=r.un; omega,r.gd⟩
theorem Room.deeper {k : Nat} {A : Around} (r : Room (k + 1) A) (env : Env) : Room k (A.deeper env):=
  ⟨r.hd,by have:=r.dp; show A.depth + 1 + 3 * k + 5 < _; omega,by have:=r.un; show A.units + 3 + 16 * k + 200 < _; omega,r.gd⟩
theorem Room.in1 {k : Nat} {A : Around} (r : Room (k + 1) A) : Room k A.in1:=
  ⟨r.hd,by have:=r.dp; show A.depth + 3 * k + 5 < _; omega,by have:=r.un; show A.units + 1 + 16 * k + 200 < _; omega,r.gd⟩
theorem Room.depth {k : Nat} {A : Around} (r : Room k A) : A.depth < recursionLimit:=by have:=r.dp; omega
theorem Room.units {k : Nat} {A : Around} (r : Room k A) : A.units + 64 < cLine:=by have:=r.un; omega
def tNil : TA:=fun _ H Q=>Q [] H
def tCons (ta : TE) (tr : TA) : TA:=fun σ H Q=>ta σ H fun x H1=>tr σ H1 fun xs H2=>Q (x :: xs) H2
section
variable {X : Cx} {e : Expr} {es : List Expr} {te : TE} {t : TA} {pos : Pos}
theorem zad : PA X [] tNil:=fun _ _ _ _ H Q I h=>Calls.spliced_nil ⟨[],H,I,.nil,h⟩
theorem zaa (ha : PE X e te) (hr : PA X es t) (hs : starEach (e :: es) X.env = (false,eval e X.env) :: starEach es X.env:=by rfl) : PA X (e :: es) (tCons te t):=by
  intro pos pins s σ H Q I h
  rw [hs]
  show wpAny _ _ (spliced ((false,eval e X.env) :: backTo pos (starEach es X.env))) _ _ s
  refine Calls.spliced_cons (thn (ha pins s σ H _ I h) fun u s1 ⟨x,H1,I1,r1,q1⟩=>?_)
  exact thn (hr pos pins s1 σ H1 _ I1 q1) fun us s2 ⟨xs,H2,I2,r2,q2⟩=>⟨x :: xs,H2,I2,.cons r1 r2,q2⟩
def tTup (t : TA) : TE:=fun σ H Q=>t σ H fun xs H1=>xs.length≤sizeLine∧∀ p,H1 p = none→Q (.ref p) (upd H1 p (.tup xs))
def tLst (t : TA) : TE:=fun σ H Q=>t σ H fun xs H1=>xs.length≤sizeLine∧∀ p,H1 p = none→Q (.ref p) (upd H1 p (.lst xs))
theorem zbL {x1} (h : PA X es t) : PE X (.Tuple es x1 pos) (tTup t):=by
  intro pins s σ H Q I hq
  refine wpAny_Tuple_spliced (thn (h pos pins s σ H _ I hq) fun us s1 ⟨xs,H1,I1,r,z,q⟩=>⟨by rw [← r.length]; exact z,?_⟩)
  have hf : H1 s1.heap.objs.size = none:=I1.hok.fresh (Nat.le_refl _)
  refine ⟨.ref s1.heap.objs.size,upd H1 s1.heap.objs.size (.tup xs),I1.laid (t':=s1.toks) (fun b u e=>Heap.get?_push_of_some _ e) (Nat.le_refl _) ?_,rfl,q _ hf⟩
  exact ⟨z,us,r,⟨_,Heap.get?_push_size _ rfl,rfl,_,rfl⟩⟩
theorem zbR (h : PA X es t) : PE X (.List es pos) (tLst t):=by
  intro pins s σ H Q I hq
  refine wpAny_List_spliced (thn (h pos pins s σ H _ I hq) fun us s1 ⟨xs,H1,I1,r,z,q⟩=>⟨by rw [← r.length]; exact z,?_⟩)
  have hf : H1 s1.heap.objs.size = none:=I1.hok.fresh (Nat.le_refl _)
  refine ⟨.ref s1.heap.objs.size,upd H1 s1.heap.objs.size (.lst xs),I1.laid (t':=s1.toks) (fun b u e=>Heap.get?_push_of_some _ e) (Nat.le_refl _) ?_,rfl,q _ hf⟩
  exact ⟨z,us,0,r,Heap.get?_push_size _ rfl⟩
end
abbrev Sp:=List V→Hp→VK→XK→Prop
abbrev CXT:=List Env→Hp→Shared→XK→Value→Shared→Prop
structure Env0 (P : Program) (w : World) (K : PySem.W.Frag) (mg : Str→Option Value) (base : Heap) (A : Around) (outer : List Env) (s : Shared) (H : Hp) : Prop where
  frames : A.frames = some outer
  mod : Mod K mg base
  bs : ∀ b o,base.get? b = some o→s.heap.get? b = some o∧H b = none
  bsz : base.objs.size≤s.heap.objs.size
  funs : s.heap.FunFrames base outer
  frf : ∀ b∈frs outer,H b = none
  hok : HOk P w H s.heap
  bare : AllBare s.gens
def CE (outer : List Env) (P : Program) (w : World) (H : Hp) (s : Shared) (Q : VK) (u : Value) (s' : Shared) : Prop:=
  ∃ v H',s'.os = s.os∧AllBare s'.gens∧Un (frs outer) [] H H' s.heap s'.heap∧HOk P w H' s'.heap∧RelV v u∧Q v H'
def CR (CX : CXT) (outer : List Env) (P : Program) (w : World) (H : Hp) (s : Shared) (Q : VK) (E : XK) (r : Result) (s' : Shared) : Prop:=
  match r with
  | .ok (.ret u)=>CE outer P w H s Q u s'
  | .ok _=>False
  | .error e=>CX outer H s E e s'
structure FnOk (P : Program) (w : World) (K : PySem.W.Frag) (mg : Str→Option Value) (base : Heap) (CX : CXT) (k : Nat) (f : Addr) (fd : FuncData) (ps : List Str) (sp : Sp) : Prop where
  len : ∀ vs H Q E,sp vs H Q E→vs.length = ps.length
  run : ∀ (A : Around) (outer : List Env) (s : Shared) (H : Hp) (args : Args) (us : List Value) (vs : List V) (Q : VK) (E : XK),Room k A→Env0 P w K mg base A outer s H→BindsTo s fd args (ps.zip us)→Vals vs us→sp vs H Q E→
    codeAny (model P w) A (.call (.ref f) args) (CR CX outer P w H s Q E) s
theorem FnOk.mono {P : Program} {w : World} {K : PySem.W.Frag} {mg : Str→Option Value} {base : Heap} {CX : CXT} {j k : Nat} {f : Addr} {fd : FuncData} {ps : List Str} {sp : Sp} (F : FnOk P w K mg base CX j f fd ps sp) (h : j≤k) :
    FnOk P w K mg base CX k f fd ps sp:=⟨F.len,fun A outer s H args us vs Q E hr=>F.run A outer s H args us vs Q E (hr.mono h)⟩
theorem FnOk.imp {P : Program} {w : World} {K : PySem.W.Frag} {mg : Str→Option Value} {base : Heap} {CX : CXT} {k : Nat} {f : Addr} {fd : FuncData} {ps : List Str} {sp sp' : Sp} (F : FnOk P w K mg base CX k f fd ps sp)
    (h : ∀ vs H Q E,sp' vs H Q E→sp vs H Q E) : FnOk P w K mg base CX k f fd ps sp':=
  ⟨fun vs H Q E q=>F.len vs H Q E (h _ _ _ _ q),fun A outer s H args us vs Q E hr he hb hv hs=>F.run A outer s H args us vs Q E hr he hb hv (h _ _ _ _ hs)⟩
theorem Env0.in1 {P : Program} {w : World} {K : PySem.W.Frag} {mg : Str→Option Value} {base : Heap} {A : Around} {outer : List Env} {s : Shared} {H : Hp} (e : Env0 P w K mg base A outer s H) :
    Env0 P w K mg base A.in1 outer s H:=⟨e.frames,e.mod,e.bs,e.bsz,e.funs,e.frf,e.hok,e.bare⟩
section
variable {X : Cx} {pins : List (Addr×Obj)} {σ : St} {H : Hp} {s s' : Shared}
theorem Inv.env0 (I : Inv X pins σ H s) : Env0 X.prog X.w X.K X.mg X.base X.A X.stack s H:=
  ⟨I.ok.frames,I.ok.mod,I.bs,Nat.le_trans I.ok.bsz I.sz,I.stack,I.stkFree,I.hok,I.bare⟩
theorem Inv.after {Q : VK} {u : Value} (I : Inv X pins σ H s) (h : CE X.stack X.prog X.w H s Q u s') : EP X pins σ Q u s':=by
  obtain ⟨v,H',os,bare,un,hok,r,q⟩:=h
  obtain ⟨hh,g,d,t,os'⟩:=s'
  obtain rfl : os' = s.os:=os
  exact ⟨v,H',I.call (h':=hh) (g':=g) (d':=d) (t':=t) (ch:=[]) un hok bare (fun b z=>absurd z (by simp)),r,q⟩
end
def tCall (sp : Sp) (dvs : List V) (E : XK) (t : TA) : TE:=fun σ H Q=>t σ H fun vs H1=>sp (vs ++ dvs) H1 Q E
def tMeth (C : Addr) (m : Str) (sp : Sp) (dvs : List V) (E : XK) (ta : TE) (t : TA) : TE:=fun σ H Q=>ta σ H fun x H1=>∃ a dx fs,x = .ref a∧H1 a = some (.ins C dx fs)∧fs.lookup m = none∧
  t σ H1 fun vs H2=>sp (x :: (vs ++ dvs)) H2 Q E
def tMake (C : Addr) (sp : Sp) (dvs : List V) (E : XK) (t : TA) : TE:=fun σ H Q=>t σ H fun vs H1=>∀ x dx,H1 x = none→H1 dx = none→dx≠x→
  sp (.ref x :: (vs ++ dvs)) (upd (upd H1 dx (.own x)) x (.ins C dx [])) (fun v H2=>v = .non∧Q (.ref x) H2) E
def zgR (K : PySem.W.Frag) (fd : FuncData) (ps : List Str) (ds : List Value) : Prop:=
  ∀ (s : Shared) (us : List Value),K.In s.heap→(us ++ ds).length = ps.length→BindsTo s fd ⟨us,[]⟩ (ps.zip (us ++ ds))
theorem zgR.all {K : PySem.W.Frag} {fd : FuncData} {ps : List Str} (h : ∀ us : List Value,us.length = ps.length→bindArgs fd ⟨us,[]⟩ = pure (ps.zip us)) : zgR K fd ps []:=fun s us _ hl=>by
  rw [List.append_nil] at hl ⊢
  exact .of_eq (h us hl)
def zmg (CX : CXT) (X : Cx) (E : XK) : Prop:=∀ (pins : List (Addr×Obj)) (σ : St) (H : Hp) (s : Shared) (e : Value) (s' : Shared),Inv X pins σ H s→CX X.stack H s E e s'→X.xe e s'
section
variable {X : Cx} {CX : CXT} {k : Nat} {f C : Addr} {fd : FuncData} {ps : List Str} {sp : Sp} {dvs : List V} {ds : List Value} {E : XK} {x m : Str} {p pos apos : Pos} {e o : Expr} {es : List Expr} {ta : TE} {t : TA}
theorem znF {pins : List (Addr×Obj)} {σ : St} {H : Hp} {s : Shared} {Q : VK} {us : List Value} {vs : List V} (F : FnOk X.prog X.w X.K X.mg X.base CX k f fd ps sp) (hr : Room k X.A) (hb : zgR X.K fd ps ds) (hd : Vals dvs ds) (hx : zmg CX X E)
    (I : Inv X pins σ H s) (r : Vals vs us) (h : sp (vs ++ dvs) H Q E) : wpAny (model X.prog X.w) X.A (call (.ref f) us) (EP X pins σ Q) X.xe s:=by
  have r2 : Vals (vs ++ dvs) (us ++ ds):=r.append hd
  have hl : (us ++ ds).length = ps.length:=by rw [← r2.length]; exact F.len _ _ _ _ h
  refine wpAny_call (codeAny_mono (F.run X.A X.stack s H ⟨us,[]⟩ (us ++ ds) (vs ++ dvs) Q E hr I.env0 (hb s us I.kIn hl) r2 h) fun r s' hq=>?_)
  cases r with
  | error e=>exact hx pins σ H s e s' I hq
  | ok fl=>
    cases fl with
    | ret u=>exact I.after hq
    | next=>exact False.elim hq
    | brk=>exact False.elim hq
    | cont=>exact False.elim hq
theorem zoo (F : FnOk X.prog X.w X.K X.mg X.base CX k f fd ps sp) (hr : Room k X.A) (hg : Gl X x) (hm : X.mg x = some (.ref f)) (hk : PySem.W.keepIn X.K (.ref f) = true) (hb : zgR X.K fd ps ds) (hd : Vals dvs ds) (hx : zmg CX X E)
    (ha : PA X (e :: es) t) (hdb : (x == ("__debug__" : Str)) = false:=by decide) (he : starEach (e :: es) X.env = (false,eval e X.env) :: starEach es X.env:=by rfl) (hpl : (backTo pos (starEach es X.env)).any (·.1) = false:=by rfl) :
    PE X (.Call (.Name x p) (e :: es) [] pos) (tCall sp dvs E t):=by
  intro pins s σ H Q I h
  refine wpAny_Call_Name_kw (zgC I hg hm ?_ hdb)
  refine PySem.W.callWith_K (h₀:=X.base) I.ok.mod.kin hk (thn (ha pos pins s σ H _ I h) fun us s1 ⟨vs,H1,I1,r,q⟩=>⟨I1.kIn,?_⟩) he hpl
  exact znF F hr hb hd hx I1 r q
structure Mk (K : PySem.W.Frag) (C f : Addr) : Prop where
  makes : PySem.W.makesIn K C = true
  init : PySem.W.findIn K (.ref C) "__init__" = some (some (.ref f))
  fn : PySem.W.isFn K (.ref f) = true
  kp : PySem.W.keepIn K (.ref C) = true
end
def PK (X : Cx) (kws : List Keyword) (t : TA) : Prop:=
  ∀ (pos : Pos) (pins : List (Addr×Obj)) (s : Shared) (σ : St) (H : Hp) (Q : List V→Hp→Prop),Inv X pins σ H s→t σ H Q→wpAny (model X.prog X.w) X.A (evalAll ((backToKw pos (keywordEach kws X.env)).map (·.2))) (AP X pins σ Q) X.xe s
section
variable {X : Cx} {CX : CXT} {k : Nat} {f C : Addr} {fd : FuncData} {ps ks : List Str} {sp : Sp} {E : XK} {x m : Str} {p pos apos kpos : Pos} {e o : Expr} {es : List Expr} {kws : List Keyword} {te ta : TE} {t tk : TA} {nm : Option Str}
structure KBinds (K : PySem.W.Frag) (fd : FuncData) (ps ks : List Str) (g : List Value→List Value→List Value) (gV : List V→List V→List V) : Prop where
  to : ∀ (s : Shared) (us ws : List Value),K.In s.heap→(g us ws).length = ps.length→BindsTo s fd ⟨us,ks.zip ws⟩ (ps.zip (g us ws))
  rel : ∀ {vs : List V} {us : List Value} {zs : List V} {ws : List Value},Vals vs us→Vals zs ws→Vals (gV vs zs) (g us ws)
def tCallK (sp : Sp) (gV : List V→List V→List V) (E : XK) (t tk : TA) : TE:=fun σ H Q=>t σ H fun vs H1=>tk σ H1 fun zs H2=>sp (gV vs zs) H2 Q E
variable {g : List Value→List Value→List Value} {gV : List V→List V→List V}
end
structure zan (N P : List Str) (sc : Scope) : Prop where
  kind : sc.kind = .function
  co : sc.isCoroutine = false
  gen : sc.isGenerator = false
  nd : N.Nodup
  pre : N.take P.length = P
  par : ∀ x∈P,sc.names.lookup x = some .local∨sc.names.lookup x = some .cell
  nofree : ∀ y∈sc.names,y.2≠.free
theorem zhJ {kindOf : Str→Option NameKind} {x : Str} : ∀ {binds : List (Str×Value)} {m : Str→Option Value},(∀ v,(x,v)∉binds)→bindL kindOf binds m x = m x
  | [],_,_=>rfl
  | (n,v) :: r,m,h=>by
    unfold bindL
    rw [zhJ fun w hw=>h w (List.mem_cons_of_mem _ hw)]
    split
    · have : x≠n:=by rintro rfl; exact h v List.mem_cons_self
      simp [this]
    · rfl
theorem zhL {kindOf : Str→Option NameKind} {x : Str} : ∀ {binds : List (Str×Value)} {m : Str→Option Value},(∀ v,(x,v)∉binds)→bindC kindOf binds m x = m x
  | [],_,_=>rfl
  | (n,v) :: r,m,h=>by
    unfold bindC
    rw [zhL fun w hw=>h w (List.mem_cons_of_mem _ hw)]
    split
    · rfl
    · have : x≠n:=by rintro rfl; exact h v List.mem_cons_self
      simp [this]
theorem zhK {kindOf : Str→Option NameKind} {x : Str} {v : Value} : ∀ {P : List Str} {vs : List Value} {i : Nat} {m : Str→Option Value},P.Nodup→P[i]? = some x→vs[i]? = some v→kindOf x = some .local→
    bindL kindOf (P.zip vs) m x = some v
  | [],_,_,_,_,h,_,_=>by simp at h
  | _ :: _,[],_,_,_,_,h,_=>by simp at h
  | p :: P,w :: vs,0,m,nd,h1,h2,hk=>by
    simp at h1 h2; subst h1; subst h2
    show bindL kindOf ((p,w) :: P.zip vs) m p = _
    unfold bindL
    rw [zhJ fun v hv=>(List.nodup_cons.mp nd).1 (List.of_mem_zip hv).1,if_pos hk]
    simp
  | p :: P,w :: vs,i + 1,m,nd,h1,h2,hk=>by
    show bindL kindOf ((p,w) :: P.zip vs) m x = _
    unfold bindL
    exact zhK (i:=i) (List.nodup_cons.mp nd).2 (by simpa using h1) (by simpa using h2) hk
theorem zhM {kindOf : Str→Option NameKind} {x : Str} {v : Value} : ∀ {P : List Str} {vs : List Value} {i : Nat} {m : Str→Option Value},P.Nodup→P[i]? = some x→vs[i]? = some v→kindOf x≠some .local→
    bindC kindOf (P.zip vs) m x = some v
  | [],_,_,_,_,h,_,_=>by simp at h
  | _ :: _,[],_,_,_,_,h,_=>by simp at h
  | p :: P,w :: vs,0,m,nd,h1,h2,hk=>by
    simp at h1 h2; subst h1; subst h2
    show bindC kindOf ((p,w) :: P.zip vs) m p = _
    unfold bindC
    rw [zhL fun v hv=>(List.nodup_cons.mp nd).1 (List.of_mem_zip hv).1,if_neg hk]
    simp
  | p :: P,w :: vs,i + 1,m,nd,h1,h2,hk=>by
    show bindC kindOf ((p,w) :: P.zip vs) m x = _
    unfold bindC
    exact zhM (i:=i) (List.nodup_cons.mp nd).2 (by simpa using h1) (by simpa using h2) hk
def zcq (N : List Str) (vs : List V) : St:=vs.map some ++ List.replicate (N.length - vs.length) none
def cxOf (CX : CXT) (P : Program) (w : World) (K : PySem.W.Frag) (mg : Str→Option Value) (base : Heap) (N : List Str) (qual : Str) (scope : Scope) (f : Addr) (cd : Value) (A : Around) (outer : List Env) (s : Shared) (H : Hp) (E : XK) : Cx where
  prog:=P
  w:=w
  K:=K
  mg:=mg
  base:=base
  A:=A.deeper (envOfC qual scope s.heap.objs.size f cd)
  N:=N
  s₀:=s
  H₀:=H
  env:=envOfC qual scope s.heap.objs.size f cd
  outer:=outer
  stack:=envOfC qual scope s.heap.objs.size f cd :: outer
  ex:=[]
  calm:=true
  fn:=fun _=>true
  pn:=[]
  xe:=fun e s'=>wpAny (model P w) (A.deeper (envOfC qual scope s.heap.objs.size f cd)) (leaving (envOfC qual scope s.heap.objs.size f cd) e) (fun _ s''=>CX outer H s E e s'') (fun e' s''=>CX outer H s E e' s'') s'
theorem zjw {sc : Scope} {n : Nat} {x : Str} (h : sc.names.lookup x = some .cell) : ∃ c,(cellsFrom n sc.names []).lookup x = some c:=by
  have q:=PySem.W.cellsFrom_some sc.names n [] (.inl h)
  exact Option.isSome_iff_exists.mp q
theorem zlG {CX : CXT} {P : Program} {w : World} {K : PySem.W.Frag} {mg : Str→Option Value} {base : Heap} {N ps : List Str} {qual : Str} {scope : Scope} {f : Addr} {cd : Value} {A : Around} {outer : List Env} {s s1 : Shared} {H : Hp} {E : XK} {us : List Value} {vs : List V}
    (S : zan N ps scope) (hd : A.handled = none) (e0 : Env0 P w K mg base A outer s H) (hl : vs.length = ps.length) (r : Vals vs us)
    (x : InCallC s s.heap.objs.size (bindL (envOfC qual scope s.heap.objs.size f cd).kindOf (ps.zip us) fun _=>none) (cellsFrom (s.heap.objs.size + 1) scope.names []) (bindC (envOfC qual scope s.heap.objs.size f cd).kindOf (ps.zip us) fun _=>none) s1) :
    Inv (cxOf CX P w K mg base N qual scope f cd A outer s H E) [] (zcq N vs) H s1:=by
  have hpl : ps.length≤N.length:=by have:=congrArg List.length S.pre; rw [List.length_take] at this; omega
  obtain ⟨h1,tk,rfl,hk⟩:=x.done
  have noA : ∀ b : Addr,b∉(cxOf CX P w K mg base N qual scope f cd A outer s H E).ex:=fun b z=>absurd (show b∈([] : List Addr) from z) (by simp)
  refine ⟨⟨e0.mod,S.kind,rfl,rfl,Nat.le_refl _,fun y z c h1 h2=>?_,fun y hy=>?_,fun y c _ h=>?_,fun _=>hd,Around.frames_deeper e0.frames,.inr ⟨rfl,rfl⟩,fun b z=>absurd z (noA b),e0.bs,e0.bsz,fun b _ _=>noA b,fun b z=>absurd z (noA b),e0.funs,e0.frf⟩,
    rfl,e0.bare,Un.kept hk,⟨_,x.toInCall.ns,fun i y v h1 h2 h3=>?_⟩,fun y c h=>⟨_,x.cell y c h⟩,e0.hok.fresh (Nat.le_refl _),fun y c h=>?_,fun p hp=>absurd (show p∈([] : List (Addr×Obj)) from hp) (by simp),e0.hok.kept hk,?_⟩
  · exact name_of_addr x.apart (PySem.mem_of_lookup h1) (PySem.mem_of_lookup h2)
  · have hy : scope.names.lookup y = some .cell∨scope.names.lookup y = some .free:=hy
    rcases hy with hy | hy
    · exact zjw hy
    · exact absurd rfl (S.nofree _ (PySem.mem_of_lookup hy))
  · exact Nat.le_of_lt (x.above y c (PySem.mem_of_lookup h))
  · have hi : i < vs.length:=by
      unfold zcq at h2
      by_cases hi : i < vs.length
      · exact hi
      · rw [List.getElem?_append_right (by simpa using hi)] at h2
        rw [List.getElem?_replicate] at h2
        split at h2 <;> cases h2
    have ha : vs[i]? = some v:=by
      unfold zcq at h2
      rw [List.getElem?_append_left (by simpa using hi),List.getElem?_map] at h2
      cases e : vs[i]? with
      | none=>rw [e] at h2; cases h2
      | some a=>rw [e] at h2; cases h2; rfl
    obtain ⟨u,hu,rv⟩:=r.get ha
    have hp : ps[i]? = some y:=by
      rw [← S.pre,List.getElem?_take_of_lt (by omega)]; exact h1
    have ndP : ps.Nodup:=by rw [← S.pre]; exact S.nd.sublist (List.take_sublist _ _)
    refine ⟨u,rv,?_⟩
    rcases S.par y (List.mem_of_getElem? hp) with k | k
    · exact .inl ⟨k,zhK ndP hp hu k⟩
    · obtain ⟨c,e⟩:=zjw (n:=s.heap.objs.size + 1) k
      refine .inr ⟨.inl k,c,e,?_⟩
      have q:=x.cell y c e
      rw [zhM ndP hp hu (by show scope.names.lookup y≠_; rw [k]; decide)] at q
      exact q
  · exact e0.hok.fresh (Nat.le_of_lt (x.above y c (PySem.mem_of_lookup h)))
  · unfold zcq
    show _ = N.length
    rw [List.length_append,List.length_map,List.length_replicate]
    omega
theorem fn_of {CX : CXT} {P : Program} {w : World} {K : PySem.W.Frag} {mg : Str→Option Value} {base : Heap} {k : Nat} {f : Addr} {name qual : Str} {params : Arguments} {body : List Stmt} {scope : Scope} {dV kV doc pm cdv ct oc : Value} {an od : Option Addr}
    {osl : Array (Option Value)} {N ps : List Str} {sp : Sp} (lk : K.lookup f = some ⟨oc,od,.func (PySem.W.fnOf name qual params body scope dV kV doc pm an cdv ct),osl⟩) (hcd : PySem.W.codeIn K cdv qual = true) (S : zan N ps scope)
    (len : ∀ vs H Q E,sp vs H Q E→vs.length = ps.length)
    (hbody : ∀ (A : Around) (outer : List Env) (s : Shared) (H : Hp) (vs : List V) (Q : VK) (E : XK),Room k (A.deeper (envOfC qual scope s.heap.objs.size f cdv))→sp vs H Q E→
      ∃ t,PSs (cxOf CX P w K mg base N qual scope f cdv A outer s H E) body t∧t { nx:=fun _ H'=>Q .non H',rt:=Q } (zcq N vs) H) :
    FnOk P w K mg base CX (k + 1) f (PySem.W.fnOf name qual params body scope dV kV doc pm an cdv ct) ps sp:=by
  refine ⟨len,fun A outer s H args us vs Q E hr e0 hb r hsp=>?_⟩
  have hl:=len _ _ _ _ hsp
  have KX : K.In s.heap:=e0.mod.kin.keeps fun b o e=>(e0.bs b o e).1
  have lim : s.heap.NoLimit:=e0.mod.nolimit.keeps fun b o e=>(e0.bs b o e).1
  have hkind : ∀ y∈ps.zip us,scope.names.lookup y.1 = some .local∨(scope.names.lookup y.1 = some .cell∧((cellsFrom (s.heap.objs.size + 1) scope.names []).lookup y.1).isSome = true):=fun ⟨n,v⟩ hy=>by
    rcases S.par n (List.of_mem_zip hy).1 with q | q
    · exact .inl q
    · exact .inr ⟨q,PySem.W.cellsFrom_some _ _ _ (.inl q)⟩
  refine codeAny_call_function hr.depth (KX _ _ lk) rfl S.co S.gen rfl (PySem.W.codeRec_of KX hcd) (hb _ _ _ _ ?_)
  refine wpAny_newFunctionEnv_cells S.kind hkind fun env he s1 x=>?_
  subst he
  refine ⟨lim.keeps x.toInCall.keep,codeAny_func ?_⟩
  obtain ⟨t,ht,hq⟩:=hbody A outer s H vs Q E (hr.deeper _) hsp
  have I : Inv (cxOf CX P w K mg base N qual scope f cdv A outer s H E) [] (zcq N vs) H s1:=zlG S hr.hd e0 hl r x
  refine wpAny_mono (ht [] s1 (zcq N vs) H _ I hq) (fun fl s' hs=>?_) fun e s' hs=>hs
  have fin : ∀ {σ' : St} {H' : Hp} {v : V} {u : Value},Inv (cxOf CX P w K mg base N qual scope f cdv A outer s H E) [] σ' H' s'→RelV v u→Q v H'→CE outer P w H s Q u s':=
    fun {σ' H' v u} J rv q=>⟨v,H',J.os,J.bare,J.base,J.hok,rv,q⟩
  cases fl with
  | ret u=>
    obtain ⟨v,σ',H',J,rv,q⟩:=hs
    exact fin J rv q
  | next=>
    obtain ⟨σ',H',J,q⟩:=hs
    exact fin (v:=V.non) (u:=Value.none) J rfl q
  | brk=>
    obtain ⟨_,_,_,q⟩:=hs
    exact False.elim q
  | cont=>
    obtain ⟨_,_,_,q⟩:=hs
    exact False.elim q
end L2
namespace L2
open PySem PySem.Spec PyProof.Rows
section
variable {X : Cx} {x : Str} {p pos : Pos} {e : Expr} {es : List Expr} {t : TA} {id T : String} {r : List V→Hp→VK→Prop}
def tCB (r : List V→Hp→VK→Prop) (t : TA) : TE:=fun σ H Q=>t σ H fun vs H1=>r vs H1 Q
theorem zau (hc : zdS X (.builtin id) r) (hg : Gl X x) (hm : X.mg x = none) (hv : bootBuiltins x = some (.builtin id)) (ha : PA X (e :: es) t) (hn : x ≠ "__name__":=by decide) (hdb : (x == ("__debug__" : Str)) = false:=by decide)
    (he : starEach (e :: es) X.env = (false,eval e X.env) :: starEach es X.env:=by rfl) (hpl : (backTo pos (starEach es X.env)).any (·.1) = false:=by rfl) : PE X (.Call (.Name x p) (e :: es) [] pos) (tCB r t):=by
  intro pins s σ H Q I h
  refine wpAny_Call_Name_kw (zeh I hg hm hv ?_ hn hdb)
  exact PyProof.Rows.callWith_builtin1 (thn (ha pos pins s σ H _ I h) fun us s1 ⟨vs,H1,I1,r1,q1⟩=>hc pins s1 σ H1 vs us Q I1 r1 q1) he hpl
theorem zaO (hc : zdS X (.type T) r) (hg : Gl X x) (hm : X.mg x = none) (hv : bootBuiltins x = some (.type T)) (ha : PA X (e :: es) t) (hn : x ≠ "__name__":=by decide) (hdb : (x == ("__debug__" : Str)) = false:=by decide)
    (he : starEach (e :: es) X.env = (false,eval e X.env) :: starEach es X.env:=by rfl) (hpl : (backTo pos (starEach es X.env)).any (·.1) = false:=by rfl) : PE X (.Call (.Name x p) (e :: es) [] pos) (tCB r t):=by
  intro pins s σ H Q I h
  refine wpAny_Call_Name_kw (zeh I hg hm hv ?_ hn hdb)
  exact PyProof.Rows.callWith_type1 (thn (ha pos pins s σ H _ I h) fun us s1 ⟨vs,H1,I1,r1,q1⟩=>hc pins s1 σ H1 vs us Q I1 r1 q1) he hpl
end
end L2
namespace HT
open PySem PyProof.Rows
def lexLt : List Int→List Int→Bool
  | [],[]=>false
  | [],_ :: _=>true
  | _ :: _,[]=>false
  | x :: xs,y :: ys=>if x = y then lexLt xs ys else decide (x < y)
section
open PySem.SeqAt
open PySem.AutoSeq1 (wpAny_loadPart')
open PySem.MeetsSeq PySem.MeetsSeq2 PySem.MeetsSeq3
end
section
variable {prog : Program} {w : World} {A : Around} {E : Value→Shared→Prop} {s : Shared}
theorem cat_tup {t b : Addr} {vs ws : List Value} {Q : Value→Shared→Prop} (ht : IsTup s.heap t vs.toArray) (hb : IsTup s.heap b ws.toArray) (hv : vs≠[])
    (h1 : ws = []→Q (.ref t) s) (h2 : ws≠[]→Q (.ref s.heap.objs.size) { s with heap:=s.heap.push { cls:=.type "tuple",data:=.seq (vs ++ ws).toArray } })
    (hsz : vs.length + ws.length≤sizeLine) : wpAny (model prog w) A (binaryOp .Add (.ref t) (.ref b)) Q E s:=by
  obtain ⟨⟨cls,dd,data,sl⟩,ho,hc,n,hd⟩:=id ht
  obtain ⟨⟨cls2,dd2,data2,sl2⟩,ho2,hc2,n2,hd2⟩:=id hb
  simp only at hc hd hc2 hd2
  subst hc hd hc2 hd2
  have e : vs.toArray ++ ws.toArray = (vs ++ ws).toArray:=by simp
  by_cases hw : ws = []
  · exact concat_meets ⟨_,ho,rfl⟩ ⟨_,ho2,rfl⟩ noFill_tuple_add seq_tuple_add PySem.F.slot_tuple_add PySem.F.entry_tuple_add (PySem.F.args_tuple_add_2 _ _)
      (tuple_addW1 t b vs.toArray ws.toArray n n2 dd dd2 sl sl2 (by simpa using hv) (by simp [hw])) ⟨ho,ho2,h1 hw⟩
  · refine concat_meets ⟨_,ho,rfl⟩ ⟨_,ho2,rfl⟩ noFill_tuple_add seq_tuple_add PySem.F.slot_tuple_add PySem.F.entry_tuple_add (PySem.F.args_tuple_add_2 _ _)
      (tuple_addW2 t b vs.toArray ws.toArray n n2 dd dd2 sl sl2 (by simpa using hv) (by simpa using hw) (by rw [List.size_toArray,List.size_toArray]; exact hsz)) ⟨ho,ho2,?_⟩
    rw [e]
    exact h2 hw
def sIx (n d : Nat) : Option Int→Nat
  | none=>d
  | some v=>if v < 0 then (v + (n : Int)).toNat else min v.toNat n
theorem zc4 (n d k : Nat) : sIx n d (some (k : Int)) = min k n:=by
  show (if (k : Int) < 0 then ((k : Int) + (n : Int)).toNat else min (k : Int).toNat n) = min k n
  rw [if_neg (by omega),Int.toNat_natCast]
theorem sIx_le (n d : Nat) (hd : d≤n) (o : Option Int) : sIx n d o≤n:=by
  cases o with
  | none=>exact hd
  | some v=>
    show (if v < 0 then (v + (n : Int)).toNat else min v.toNat n)≤n
    by_cases hv : v < 0
    · rw [if_pos hv]; omega
    · rw [if_neg hv]; exact Nat.min_le_right _ _
theorem zl4 (v : Int) (n d : Nat) : (if v < 0 then max (v + (n : Int)) 0 else min v (n : Int)) = ((sIx n d (some v) : Nat) : Int):=by
  show (if v < 0 then max (v + (n : Int)) 0 else min v (n : Int)) = (((if v < 0 then (v + (n : Int)).toNat else min v.toNat n) : Nat) : Int)
  by_cases hv : v < 0
  · simp only [if_pos hv]; omega
  · simp only [if_neg hv]; omega
theorem zkg (lo hi : Option Int) (n : Nat) : Builtin.Slice.sliceAdjust lo hi 1 (n : Int) = (((sIx n 0 lo : Nat) : Int),((sIx n n hi : Nat) : Int)):=by
  have h1 : ¬ ((1 : Int) < 0):=by omega
  unfold Builtin.Slice.sliceAdjust
  simp only [h1,if_false]
  refine Prod.ext ?_ ?_
  · cases lo with
    | none=>rfl
    | some v=>exact zl4 v n 0
  · cases hi with
    | none=>rfl
    | some v=>exact zl4 v n n
theorem zjL (i j : Nat) : Builtin.Slice.slicePlaces (i : Int) (j : Int) 1 = j - i:=by
  unfold Builtin.Slice.slicePlaces
  have h1 : (1 : Int) > 0:=by omega
  simp only [h1,if_true,Int.ediv_one]
  split <;> omega
theorem zfW {v : Value} {o : Option Int} {Q : Option Int→Shared→Prop} (p : IsPart v o) (h : Q o s) : wpAny (model prog w) A (Builtin.Slice.slicePartIndex v) Q E s:=by
  cases p with
  | none=>exact slicePart_none h
  | int i t=>exact slicePart_int h
theorem zcY {sl : Addr} {vl vu : Value} {lo hi : Option Int} {n : Nat} {Q : Int×Int×Nat→Shared→Prop} (hs : s.heap.IsSliceOf sl vl vu .none) (pl : IsPart vl lo) (pu : IsPart vu hi)
    (h : Q (((sIx n 0 lo : Nat) : Int),1,sIx n n hi - sIx n 0 lo) s) : wpAny (model prog w) A (Builtin.Slice.sliceApplied (.ref sl) (pure (n : Int))) Q E s:=by
  obtain ⟨os,hos,hcs,hds⟩:=id hs
  unfold Builtin.Slice.sliceApplied Builtin.Slice.sliceFields
  refine wpAny_bind (wpAny_bind (wpAny_field hos hds (x:=vl) rfl (wpAny_bind (wpAny_field hos hds (x:=vu) rfl (wpAny_bind (wpAny_field hos hds (x:=.none) rfl (wpAny_pure ?_)))))))
  refine wpAny_bind (slicePart_none ?_)
  show wpAny _ _ (if ((1 : Int) == 0) = true then _ else _) _ _ s
  rw [if_neg (by decide)]
  refine wpAny_bind (zfW pl (wpAny_bind (zfW pu (wpAny_bind (wpAny_pure ?_)))))
  show wpAny _ _ (match Builtin.Slice.sliceAdjust lo hi 1 (n : Int) with | (lo,hi)=>pure (lo,(1 : Int),Builtin.Slice.slicePlaces lo hi 1)) _ _ s
  rw [zkg lo hi n]
  show wpAny _ _ (pure (((sIx n 0 lo : Nat) : Int),(1 : Int),Builtin.Slice.slicePlaces ((sIx n 0 lo : Nat) : Int) ((sIx n n hi : Nat) : Int) 1)) _ _ s
  rw [zjL]
  exact wpAny_pure h
theorem zmA (xs : Array Value) (i k : Nat) : ((List.range k).filterMap fun (m : Nat)=>xs[((i : Int) + (m : Int) * 1).toNat]?).toArray = ((xs.toList.drop i).take k).toArray:=by
  have e : (fun (m : Nat)=>xs[((i : Int) + (m : Int) * 1).toNat]?) = fun m=>xs[i + m]?:=by
    funext m
    have : ((i : Int) + (m : Int) * 1).toNat = i + m:=by omega
    rw [this]
  rw [e]
  have:=pick_run xs i k
  rw [List.filterMap_map] at this
  have e2 : ((fun x=>xs[x]?) ∘ fun x=>i + x) = fun m=>xs[i + m]?:=rfl
  rw [e2] at this
  rw [this]
theorem getItem_tuple_cut {t sl : Addr} {items : Array Value} {vl vu : Value} {lo hi : Option Int} {Q : Value→Shared→Prop} (ht : IsTup s.heap t items) (hs : s.heap.IsSliceOf sl vl vu .none) (pl : IsPart vl lo) (pu : IsPart vu hi)
    (hw : ¬ (sIx items.size 0 lo = 0∧sIx items.size items.size hi = items.size))
    (h : Q (.ref s.heap.objs.size) { s with heap:=s.heap.push { cls:=.type "tuple",data:=.seq ((items.toList.drop (sIx items.size 0 lo)).take (sIx items.size items.size hi - sIx items.size 0 lo)).toArray } })
    (hsz : items.size≤sizeLine) : wpAny (model prog w) A (getItem (.ref t) (.ref sl)) Q E s:=by
  have htake : sizeOk (.seq ((items.toList.drop (sIx items.size 0 lo)).take (sIx items.size items.size hi - sIx items.size 0 lo)).toArray):=by
    show ((items.toList.drop (sIx items.size 0 lo)).take (sIx items.size items.size hi - sIx items.size 0 lo)).toArray.size≤sizeLine
    rw [List.size_toArray,List.length_take,List.length_drop,Array.length_toList]
    omega
  have hj : sIx items.size items.size hi≤items.size:=sIx_le _ _ (Nat.le_refl _) hi
  obtain ⟨os,hos,hcs,hds⟩:=id hs
  have hTs : s.TypeIs (.ref sl) "slice":=⟨os,hos,hcs⟩
  unfold getItem
  try with_reducible refine wpAny_holding ?_
  first | refine wpAny_bind (wpAny_pure ?_) | skip
  refine wpAny_bind (wpAny_sequenceKey ht.typeIs (by decide) ?_)
  refine wpAny_bind (wpAny_callSpecial?_slot (name:=Str.ofString "__getitem__") ht.typeIs PyProof.Rows.slot_tuple_getitem
    (wpAny_call_entry PyProof.Rows.slot_tuple_getitem ht.typeIs entry_tuple_getitem ?_ (args_tuple_getitem _ _)))
  show wpAny _ _ (Builtin.Tuple.tupleItemsOf (.ref t) >>= _) _ _ s
  refine wpAny_bind (tupleItemsOf_ ht ?_)
  refine wpAny_bind (wpAny_typeOf hTs ?_)
  rw [if_pos (by decide)]
  refine wpAny_bind (zcY hs pl pu ?_)
  have hno : ¬ ((((sIx items.size 0 lo : Nat) : Int) == 0 && (1 : Int) == 1 && (sIx items.size items.size hi - sIx items.size 0 lo) == items.size) = true):=by
    intro q
    rw [Bool.and_eq_true,Bool.and_eq_true] at q
    have q1 : ((sIx items.size 0 lo : Nat) : Int) = 0:=eq_of_beq q.1.1
    have q2 : sIx items.size items.size hi - sIx items.size 0 lo = items.size:=eq_of_beq q.2
    exact hw ⟨by omega,by omega⟩
  show wpAny _ _ (if (((sIx items.size 0 lo : Nat) : Int) == 0 && (1 : Int) == 1 && (sIx items.size items.size hi - sIx items.size 0 lo) == items.size) = true then _ else _) _ _ s
  rw [if_neg hno,zmA]
  first
    | exact wpAny_bind (m:=Builtin.Tuple.tupleExact _) (wpAny_newObj_type (wpAny_pure ⟨_,rfl,wpAny_pure h⟩) htake)
    | exact wpAny_bind (m:=Builtin.Tuple.tupleExact _) (wpAny_newObj_type (wpAny_bind (wpAny_pure (wpAny_pure ⟨_,rfl,wpAny_pure h⟩))) htake)
    | exact wpAny_bind (wpAny_bind (m:=Builtin.Tuple.tupleExact _) (wpAny_newObj_type (wpAny_pure (wpAny_pure ⟨_,rfl,wpAny_pure h⟩)) htake))
    | exact wpAny_bind (wpAny_bind (m:=Builtin.Tuple.tupleExact _) (wpAny_newObj_type (wpAny_pure ⟨_,rfl,wpAny_pure h⟩) htake))
end
end HT
namespace L2
open PySem PySem.Spec PyProof.Rows
abbrev TO:=St→Hp→(Option Int→Hp→Prop)→Prop
def PO (X : Cx) (e : Option Expr) (t : TO) : Prop:=
  ∀ (pins : List (Addr×Obj)) (s : Shared) (σ : St) (H : Hp) (Q : Option Int→Hp→Prop),Inv X pins σ H s→t σ H Q→
    wpAny (model X.prog X.w) X.A (evalPart e X.env) (fun u s'=>∃ o H',Inv X pins σ H' s'∧IsPart u o∧Q o H') X.xe s
def zn5 : TO:=fun _ H Q=>Q none H
def tPart (t : TE) : TO:=fun σ H Q=>t σ H fun x H1=>∃ i,x = .int i∧Q (some i) H1
section
variable {X : Cx} {e : Expr} {te : TE} {lo hi : Option Expr} {tl th : TO} {pos p2 : Pos}
theorem zhZ : PO X none zn5:=by
  intro pins s σ H Q I h
  rw [evalPart_none]
  exact wpAny_pure ⟨none,H,I,.none,h⟩
theorem zdN (h : PE X e te) : PO X (some e) (tPart te):=by
  intro pins s σ H Q I hw
  rw [evalPart_some]
  refine thn (h pins s σ H _ I hw) fun u s1 ⟨x,H1,I1,r1,q1⟩=>?_
  obtain ⟨i,rfl,q⟩:=q1
  obtain ⟨t,rfl⟩:=r1
  exact ⟨some i,H1,I1,.int i t,q⟩
def SlR (X : Cx) (r : V→Option Int→Option Int→Hp→VK→Prop) : Prop:=
  ∀ (pins : List (Addr×Obj)) (s : Shared) (σ : St) (H : Hp) (x : V) (v vl vu : Value) (lo hi : Option Int) (sl : Addr) (Q : VK),Inv X pins σ H s→RelV x v→s.heap.IsSliceOf sl vl vu .none→IsPart vl lo→IsPart vu hi→r x lo hi H Q→
    ∃ T id,typeLookup (.type T) "__getitem__" = pure (some (.builtin id))∧s.TypeIs v T∧wpAny (model X.prog X.w) X.A (getItem v (.ref sl)) (EP X pins σ Q) X.xe s
def tSl (r : V→Option Int→Option Int→Hp→VK→Prop) (te : TE) (tl th : TO) : TE:=fun σ H Q=>te σ H fun x H1=>tl σ H1 fun l H2=>th σ H2 fun u H3=>r x l u H3 Q
theorem zec {r : V→Option Int→Option Int→Hp→VK→Prop} (hr : SlR X r) (he : PE X e te) (hl : PO X lo tl) (hu : PO X hi th) : PE X (.Subscript e (.Slice lo hi none p2) pos) (tSl r te tl th):=by
  intro pins s σ H Q I h
  refine Subscript_ (thn (he pins s σ H _ I h) fun v s1 ⟨x,H1,I1,r1,q1⟩=>?_)
  refine wpAny_Slice (thn (hl pins s1 σ H1 _ I1 q1) fun vl s2 ⟨l,H2,I2,pl,q2⟩=>thn (hu pins s2 σ H2 _ I2 q2) fun vu s3 ⟨u,H3,I3,pu,q3⟩=>?_)
  rw [evalPart_none]
  refine wpAny_pure ?_
  have I4 : Inv X pins σ H3 { s3 with heap:=s3.heap.push { cls:=.type "slice",data:=.fields #[vl,vu,.none] } }:=I3.kept (t':=s3.toks) fun b ob q=>Heap.get?_push_of_some _ q
  obtain ⟨T,id,hT,ht,hg⟩:=hr pins { s3 with heap:=s3.heap.push { cls:=.type "slice",data:=.fields #[vl,vu,.none] } } σ H3 x v vl vu l u s3.heap.objs.size Q I4 r1 (Heap.IsSliceOf.new ..) pl pu q3
  show wpAny (model X.prog X.w) X.A (subscriptTail e (.Slice lo hi none p2) v (.ref s3.heap.objs.size)) (EP X pins σ Q) X.xe { s3 with heap:=s3.heap.push { cls:=.type "slice",data:=.fields #[vl,vu,.none] } }
  exact tail_any (ops:=[.ref s3.heap.objs.size,v]) ht hT hg (by with_unfolding_all rfl)
def cutV (xs : List V) (lo hi : Option Int) : List V:=(xs.drop (HT.sIx xs.length 0 lo)).take (HT.sIx xs.length xs.length hi - HT.sIx xs.length 0 lo)
theorem zfx (xs : List V) (lo hi : Option Int) : (cutV xs lo hi).length≤xs.length:=by
  unfold cutV
  rw [List.length_take,List.length_drop]
  omega
def rSlT (K : PySem.W.Frag) : V→Option Int→Option Int→Hp→VK→Prop:=fun x lo hi H Q=>∃ a xs,x = .ref a∧SqT K H a xs∧
  ¬ (HT.sIx xs.length 0 lo = 0∧HT.sIx xs.length xs.length hi = xs.length)∧∀ p,H p = none→Q (.ref p) (upd H p (.tup (cutV xs lo hi)))
theorem sl_tup : SlR X (rSlT X.K):=by
  intro pins s σ H x v vl vu lo hi sl Q I rx hs pl pu h
  obtain ⟨a,xs,rfl,hx,hw,q⟩:=h
  cases rx
  obtain ⟨its,r,ht,hz⟩:=I.tuple hx
  have hlen : its.toArray.size = xs.length:=by rw [List.size_toArray]; exact r.length.symm
  refine ⟨"tuple",_,PyProof.Rows.slot_tuple_getitem.lookup,ht.typeIs,?_⟩
  refine HT.getItem_tuple_cut ht hs pl pu (by rw [hlen]; exact hw) ?_ (by rw [hlen]; exact hz)
  rw [hlen]
  refine ⟨.ref s.heap.objs.size,_,I.laid (t':=s.toks) (o:=.tup (cutV xs lo hi)) (fun b ob q=>Heap.get?_push_of_some _ q) (Nat.le_refl _) ?_,rfl,q _ (I.hok.fresh (Nat.le_refl _))⟩
  exact ⟨Nat.le_trans (zfx xs lo hi) hz,_,(r.drop (HT.sIx xs.length 0 lo)).take (HT.sIx xs.length xs.length hi - HT.sIx xs.length 0 lo),IsTup.new _ _⟩
def rLtT (K : PySem.W.Frag) : R2:=fun x y H Q=>∃ a b ns ms,x = .ref a∧y = .ref b∧SqT K H a (ns.map V.int)∧SqT K H b (ms.map V.int)∧Q (.bl (HT.lexLt ns ms)) H
def rCatT (K : PySem.W.Frag) : R2:=fun x y H Q=>∃ a b xs ys,x = .ref a∧y = .ref b∧SqT K H a xs∧SqT K H b ys∧xs≠[]∧xs.length + ys.length≤sizeLine∧
  (ys = []→Q (.ref a) H)∧(ys≠[]→∀ p,H p = none→Q (.ref p) (upd H p (.tup (xs ++ ys))))
theorem Vals.nil_iff {xs : List V} {us : List Value} (r : Vals xs us) : us = []↔xs = []:=by
  cases r with
  | nil=>simp
  | cons _ _=>simp
theorem zk7 : OpR X (binaryOp .Add) (rCatT X.K):=by
  intro pins s σ H x y v u Q I rx ry h
  obtain ⟨a,b,xs,ys,rfl,rfl,ha,hb,hx,hz,q1,q2⟩:=h
  cases rx
  cases ry
  obtain ⟨its,r1,p1,_⟩:=I.tuple ha
  obtain ⟨its2,r2,p2,_⟩:=I.tuple hb
  refine HT.cat_tup p1 p2 (fun z=>hx (r1.nil_iff.mp z)) (fun z=>⟨.ref a,H,I,rfl,q1 (r2.nil_iff.mp z)⟩) (fun z=>?_) (by rw [← r1.length,← r2.length]; exact hz)
  refine ⟨.ref s.heap.objs.size,_,I.laid (t':=s.toks) (o:=.tup (xs ++ ys)) (fun b ob q=>Heap.get?_push_of_some _ q) (Nat.le_refl _) ?_,rfl,q2 (fun w=>z (r2.nil_iff.mpr w)) _ (I.hok.fresh (Nat.le_refl _))⟩
  exact ⟨by rw [List.length_append]; exact hz,_,r1.append r2,IsTup.new _ _⟩
end
end L2
namespace L2
open PySem PySem.Spec PyProof.Rows
def ixN (n : Nat) (i : Int) : Option Nat:=if 0≤i then (if i < n then some i.toNat else none) else if -(n : Int)≤i then some (i + n).toNat else none
def atI {α : Type} (xs : List α) (i : Int) : Option α:=(ixN xs.length i).bind fun j=>xs[j]?
theorem zlD {n : Nat} {i : Int} {j : Nat} (h : ixN n i = some j) : seqIndex? i n = some j∧j < n∧-(n : Int)≤i∧i < n:=by
  unfold ixN at h
  by_cases h0 : 0≤i
  · rw [if_pos h0] at h
    by_cases h1 : i < n
    · rw [if_pos h1] at h
      have e : i.toNat = j:=Option.some.inj h
      exact ⟨by rw [seqIndex_of h0 h1,e],by omega,by omega,h1⟩
    · rw [if_neg h1] at h; cases h
  · rw [if_neg h0] at h
    by_cases h1 : -(n : Int)≤i
    · rw [if_pos h1] at h
      have e : (i + n).toNat = j:=Option.some.inj h
      exact ⟨by rw [seqIndex_neg (by omega) h1,e],by omega,h1,by omega⟩
    · rw [if_neg h1] at h; cases h
theorem zmf {α : Type} {xs : List α} {i : Int} {v : α} (h : atI xs i = some v) : ∃ j,seqIndex? i xs.length = some j∧xs[j]? = some v∧j < xs.length∧-(xs.length : Int)≤i∧i < xs.length:=by
  unfold atI at h
  cases e : ixN xs.length i with
  | none=>rw [e] at h; cases h
  | some j=>
    rw [e] at h
    obtain ⟨h1,h2,h3,h4⟩:=zlD e
    exact ⟨j,h1,h,h2,h3,h4⟩
theorem zaX {α : Type} {xs : List α} {j : Nat} {v : α} (h : xs[j]? = some v) : atI xs (j : Int) = some v:=by
  have hj : j < xs.length:=(List.getElem?_eq_some_iff.mp h).1
  have e : ixN xs.length (j : Int) = some j:=by
    unfold ixN
    rw [if_pos (by omega),if_pos (by omega)]; simp
  unfold atI; rw [e]; exact h
def PlainIx (b : Expr) : Prop:=∀ o i,subscripted b false o i = operate [o,i] (getItem o i)
def IxR (X : Cx) (r : R2) : Prop:=
  ∀ (value slice : Expr) (pins : List (Addr×Obj)) (s : Shared) (σ : St) (H : Hp) (x y : V) (v u : Value) (Q : VK),Inv X pins σ H s→RelV x v→RelV y u→r x y H Q→
    subscripted slice false v u = operate [v,u] (getItem v u)→wpAny (model X.prog X.w) X.A (subscriptTail value slice v u) (EP X pins σ Q) X.xe s
def MtR (X : Cx) (id : String) (r : V→List V→Hp→VK→Prop) : Prop:=
  ∀ (pins : List (Addr×Obj)) (s : Shared) (σ : St) (H : Hp) (x : V) (xs : List V) (v : Value) (us : List Value) (Q : VK),Inv X pins σ H s→RelV x v→Vals xs us→r x xs H Q→
    wpAny (model X.prog X.w) X.A (call (.builtin id) (v :: us)) (EP X pins σ Q) X.xe s
section
variable {X : Cx} {a b : Expr} {ta tb : TE} {pos : Pos}
theorem zaA {r : R2} (hr : IxR X r) (ha : PE X a ta) (hb : PE X b tb) (hs : PlainIx b) : PE X (.Subscript a b pos) (tOp r ta tb):=by
  intro pins s σ H Q I h
  exact Subscript_ (binT ha hb I h fun v u s2 x y H2 I2 rx ry q=>hr a b pins s2 σ H2 x y v u Q I2 rx ry q (hs _ _))
def rIxL (K : PySem.W.Frag) : R2:=fun x y H Q=>∃ p xs i v,x = .ref p∧y = .int i∧SqL K H p xs∧atI xs i = some v∧Q v H
def rIxT (K : PySem.W.Frag) : R2:=fun x y H Q=>∃ p xs i v,x = .ref p∧y = .int i∧SqT K H p xs∧atI xs i = some v∧Q v H
def rIxS : R2:=fun x y H Q=>∃ z i c,x = .str z∧y = .int i∧z.length≤sizeLine∧atI z.cps.toList i = some c∧Q (.str ⟨#[c]⟩) H
theorem zaE : IxR X (rIxL X.K):=by
  intro value slice pins s σ H x y v u Q I rx ry h hs
  obtain ⟨p,xs,i,z,rfl,rfl,hq,he,q⟩:=h
  cases rx
  obtain ⟨t,rfl⟩:=ry
  obtain ⟨its,r,pl,hz⟩:=I.list hq
  obtain ⟨j,h1,h2,h3,h4,h5⟩:=zmf he
  obtain ⟨w,ew,rw'⟩:=r.get h2
  have hl:=r.length
  have hn:=zjd
  have fin : EP X pins σ Q w s:=⟨z,H,I,rw',q⟩
  by_cases h0 : 0≤i
  · have hj : i.toNat = j:=by
      rw [seqIndex_of h0 h5] at h1
      exact Option.some.inj h1
    exact item_listR pl.isList h0 (by omega) (by rw [hj]; simpa using ew) fin hs
  · have hj : (i + (its.toArray.size : Int)).toNat = j:=by
      rw [seqIndex_neg (by omega) h4] at h1
      rw [List.size_toArray,← hl]
      exact Option.some.inj h1
    exact subscriptTail_builtinR (x:=w) pl.isList.typeIs slot_list_getitem.lookup
      (wpAny_getItem_list_neg (Q:=fun r s'=>r = w∧EP X pins σ Q r s') pl.isList (by omega) (by rw [List.size_toArray] <;> omega) (by omega) (by rw [hj]; simpa using ew) ⟨rfl,fin⟩) hs
theorem zaM : IxR X (rIxT X.K):=by
  intro value slice pins s σ H x y v u Q I rx ry h hs
  obtain ⟨p,xs,i,z,rfl,rfl,hq,he,q⟩:=h
  cases rx
  obtain ⟨t,rfl⟩:=ry
  obtain ⟨its,r,pl,hz⟩:=I.tuple hq
  obtain ⟨j,h1,h2,h3,h4,h5⟩:=zmf he
  obtain ⟨w,ew,rw'⟩:=r.get h2
  have hl:=r.length
  have hn:=zjd
  have fin : EP X pins σ Q w s:=⟨z,H,I,rw',q⟩
  exact subscriptTail_builtinR (x:=w) pl.typeIs slot_tuple_getitem.lookup
    (getItem_tuple (j:=j) (Q:=fun r s'=>r = w∧EP X pins σ Q r s') pl (by omega) (by omega) (by rw [List.size_toArray,← hl]; exact h1) (by simpa using ew) ⟨rfl,fin⟩) hs
def rIx (K : PySem.W.Frag) : R2:=fun x y H Q=>rIxL K x y H Q∨rIxT K x y H Q∨rIxS x y H Q
theorem zj0 (its : List Value) (n j : Nat) (u : Value) : Obj.mapSeq (·.setIfInBounds j u) { cls:=.type "list",data:=.seq its.toArray n } = { cls:=.type "list",data:=.seq (its.set j u).toArray n }:=by
  simp [Obj.mapSeq]
theorem Inv.lst {pins : List (Addr×Obj)} {σ : St} {H : Hp} {s : Shared} {p : Addr} {xs : List V} (I : Inv X pins σ H s) (h : H p = some (.lst xs)) :
    ∃ (its : List Value) (n : Nat),Vals xs its∧s.heap.get? p = some { cls:=.type "list",data:=.seq its.toArray n }∧xs.length≤sizeLine:=by
  obtain ⟨z,its,n,r,e⟩:=I.hok p _ h
  exact ⟨its,n,r,e,z⟩
theorem Inv.lstUpd {pins : List (Addr×Obj)} {σ : St} {H : Hp} {s : Shared} {p : Addr} {xs ys : List V} {its its' : List Value} {n n' : Nat} {f : Obj→Obj} (I : Inv X pins σ H s) (h : H p = some (.lst xs))
    (ho : s.heap.get? p = some { cls:=.type "list",data:=.seq its.toArray n }) (hf : f { cls:=.type "list",data:=.seq its.toArray n } = { cls:=.type "list",data:=.seq its'.toArray n' }) (r : Vals ys its') (hz : ys.length≤sizeLine) (t : Nat) :
    Inv X pins σ (upd H p (.lst ys)) { s with heap:=s.heap.update p f,toks:=t }:=by
  have e : (s.heap.update p f).get? p = some { cls:=.type "list",data:=.seq its'.toArray n' }:=by
    rw [Heap.get?_update_self f ho (by rw [hf] <;> rfl),hf]
  refine I.write (x:=p) (e:=p) (by rw [h]; trivial) (.inl rfl) (fun b u hb q=>(Heap.get?_update_other _ _ (Ne.symm hb)).trans q) ⟨_,e⟩ ?_
  exact ⟨hz,its',n',r,e⟩
def rSetL : V→V→V→Hp→(Hp→Prop)→Prop:=fun o i v H Q=>∃ p xs k j,o = .ref p∧i = .int k∧H p = some (.lst xs)∧ixN xs.length k = some j∧Q (upd H p (.lst (xs.set j v)))
theorem zeP : PSet X rSetL:=by
  intro pins s σ H o i v ov iv u Q I ro ri rv h
  obtain ⟨p,xs,k,j,rfl,rfl,hp,hj,q⟩:=h
  cases ro
  obtain ⟨t,rfl⟩:=ri
  obtain ⟨its,n,r,ho,hz⟩:=I.lst hp
  obtain ⟨h1,h2,h3,h4⟩:=zlD hj
  have hl:=r.length
  have hn:=zjd
  have I' : Inv X pins σ (upd H p (.lst (xs.set j v))) { s with heap:=s.heap.update p (Obj.mapSeq (·.setIfInBounds j u)) }:=
    I.lstUpd hp ho (zj0 its n j u) (r.set rv j) (by rw [List.length_set]; exact hz) s.toks
  by_cases h0 : 0≤k
  · have hk : k.toNat = j:=by
      rw [seqIndex_of h0 h4] at h1
      exact Option.some.inj h1
    exact PySem.W.ki_setAt ho h0 (by omega) (by rw [List.size_toArray,← hl]; exact h4) (by rw [hk]; exact ⟨_,I',q⟩)
  · have hk : (k + (its.toArray.size : Int)).toNat = j:=by
      rw [seqIndex_neg (by omega) h3] at h1
      rw [List.size_toArray,← hl]
      exact Option.some.inj h1
    exact PySem.W.ki_setBack ho (by omega) (by rw [List.size_toArray,← hl]; exact h3) (by omega) (by rw [hk]; exact ⟨_,I',q⟩)
theorem zg4 (lo hi : Option Int) (n : Nat) : (sliceBounds lo hi none n).1 = ((HT.sIx n 0 lo : Nat) : Int)∧(sliceBounds lo hi none n).2.1 = ((HT.sIx n n hi : Nat) : Int)∧(sliceBounds lo hi none n).2.2 = 1:=by
  refine ⟨?_,?_,rfl⟩
  · cases lo with
    | none=>simp [sliceBounds,HT.sIx]
    | some i=>
      simp only [sliceBounds,HT.sIx,Option.getD_none,show (1 : Int) > 0 by decide,if_true]
      by_cases h : i < 0
      · simp only [h,if_true] <;> omega
      · simp only [h,if_false] <;> omega
  · cases hi with
    | none=>simp [sliceBounds,HT.sIx]
    | some i=>
      simp only [sliceBounds,HT.sIx,Option.getD_none,show (1 : Int) > 0 by decide,if_true]
      by_cases h : i < 0
      · simp only [h,if_true] <;> omega
      · simp only [h,if_false] <;> omega
theorem zgd (its : List Value) (lo hi : Option Int) : slicePick its.toArray lo hi none = ((its.drop (HT.sIx its.length 0 lo)).take (HT.sIx its.length its.length hi - HT.sIx its.length 0 lo)).toArray:=by
  obtain ⟨h1,h2,h3⟩:=zg4 lo hi its.toArray.size
  unfold slicePick
  rw [h1,h2,h3]
  simp only [sliceRange_one,pick_run,List.size_toArray] <;> rfl
def rSlL (K : PySem.W.Frag) : V→Option Int→Option Int→Hp→VK→Prop:=fun x lo hi H Q=>∃ a xs,x = .ref a∧SqL K H a xs∧∀ p,H p = none→Q (.ref p) (upd H p (.lst (cutV xs lo hi)))
theorem zhV : SlR X (rSlL X.K):=by
  intro pins s σ H x v vl vu lo hi sl Q I rx hs pl pu h
  obtain ⟨a,xs,rfl,hx,q⟩:=h
  cases rx
  obtain ⟨its,r,ht,hz⟩:=I.list hx
  have hlen:=r.length
  refine ⟨"list",_,slot_list_getitem.lookup,ht.isList.typeIs,?_⟩
  refine wpAny_getItem_list_slice ht.isList hs pl pu .none (by simp) ?_ (by rw [List.size_toArray] <;> omega)
  rw [zgd,← hlen]
  refine ⟨.ref s.heap.objs.size,_,I.laid (t':=s.toks) (o:=.lst (cutV xs lo hi)) (fun b ob q=>Heap.get?_push_of_some _ q) (Nat.le_refl _) ?_,rfl,q _ (I.hok.fresh (Nat.le_refl _))⟩
  exact ⟨Nat.le_trans (zfx xs lo hi) hz,_,0,(r.drop (HT.sIx xs.length 0 lo)).take (HT.sIx xs.length xs.length hi - HT.sIx xs.length 0 lo),Heap.get?_push_size _ rfl⟩
def zfM : V→Bool
  | .non=>true
  | .bl _=>true
  | .int _=>true
  | .str _=>true
  | _=>false
def eqV : V→V→Bool
  | .non,.non=>true
  | .bl a,.bl b=>a == b
  | .bl a,.int b=>(if a then 1 else 0) == b
  | .int a,.bl b=>a == (if b then 1 else 0)
  | .int a,.int b=>a == b
  | .str a,.str b=>a == b
  | _,_=>false
theorem eqAt_V {A : Around} {s : Shared} {y x : V} {u v : Value} (ry : RelV y u) (rx : RelV x v) (fy : zfM y = true) (fx : zfM x = true) : SeqAt.EqAt A s u v (eqV y x):=by
  cases y with
  | non=>
    cases ry
    cases x with
    | non=>cases rx; exact SeqAt.EqAt.same _
    | bl b=>cases rx; exact SeqAt.EqAt.none_bool b
    | int b=>obtain ⟨t,rfl⟩:=rx; exact SeqAt.EqAt.none_int b t
    | str b=>obtain ⟨t,rfl⟩:=rx; exact SeqAt.EqAt.none_str b t
    | _=>exact absurd (show false = true from fx) Bool.false_ne_true
  | bl a=>
    cases ry
    cases x with
    | non=>cases rx; exact SeqAt.EqAt.bool_none a
    | bl b=>cases rx; exact SeqAt.EqAt.bool_bool a b
    | int b=>obtain ⟨t,rfl⟩:=rx; exact SeqAt.EqAt.bool_int a b t
    | str b=>obtain ⟨t,rfl⟩:=rx; exact SeqAt.EqAt.bool_str a b t
    | _=>exact absurd (show false = true from fx) Bool.false_ne_true
  | int a=>
    obtain ⟨t',rfl⟩:=ry
    cases x with
    | non=>cases rx; exact SeqAt.EqAt.int_none a t'
    | bl b=>cases rx; exact SeqAt.EqAt.int_bool a t' b
    | int b=>obtain ⟨t,rfl⟩:=rx; exact SeqAt.EqAt.int_int a t' b t
    | str b=>obtain ⟨t,rfl⟩:=rx; exact SeqAt.EqAt.int_str a t' b t
    | _=>exact absurd (show false = true from fx) Bool.false_ne_true
  | str a=>
    obtain ⟨t',rfl⟩:=ry
    cases x with
    | non=>cases rx; exact SeqAt.EqAt.str_none a t'
    | bl b=>cases rx; exact SeqAt.EqAt.str_bool a t' b
    | int b=>obtain ⟨t,rfl⟩:=rx; exact SeqAt.EqAt.str_int a t' b t
    | str b=>obtain ⟨t,rfl⟩:=rx; exact SeqAt.EqAt.str_str a t' b t
    | _=>exact absurd (show false = true from fx) Bool.false_ne_true
  | _=>exact absurd (show false = true from fy) Bool.false_ne_true
def eqU (x : V) (u : Value) : Bool:=match u with
  | .none=>eqV .non x
  | .bool b=>eqV (.bl b) x
  | .int i _=>eqV (.int i) x
  | .str z _=>eqV (.str z) x
  | _=>false
theorem znR {x y : V} {u : Value} (r : RelV y u) (f : zfM y = true) : eqU x u = eqV y x:=by
  cases y with
  | non=>cases r; rfl
  | bl b=>cases r; rfl
  | int i=>obtain ⟨t,rfl⟩:=r; rfl
  | str z=>obtain ⟨t,rfl⟩:=r; rfl
  | _=>exact absurd (show false = true from f) Bool.false_ne_true
theorem zfF {x : V} : ∀ {xs : List V} {us : List Value},Vals xs us→xs.all zfM = true→us.any (eqU x) = xs.any fun y=>eqV y x
  | _,_,.nil,_=>rfl
  | y :: xs,u :: us,.cons r t,f=>by
    rw [List.all_cons,Bool.and_eq_true] at f
    rw [List.any_cons,List.any_cons,znR r f.1,zfF t f.2]
theorem zee {A : Around} {s : Shared} {x : V} {v : Value} (rx : RelV x v) (fx : zfM x = true) : ∀ {xs : List V} {us : List Value},Vals xs us→xs.all zfM = true→∀ u∈us,SeqAt.EqAt A s u v (eqU x u)
  | _,_,.nil,_=>fun u hu=>by cases hu
  | y :: xs,u :: us,.cons r t,f=>fun u' hu=>by
    rw [List.all_cons,Bool.and_eq_true] at f
    rcases List.mem_cons.mp hu with rfl | hu
    · rw [znR r f.1]; exact eqAt_V r rx f.1 fx
    · exact zee rx fx t f.2 u' hu
def inV (x : V) (xs : List V) : Bool:=xs.any fun y=>eqV y x
def rIn (K : PySem.W.Frag) (neg : Bool) : R2:=fun x y H Q=>∃ p xs,y = .ref p∧(SqL K H p xs∨SqT K H p xs)∧zfM x = true∧xs.all zfM = true∧Q (.bl (if neg then !inV x xs else inV x xs)) H
theorem zk5 : OpR X (compareOp .In) (rIn X.K false):=by
  intro pins s σ H x y v u Q I rx ry h
  obtain ⟨p,xs,rfl,hq,fx,fs,q⟩:=h
  cases ry
  rcases hq with hq | hq
  · obtain ⟨its,r,pl,hz⟩:=I.list hq
    refine SeqAt.in_listAt (eqU x) pl.isList (fun w hw=>zee rx fx r fs w (by simpa using hw)) ⟨.bl _,H,I,rfl,?_⟩
    rw [show its.toArray.any (eqU x) = its.any (eqU x) by simp,zfF r fs]
    exact q
  · obtain ⟨its,r,pl,hz⟩:=I.tuple hq
    refine SeqAt.in_tupleAt (eqU x) pl (fun w hw=>zee rx fx r fs w (by simpa using hw)) ⟨.bl _,H,I,rfl,?_⟩
    rw [show its.toArray.any (eqU x) = its.any (eqU x) by simp,zfF r fs]
    exact q
theorem zez : OpR X (compareOp .NotIn) (rIn X.K true):=by
  intro pins s σ H x y v u Q I rx ry h
  obtain ⟨p,xs,rfl,hq,fx,fs,q⟩:=h
  cases ry
  rcases hq with hq | hq
  · obtain ⟨its,r,pl,hz⟩:=I.list hq
    refine SeqAt.notIn_listAt (eqU x) pl.isList (fun w hw=>zee rx fx r fs w (by simpa using hw)) ⟨.bl _,H,I,rfl,?_⟩
    rw [show its.toArray.any (eqU x) = its.any (eqU x) by simp,zfF r fs]
    exact q
  · obtain ⟨its,r,pl,hz⟩:=I.tuple hq
    refine SeqAt.notIn_tupleAt (eqU x) pl (fun w hw=>zee rx fx r fs w (by simpa using hw)) ⟨.bl _,H,I,rfl,?_⟩
    rw [show its.toArray.any (eqU x) = its.any (eqU x) by simp,zfF r fs]
    exact q
theorem zat : zdS X (.builtin "len") (fun xs H Q=>∃ p ys,xs = [.ref p]∧(SqL X.K H p ys∨SqT X.K H p ys)∧Q (.int ys.length) H):=by
  intro pins s σ H xs us Q I r h
  obtain ⟨p,ys,rfl,hq,q⟩:=h
  obtain ⟨u,rfl,rx⟩:=zgX r
  cases rx
  have hn:=zjd
  rcases hq with hq | hq
  · obtain ⟨its,r',pl,hz⟩:=I.list hq
    have hlen:=r'.length
    exact Calls.call_len_list pl.isList (by simp only [List.size_toArray] <;> omega) ⟨.int ys.length,H,I.tok _,⟨s.toks + 1,by rw [List.size_toArray,hlen]⟩,q⟩
  · obtain ⟨its,r',pl,hz⟩:=I.tuple hq
    have hlen:=r'.length
    exact len_tuple pl (by simp only [List.size_toArray] <;> omega) ⟨.int ys.length,H,I.tok _,⟨s.toks + 1,by rw [List.size_toArray,hlen]⟩,q⟩
theorem zdm : zdS X (.type "list") (fun xs H Q=>∃ p ys,xs = [.ref p]∧(SqL X.K H p ys∨SqT X.K H p ys)∧∀ l,H l = none→Q (.ref l) (upd H l (.lst ys))):=by
  intro pins s σ H xs us Q I r h
  obtain ⟨p,ys,rfl,hq,q⟩:=h
  obtain ⟨u,rfl,rx⟩:=zgX r
  cases rx
  have fin : ∀ (its : List Value),Vals ys its→ys.length≤sizeLine→∀ (h' : Heap) (c' : Nat),(∀ b o',s.heap.get? b = some o'→h'.get? b = some o')→
      h'.get? s.heap.objs.size = some { cls:=.type "list",dict:=none,data:=.seq its.toArray c',slots:=#[] }→EP X pins σ Q (.ref s.heap.objs.size) { s with heap:=h' }:=fun its r' hz h' c' kp e=>
    ⟨.ref s.heap.objs.size,_,I.laid (t':=s.toks) kp (Nat.le_refl _) (show zbl X.prog X.w _ h' _ (.lst ys) from ⟨hz,its,c',r',e⟩),rfl,q _ (I.hok.fresh (Nat.le_refl _))⟩
  rcases hq with hq | hq
  · obtain ⟨its,r',pl,hz⟩:=I.list hq
    have hlen:=r'.length
    obtain ⟨o,ho,hc,n,hd⟩:=pl.isList
    exact call_list_seq p (.inl rfl) ho hc hd (fun h' c' kp e=>fin its r' hz h' c' kp e) (by simp only [List.size_toArray] <;> omega)
  · obtain ⟨its,r',pl,hz⟩:=I.tuple hq
    have hlen:=r'.length
    obtain ⟨o,ho,hc,n,hd⟩:=pl
    exact call_list_seq p (.inr rfl) ho hc hd (fun h' c' kp e=>fin its r' hz h' c' kp e) (by simp only [List.size_toArray] <;> omega)
theorem zaK : zdS X (.type "tuple") (fun xs H Q=>∃ p ys,xs = [.ref p]∧((SqL X.K H p ys∧∀ l,H l = none→Q (.ref l) (upd H l (.tup ys)))∨(SqT X.K H p ys∧Q (.ref p) H))):=by
  intro pins s σ H xs us Q I r h
  obtain ⟨p,ys,rfl,h⟩:=h
  obtain ⟨u,rfl,rx⟩:=zgX r
  cases rx
  rcases h with ⟨hq,q⟩ | ⟨hq,q⟩
  · obtain ⟨its,r',pl,hz⟩:=I.list hq
    have hlen:=r'.length
    refine call_tuple_list pl.isList (fun h' kp=>?_) (by simp only [List.size_toArray] <;> omega)
    have I1 : Inv X pins σ H { s with heap:=h' }:=I.kept (t':=s.toks) kp
    have I2 : Inv X pins σ (upd H h'.objs.size (.tup ys)) { s with heap:=h'.push { cls:=.type "tuple",data:=.seq its.toArray } }:=
      I1.laid (t':=s.toks) (fun b o e=>Heap.get?_push_of_some _ e) (Nat.le_refl _) (show zbl X.prog X.w _ _ _ (.tup ys) from ⟨hz,its,r',IsTup.new _ _⟩)
    exact ⟨.ref h'.objs.size,_,I2,rfl,q _ (I1.hok.fresh (Nat.le_refl _))⟩
  · obtain ⟨its,r',pl,hz⟩:=I.tuple hq
    exact call_tuple_same pl ⟨.ref p,H,I,rfl,q⟩
def tyV (K : PySem.W.Frag) (T : String) (x : V) (H : Hp) : Prop:=match x with
  | .str _=>T = "str"
  | .int _=>T = "int"
  | .ref p=>(T = "list"∧∃ xs,SqL K H p xs)∨(T = "tuple"∧∃ o,K.lookup p = some o∧o.cls = .type "tuple"∧o.dict = none)∨
      (T = "dict"∧((∃ kvs,H p = some (.dK kvs))∨∃ kvs,H p = some (.dT kvs)))∨(T = "set"∧∃ S n,H p = some (.set S n))
  | _=>False
theorem znr {pins : List (Addr×Obj)} {σ : St} {H : Hp} {s : Shared} {T : String} {x : V} {v : Value} (I : Inv X pins σ H s) (r : RelV x v) (ty : tyV X.K T x H) :
    s.TypeIs v T∧∀ a,v = .ref a→∃ ob,s.heap.get? a = some ob∧ob.dict = none:=by
  cases x with
  | str z=>
    obtain ⟨t,rfl⟩:=r
    cases (show T = "str" from ty)
    exact ⟨typeIs_str s z t,fun _ e=>nomatch e⟩
  | int i=>
    obtain ⟨t,rfl⟩:=r
    cases (show T = "int" from ty)
    exact ⟨typeIs_int s i t,fun _ e=>nomatch e⟩
  | ref p=>
    cases r
    rcases ty with ⟨rfl,xs,hq⟩ | ⟨rfl,o,hk,hc,hd⟩ | ⟨rfl,hk⟩ | ⟨rfl,S,n,hk⟩
    · obtain ⟨its,_,pl,_⟩:=I.list hq
      refine ⟨pl.isList.typeIs,fun a e=>?_⟩
      cases e
      obtain ⟨o,n,e,c,hd,_⟩:=pl
      exact ⟨o,e,hd⟩
    · refine ⟨⟨o,I.kIn p o hk,hc⟩,fun a e=>?_⟩
      cases e
      exact ⟨o,I.kIn _ o hk,hd⟩
    · have z : ∃ o,s.heap.get? p = some o∧o.ExactDict:=by
        rcases hk with ⟨kvs,hk⟩ | ⟨kvs,hk⟩
        · obtain ⟨_,_,_,_,o,_,_,e,ex,_⟩:=I.hok p _ hk
          exact ⟨o,e,ex⟩
        · obtain ⟨_,_,_,_,o,_,_,e,ex,_⟩:=I.hok p _ hk
          exact ⟨o,e,ex⟩
      obtain ⟨o,e,ex⟩:=z
      refine ⟨⟨o,e,ex.1⟩,fun a e2=>?_⟩
      cases e2
      exact ⟨o,e,ex.2.1⟩
    · obtain ⟨o,_,_,_,e,ex,_⟩:=I.hok p _ hk
      refine ⟨⟨o,e,ex.1⟩,fun a e2=>?_⟩
      cases e2
      exact ⟨o,e,ex.2.1⟩
  | _=>exact False.elim ty
def tBM0 (K : PySem.W.Frag) (T : String) (r : V→List V→Hp→VK→Prop) (to : TE) : TE:=fun σ H Q=>to σ H fun x H1=>tyV K T x H1∧r x [] H1 Q
def tBM (K : PySem.W.Frag) (T : String) (r : V→List V→Hp→VK→Prop) (to : TE) (t : TA) : TE:=fun σ H Q=>to σ H fun x H1=>tyV K T x H1∧t σ H1 fun xs H2=>r x xs H2 Q
variable {o e : Expr} {es : List Expr} {to : TE} {t : TA} {name : Str} {apos cpos : Pos} {T id : String} {r : V→List V→Hp→VK→Prop}
theorem pe_bm0 (pa : PlainAttrs T) (slot : Slot T name id) (hty : typeOf (.builtin id) = pure (.type "method_descriptor")) (hm : MtR X id r) (ho : PE X o to)
    (hbase : attributeBase o name X.env (eval o X.env) = eval o X.env:=by rfl) (hline : (apos.endLine == cpos.line) = true:=by rfl) : PE X (.Call (.Attribute o name apos) [] [] cpos) (tBM0 X.K T r to):=by
  intro pins s σ H Q I h
  refine wpAny_Call_method0_late hbase hline (thn (ho pins s σ H _ I h) fun v s1 ⟨x,H1,I1,r1,ty,q1⟩=>?_)
  obtain ⟨h1,h2⟩:=znr I1 r1 ty
  exact ⟨T,id,pa,slot,hty,h1,h2,Calls.callWith_builtin rfl (PySem.evalArgs_none (hm pins s1 σ H1 x [] v [] Q I1 r1 .nil q1))⟩
theorem zeM (pa : PlainAttrs T) (slot : Slot T name id) (hty : typeOf (.builtin id) = pure (.type "method_descriptor")) (hm : MtR X id r) (ho : PE X o to) (ha : PA X (e :: es) t)
    (hbase : attributeBase o name X.env (eval o X.env) = eval o X.env:=by rfl)
    (hfew : ((backTo cpos (starEach (e :: es) X.env)).all (fun x=>!x.1) && (backToKw cpos (keywordEach [] X.env)).all (fun x=>x.1.isSome)
      && decide ((e :: es).length + ([] : List Keyword).length + (if ([] : List Keyword).isEmpty then 0 else 1) < 30)) = true:=by rfl)
    (hline : (apos.endLine == cpos.line) = true:=by rfl) (hs : starEach (e :: es) X.env = (false,eval e X.env) :: starEach es X.env:=by rfl) (hplain : (backTo cpos (starEach es X.env)).any (·.1) = false:=by rfl) :
    PE X (.Call (.Attribute o name apos) (e :: es) [] cpos) (tBM X.K T r to t):=by
  intro pins s σ H Q I h
  refine wpAny_Call_method_late hbase hfew hline rfl (thn (ho pins s σ H _ I h) fun v s1 ⟨x,H1,I1,r1,ty,q1⟩=>?_)
  obtain ⟨h1,h2⟩:=znr I1 r1 ty
  refine ⟨T,id,pa,slot,hty,h1,h2,?_⟩
  have hA:=ha cpos pins s1 σ H1 _ I1 q1
  rw [hs] at hA ⊢
  refine Calls.callWith_builtin (by show (false || (backTo cpos (starEach es X.env)).any (·.1)) = false; rw [hplain] <;> rfl) (Calls.evalArgs_plain ?_)
  exact thn hA fun us s2 ⟨vs,H2,I2,r2,q2⟩=>hm pins s2 σ H2 x vs v us Q I2 r1 r2 q2
end
end L2
namespace L2
open PySem PySem.Spec PyProof.Rows
def MtM (X : Cx) (id : String) (r : V→List V→Hp→VK→Prop) : Prop:=
  ∀ (pins : List (Addr×Obj)) (s : Shared) (σ : St) (H : Hp) (x : V) (xs : List V) (v : Value) (us : List Value) (Q : VK),Inv X pins σ H s→RelV x v→Vals xs us→r x xs H Q→
    wpAny (model X.prog X.w) X.A (call (.builtin id) (v :: us)) (EP X pins σ Q) X.xe s
theorem Vals.one : ∀ {x : V} {us : List Value},Vals [x] us→∃ u,us = [u]∧RelV x u
  | _,_,.cons r .nil=>⟨_,rfl,r⟩
theorem Vals.zero : ∀ {us : List Value},Vals [] us→us = []
  | _,.nil=>rfl
theorem Vals.dropLast {xs : List V} {us : List Value} (h : Vals xs us) : Vals xs.dropLast us.dropLast:=by
  induction h with
  | nil=>exact .nil
  | cons r t ih=>
    cases t with
    | nil=>exact .nil
    | cons q t'=>exact .cons r ih
theorem Vals.eraseIdx : ∀ {xs : List V} {us : List Value} (i : Nat),Vals xs us→Vals (xs.eraseIdx i) (us.eraseIdx i)
  | _,_,_,.nil=>.nil
  | _,_,0,.cons _ t=>t
  | _,_,i + 1,.cons r t=>.cons r (Vals.eraseIdx i t)
theorem Vals.reverse {xs : List V} {us : List Value} (h : Vals xs us) : Vals xs.reverse us.reverse:=by
  induction h with
  | nil=>exact .nil
  | cons r t ih=>rw [List.reverse_cons,List.reverse_cons]; exact Vals.append ih (.cons r .nil)
section
variable {X : Cx} {pins : List (Addr×Obj)} {σ : St} {H : Hp} {s : Shared} {l b : Addr} {xs ys zs : List V}
theorem Inv.lset {its its' : List Value} {n : Nat} {f : Array Value→Array Value} {t' : Nat} (I : Inv X pins σ H s) (hH : H l = some (.lst xs))
    (e : s.heap.get? l = some { cls:=.type "list",data:=.seq its.toArray n }) (hf : f its.toArray = its'.toArray) (hv : Vals ys its') (hz : ys.length≤sizeLine) :
    Inv X pins σ (upd H l (.lst ys)) { s with heap:=s.heap.update l (Obj.mapSeq f),toks:=t' }:=by
  have q:=PySem.IsL.update e f
  rw [hf] at q
  refine I.write (x:=l) (e:=l) (by rw [hH]; exact trivial) (.inl rfl) (fun b' u hb hu=>(Heap.get?_update_other s.heap (Obj.mapSeq f) (Ne.symm hb)).trans hu) ⟨_,q⟩ ?_
  exact ⟨hz,its',_,hv,q⟩
theorem Inv.lnew {its : List Value} {t' : Nat} (I : Inv X pins σ H s) (hv : Vals ys its) (hz : ys.length≤sizeLine) :
    Inv X pins σ (upd H s.heap.objs.size (.lst ys)) { s with heap:=s.heap.push { cls:=.type "list",data:=.seq its.toArray },toks:=t' }:=
  I.laid (fun _ _ q=>Heap.get?_push_of_some _ q) (Nat.le_refl _) ⟨hz,its,0,hv,Heap.get?_push_size _ rfl⟩
theorem Inv.fresh (I : Inv X pins σ H s) : H s.heap.objs.size = none:=I.hok.fresh (Nat.le_refl _)
theorem Inv.lstM (I : Inv X pins σ H s) (hH : H l = some (.lst xs)) : xs.length≤sizeLine∧∃ (its : List Value) (n : Nat),Vals xs its∧xs.length = its.length∧s.heap.get? l = some { cls:=.type "list",data:=.seq its.toArray n }:=by
  obtain ⟨z,its,n,r,e⟩:=I.hok l _ hH
  exact ⟨z,its,n,r,r.length,e⟩
theorem zmV {n : Nat} (h : n≤sizeLine) : Builtin.List.listTooLong n = false:=by
  unfold Builtin.List.listTooLong
  exact decide_eq_false (by omega)
end
section
variable {X : Cx}
def zoj : V→List V→Hp→VK→Prop:=fun x vs H Q=>∃ l xs y,x = .ref l∧vs = [y]∧H l = some (.lst xs)∧xs.length < sizeLine∧Q .non (upd H l (.lst (xs ++ [y])))
theorem za3 : MtM X "list.append" zoj:=by
  intro pins s σ H x vs v us Q I rx rv h
  obtain ⟨l,xs,y,rfl,rfl,hH,hz,q⟩:=h
  cases rx
  obtain ⟨u,rfl,ru⟩:=rv.one
  obtain ⟨z,its,n,r,hl,e⟩:=I.lstM hH
  refine call_meets F.slot_list_append ⟨_,e,rfl⟩ F.entry_list_append (F.args_list_append_2 _ _) (PySem.list_append l its.toArray n u (by rw [List.size_toArray]; omega)) ⟨e,?_⟩
  refine ⟨.non,_,I.lset (its':=its ++ [u]) hH e (by simp) (r.append (.cons ru .nil)) ?_,rfl,q⟩
  rw [List.length_append,List.length_singleton]
  omega
def zoh : V→List V→Hp→VK→Prop:=fun x vs H Q=>∃ l b xs zs,x = .ref l∧vs = [.ref b]∧H l = some (.lst xs)∧H b = some (.lst zs)∧xs.length + zs.length≤sizeLine∧Q .non (upd H l (.lst (xs ++ zs)))
theorem zlh : MtM X "list.extend" zoh:=by
  intro pins s σ H x vs v us Q I rx rv h
  obtain ⟨l,b,xs,zs,rfl,rfl,hH,hB,hz,q⟩:=h
  cases rx
  obtain ⟨u,rfl,ru⟩:=rv.one
  cases ru
  obtain ⟨z,its,n,r,hl,e⟩:=I.lstM hH
  obtain ⟨z2,its2,n2,r2,hl2,e2⟩:=I.lstM hB
  have hsz : its.toArray.size + its2.toArray.size≤sizeLine:=by rw [List.size_toArray,List.size_toArray]; omega
  have hlong : ¬ (!its.toArray.isEmpty && Builtin.List.listTooLong (its.toArray.size + its2.toArray.size)) = true:=by
    rw [zmV hsz,Bool.and_false]
    exact Bool.false_ne_true
  refine call_meets F.slot_list_extend ⟨_,e,rfl⟩ F.entry_list_extend (F.args_list_extend_2 _ _)
    (AutoSeq1.list_extend_list_list_0 l its.toArray n b its2.toArray n2 hlong (by rw [List.size_toArray]; omega) (by omega)) ⟨e,e2,?_⟩
  refine ⟨.non,_,I.lset (its':=its ++ its2) hH e (by simp) (r.append r2) ?_,rfl,q⟩
  rw [List.length_append]
  omega
def rPop : V→List V→Hp→VK→Prop:=fun x vs H Q=>∃ l xs y,x = .ref l∧vs = []∧H l = some (.lst xs)∧xs[xs.length - 1]? = some y∧Q y (upd H l (.lst xs.dropLast))
def rPopAt : V→List V→Hp→VK→Prop:=fun x vs H Q=>∃ l xs i k y,x = .ref l∧vs = [.int i]∧H l = some (.lst xs)∧-(2 ^ 63)≤i∧i < 2 ^ 63∧seqIndex? i xs.length = some k∧xs[k]? = some y∧Q y (upd H l (.lst (xs.eraseIdx k)))
def rReverse : V→List V→Hp→VK→Prop:=fun x vs H Q=>∃ l xs,x = .ref l∧vs = []∧H l = some (.lst xs)∧Q .non (upd H l (.lst xs.reverse))
def rClear : V→List V→Hp→VK→Prop:=fun x vs H Q=>∃ l xs,x = .ref l∧vs = []∧H l = some (.lst xs)∧Q .non (upd H l (.lst []))
def rCat : R2:=fun x y H Q=>∃ l b xs zs,x = .ref l∧y = .ref b∧H l = some (.lst xs)∧H b = some (.lst zs)∧xs.length + zs.length≤sizeLine∧∀ p,H p = none→Q (.ref p) (upd H p (.lst (xs ++ zs)))
theorem op_cat : OpR X (binaryOp .Add) rCat:=by
  intro pins s σ H x y v u Q I rx ry h
  obtain ⟨l,b,xs,zs,rfl,rfl,hH,hB,hz,q⟩:=h
  cases rx
  cases ry
  obtain ⟨z,its,n,r,hl,e⟩:=I.lstM hH
  obtain ⟨z2,its2,n2,r2,hl2,e2⟩:=I.lstM hB
  refine PySem.P.add_list e e2 ?_ (by rw [List.size_toArray,List.size_toArray]; omega)
  have ea : its.toArray ++ its2.toArray = (its ++ its2).toArray:=by simp
  rw [ea]
  exact ⟨.ref _,_,I.lnew (t':=s.toks) (r.append r2) (by rw [List.length_append]; omega),rfl,q _ I.fresh⟩
def rRep : R2:=fun x y H Q=>∃ l k xs,x = .ref l∧y = .int k∧H l = some (.lst xs)∧-(2 ^ 63)≤k∧k < 2 ^ 63∧xs.length * k.toNat≤sizeLine∧
  ∀ p,H p = none→Q (.ref p) (upd H p (.lst (List.replicate k.toNat xs).flatten))
end
section
variable {prog : Program} {w : World} {A : Around} {E : Value→Shared→Prop} {s : Shared}
end
section
variable {X : Cx}
end
end L2
namespace L2
open PySem PySem.Spec PyProof.Rows
section
variable {κ : Type} [DecidableEq κ]
def valV (kvs : List (κ×V)) (k : κ) : Option V:=(kvs.find? fun kv=>decide (kv.1 = k)).map (·.2)
def putK (kvs : List (κ×V)) (k : κ) (v : V) : List (κ×V):=
  if (kvs.any fun kv=>decide (kv.1 = k)) = true then kvs.map (fun kv=>if kv.1 = k then (kv.1,v) else kv) else kvs ++ [(k,v)]
def zlT (kvs : List (κ×V)) (k : κ) : List (κ×V):=kvs.filter fun kv=>decide (kv.1≠k)
theorem zca {p : κ×V} {r : List (κ×V)} {k : κ} (e : p.1 = k) : valV (p :: r) k = some p.2:=by simp [valV,List.find?_cons,e]
theorem zbi {p : κ×V} {r : List (κ×V)} {k : κ} (e : ¬ p.1 = k) : valV (p :: r) k = valV r k:=by simp [valV,List.find?_cons,e]
theorem zgb (k : κ) : ∀ kvs : List (κ×V),(kvs.any fun kv=>decide (kv.1 = k)) = (valV kvs k).isSome
  | []=>rfl
  | p :: r=>by
    rw [List.any_cons]
    by_cases e : p.1 = k
    · simp only [zca e,decide_eq_true e,Bool.true_or,Option.isSome_some]
    · rw [zbi e,decide_eq_false e,Bool.false_or]; exact zgb k r
theorem zcP (kvs : List (κ×V)) (k : κ) (v : V) : (putK kvs k v).length≤kvs.length + 1:=by
  unfold putK
  split
  · rw [List.length_map]; omega
  · rw [List.length_append,List.length_cons,List.length_nil]; omega
theorem zd6 {kvs : List (κ×V)} {k : κ} (v : V) (h : valV kvs k = none) : putK kvs k v = kvs ++ [(k,v)]:=by
  unfold putK
  rw [zgb,h]
  exact if_neg (by decide)
theorem RelO.isSome_eq {o : Option V} {u : Option Value} (r : RelO o u) : o.isSome = u.isSome:=by
  cases o with
  | none=>cases u with
    | none=>rfl
    | some _=>exact (show False from r).elim
  | some _=>cases u with
    | none=>exact (show False from r).elim
    | some _=>rfl
theorem RelO.getD {o : Option V} {u : Option Value} {d : V} {d' : Value} (r : RelO o u) (rd : RelV d d') : RelV (o.getD d) (u.getD d'):=by
  cases o with
  | none=>cases u with
    | none=>exact rd
    | some _=>exact (show False from r).elim
  | some _=>cases u with
    | none=>exact (show False from r).elim
    | some _=>exact r
theorem KV.val {kvs : List (κ×V)} {vs : List (κ×Value)} (r : KV kvs vs) (k : κ) : RelO (valV kvs k) (valueAt vs k):=by
  unfold KV at r
  induction r with
  | nil=>exact True.intro
  | @cons p q ps qs h t ih=>
    obtain ⟨h1,h2⟩:=h
    by_cases e : p.1 = k
    · have e' : q.1 = k:=h1.symm.trans e
      have b : valueAt (q :: qs) k = some q.2:=by simp [valueAt,List.find?_cons,e']
      rw [zca e,b]; exact h2
    · have e' : ¬ q.1 = k:=fun z=>e (h1.trans z)
      have b : valueAt (q :: qs) k = valueAt qs k:=by simp [valueAt,List.find?_cons,e']
      rw [zbi e,b]; exact ih
theorem KV.any {kvs : List (κ×V)} {vs : List (κ×Value)} (r : KV kvs vs) (k : κ) : (kvs.any fun kv=>decide (kv.1 = k)) = vs.any fun kv=>decide (kv.1 = k):=by
  unfold KV at r
  induction r with
  | nil=>rfl
  | cons h t ih=>rw [List.any_cons,List.any_cons,ih,h.1]
theorem KV.repl {kvs : List (κ×V)} {vs : List (κ×Value)} (r : KV kvs vs) (k : κ) {y : V} {u : Value} (ry : RelV y u) :
    KV (kvs.map fun kv=>if kv.1 = k then (kv.1,y) else kv) (vs.map fun kv=>if kv.1 = k then (kv.1,u) else kv):=by
  unfold KV at r ⊢
  induction r with
  | nil=>exact .nil
  | @cons p q ps qs h t ih=>
    rw [List.map_cons,List.map_cons]
    refine .cons ?_ ih
    obtain ⟨h1,h2⟩:=h
    by_cases e : p.1 = k
    · rw [if_pos e,if_pos (h1.symm.trans e)]; exact ⟨h1,ry⟩
    · rw [if_neg e,if_neg (fun z=>e (h1.trans z))]; exact ⟨h1,h2⟩
theorem KV.put {kvs : List (κ×V)} {vs : List (κ×Value)} (r : KV kvs vs) (k : κ) {y : V} {u : Value} (ry : RelV y u) : KV (putK kvs k y) (stored vs k u):=by
  unfold putK stored
  rw [r.any k]
  by_cases e : (vs.any fun kv=>decide (kv.1 = k)) = true
  · rw [if_pos e,if_pos e]; exact r.repl k ry
  · rw [if_neg e,if_neg e]; exact Paired.snoc r ⟨rfl,ry⟩
theorem KV.drop {kvs : List (κ×V)} {vs : List (κ×Value)} (r : KV kvs vs) (k : κ) : KV (zlT kvs k) (without vs k):=by
  unfold KV at r ⊢
  unfold zlT without
  induction r with
  | nil=>exact .nil
  | @cons p q ps qs h t ih=>
    obtain ⟨h1,h2⟩:=h
    rw [List.filter_cons,List.filter_cons]
    by_cases e : p.1 = k
    · have a : ¬ decide (p.1≠k) = true:=by simp [e]
      have b : ¬ decide (q.1≠k) = true:=by simp [h1.symm.trans e]
      rw [if_neg a,if_neg b]; exact ih
    · have e' : ¬ q.1 = k:=fun z=>e (h1.trans z)
      have a : decide (p.1≠k) = true:=by simp [e]
      have b : decide (q.1≠k) = true:=by simp [e']
      rw [if_pos a,if_pos b]; exact .cons ⟨h1,h2⟩ ih
theorem KV.keys {kvs : List (κ×V)} {vs : List (κ×Value)} (r : KV kvs vs) : kvs.map (·.1) = vs.map (·.1):=by
  unfold KV at r
  induction r with
  | nil=>rfl
  | cons h t ih=>rw [List.map_cons,List.map_cons,ih,h.1]
theorem KV.length {kvs : List (κ×V)} {vs : List (κ×Value)} (r : KV kvs vs) : kvs.length = vs.length:=Paired.length r
end
theorem zj2 {P : Program} {w : World} {k : Key} {u : Value} (r : RelV (kV k) u) : (zaD P w).is k u = true:=by
  cases k with
  | inl i=>obtain ⟨t,e⟩:=(show ∃ t,u = Value.int i t from r); subst e; exact zh9 P w i t
  | inr x=>obtain ⟨t,e⟩:=(show ∃ t,u = Value.str x t from r); subst e; exact zh8 P w x t
theorem zhw {P : Program} {w : World} : ∀ {ks : List Key} {us : List Value},Vals (ks.map kV) us→ItemsAre (zaD P w) ks us
  | [],_,r=>by rw [List.map_nil] at r; cases r; exact .nil
  | k :: ks,_,r=>by
    rw [List.map_cons] at r
    cases r with
    | cons h t=>exact .cons (zj2 h) (zhw t)
abbrev KT (H : Hp) : List (List Key×V)→List (List Key×Addr×Value)→Prop:=Paired fun p q=>p.1 = q.1∧H q.2.1 = some (.tup (p.1.map kV))∧RelV p.2 q.2.2
theorem KT.val {H : Hp} {kvs : List (List Key×V)} {xs : List (List Key×Addr×Value)} (r : KT H kvs xs) (k : List Key) : RelO (valV kvs k) ((atKey xs k).map (·.2)):=by
  induction r with
  | nil=>exact True.intro
  | @cons p q ps qs h t ih=>
    obtain ⟨h1,_,h2⟩:=h
    by_cases e : p.1 = k
    · have e' : q.1 = k:=h1.symm.trans e
      have b : atKey (q :: qs) k = some q.2:=by simp [atKey,List.find?_cons,e']
      rw [zca e,b]; exact h2
    · have e' : ¬ q.1 = k:=fun z=>e (h1.trans z)
      have b : atKey (q :: qs) k = atKey qs k:=by simp [atKey,List.find?_cons,e']
      rw [zbi e,b]; exact ih
theorem KT.repl {H : Hp} {kvs : List (List Key×V)} {xs : List (List Key×Addr×Value)} (r : KT H kvs xs) (k : List Key) {y : V} {u : Value} (ry : RelV y u) :
    KT H (kvs.map fun kv=>if kv.1 = k then (kv.1,y) else kv) (xs.map (putAt k u)):=by
  induction r with
  | nil=>exact .nil
  | @cons p q ps qs h t ih=>
    rw [List.map_cons,List.map_cons]
    refine .cons ?_ ih
    obtain ⟨h1,h2,h3⟩:=h
    unfold putAt
    by_cases e : p.1 = k
    · rw [if_pos e,if_pos (h1.symm.trans e)]; exact ⟨h1,h2,ry⟩
    · rw [if_neg e,if_neg (fun z=>e (h1.trans z))]; exact ⟨h1,h2,h3⟩
theorem KT.put {H : Hp} {kvs : List (List Key×V)} {xs : List (List Key×Addr×Value)} (r : KT H kvs xs) (k : List Key) {b : Addr} {y : V} {u : Value} (hb : H b = some (.tup (k.map kV))) (ry : RelV y u) :
    KT H (putK kvs k y) (storedH xs k b u):=by
  have e : (kvs.any fun kv=>decide (kv.1 = k)) = (atKey xs k).isSome:=by
    rw [zgb,(r.val k).isSome_eq,Option.isSome_map]
  unfold putK storedH
  rw [e]
  by_cases q : (atKey xs k).isSome = true
  · rw [if_pos q,if_pos q]; exact r.repl k ry
  · rw [if_neg q,if_neg q]; exact Paired.snoc r ⟨rfl,hb,ry⟩
theorem KT.keeps {H H' : Hp} {kvs : List (List Key×V)} {xs : List (List Key×Addr×Value)} (r : KT H kvs xs) (ht : ∀ b ys,H b = some (.tup ys)→H' b = some (.tup ys)) : KT H' kvs xs:=
  Paired.mapP r fun _ _ z=>⟨z.1,ht _ _ z.2.1,z.2.2⟩
section
variable {P : Program} {w : World} {H : Hp} {h : Heap} {a : Addr}
theorem rd_of {u : HO} (ok : HOk P w H h) (e : Rd H a u) : zbl P w H h a u:=e.ok ok
theorem zlU {kvs : List (Key×V)} (ok : HOk P w H h) (e : Rd H a (.dK kvs)) : kvs.length≤sizeLine∧(a == sysModules) = false∧∃ vs,KV kvs vs∧h.DictOf (zaD P w) a vs:=
  show zbl P w H h a (.dK kvs) from rd_of ok e
theorem dk_of {kvs : List (Key×V)} (ok : HOk P w H h) (e : H a = some (.dK kvs)) : kvs.length≤sizeLine∧(a == sysModules) = false∧∃ vs,KV kvs vs∧h.DictOf (zaD P w) a vs:=zlU ok (.inl e)
theorem zjk {ks : List Key} (ok : HOk P w H h) (e : H a = some (.tup (ks.map kV))) : (tupleKind (zaD P w)).is h ks a:=by
  obtain ⟨_,its,r,o,h1,h2,n,h3⟩:=(show zbl P w H h a (.tup (ks.map kV)) from ok a _ e)
  exact ⟨o,its.toArray,n,h1,h2,h3,by simpa using zhw r⟩
theorem zlS {kvs : List (List Key×V)} (ok : HOk P w H h) (e : Rd H a (.dT kvs)) : kvs.length≤sizeLine∧(a == sysModules) = false∧
    ∃ xs,KT H kvs xs∧h.DictOfH (tupleKind (zaD P w)) a xs:=by
  obtain ⟨z,y,xs,r,o,es,ep,h1,h2,h3,h4,h5⟩:=(show zbl P w H h a (.dT kvs) from rd_of ok e)
  refine ⟨z,y,xs,r,o,es,ep,h1,h2,h3,h4,fun x hx=>?_,h5⟩
  have all : ∀ {l : List (List Key×V)} {m : List (List Key×Addr×Value)},KT H l m→∀ x∈m,(tupleKind (zaD P w)).is h x.1 x.2.1:=by
    intro l m q
    induction q with
    | nil=>intro x hx; exact nomatch hx
    | @cons p q ps qs hq t ih=>
      intro x hx
      rcases List.mem_cons.mp hx with e | hx
      · subst e
        exact zjk ok (by rw [← hq.1]; exact hq.2.1)
      · exact ih x hx
  exact all r x hx
theorem dt_of {kvs : List (List Key×V)} (ok : HOk P w H h) (e : H a = some (.dT kvs)) : kvs.length≤sizeLine∧(a == sysModules) = false∧
    ∃ xs,KT H kvs xs∧h.DictOfH (tupleKind (zaD P w)) a xs:=zlS ok (.inl e)
end
def DGet (H : Hp) (a : Addr) (y : V) (r : Option V) : Prop:=
  (∃ kvs k,Rd H a (.dK kvs)∧y = kV k∧r = valV kvs k)∨∃ kvs k b,Rd H a (.dT kvs)∧y = .ref b∧H b = some (.tup (k.map kV))∧r = valV kvs k
def DPut (H : Hp) (a : Addr) (y v : V) (H' : Hp) : Prop:=
  (∃ kvs k,H a = some (.dK kvs)∧y = kV k∧kvs.length < sizeLine∧H' = upd H a (.dK (putK kvs k v)))∨
  ∃ kvs k b,H a = some (.dT kvs)∧y = .ref b∧H b = some (.tup (k.map kV))∧kvs.length < sizeLine∧H' = upd H a (.dT (putK kvs k v))
theorem DGet.k {H : Hp} {a : Addr} {kvs : List (Key×V)} {k : Key} (e : H a = some (.dK kvs)) : DGet H a (kV k) (valV kvs k):=.inl ⟨kvs,k,.inl e,rfl,rfl⟩
theorem DGet.t {H : Hp} {a b : Addr} {kvs : List (List Key×V)} {k : List Key} (e : H a = some (.dT kvs)) (eb : H b = some (.tup (k.map kV))) : DGet H a (.ref b) (valV kvs k):=.inr ⟨kvs,k,b,.inl e,rfl,eb,rfl⟩
theorem DPut.k {H : Hp} {a : Addr} {kvs : List (Key×V)} {k : Key} {v : V} (e : H a = some (.dK kvs)) (hl : kvs.length < sizeLine) : DPut H a (kV k) v (upd H a (.dK (putK kvs k v))):=.inl ⟨kvs,k,e,rfl,hl,rfl⟩
theorem DPut.t {H : Hp} {a b : Addr} {kvs : List (List Key×V)} {k : List Key} {v : V} (e : H a = some (.dT kvs)) (eb : H b = some (.tup (k.map kV))) (hl : kvs.length < sizeLine) :
    DPut H a (.ref b) v (upd H a (.dT (putK kvs k v))):=.inr ⟨kvs,k,b,e,rfl,eb,hl,rfl⟩
section
variable {X : Cx} {pins : List (Addr×Obj)} {σ : St} {H : Hp} {s : Shared} {a : Addr} {y v : V} {u r : Value} {o : Option V} {A : Around} {E : Value→Shared→Prop}
theorem Inv.big (I : Inv X pins σ H s) : sysModules < s.heap.objs.size:=by
  have h : mainGlobals < s.heap.objs.size:=(I.mod.glob.keeps I.bk).lt
  exact Nat.lt_trans (by decide) h
theorem zlX {Q : Value→Shared→Prop} (hu : A.units + 1 < cLine) (I : Inv X pins σ H s) (g : DGet H a y (some v)) (ry : RelV y u) (h : ∀ w' s',Inv X pins σ H s'→RelV v w'→Q w' s') :
    wpAny (model X.prog X.w) A (getItem (.ref a) u) Q E s:=by
  rcases g with ⟨kvs,k,e,ey,l⟩ | ⟨kvs,k,b,e,ey,eb,l⟩
  · subst ey
    obtain ⟨z,hd,vs,rel,dd⟩:=zlU I.hok e
    obtain ⟨w',hw,rw'⟩:=RelO.some_of (v:=v) (o:=valueAt vs k) (by rw [l]; exact rel.val k)
    exact wpAny_getItem_of (zj2 ry) dd.mapOf hw (h w' _ (I.tok _) rw')
  · subst ey
    cases (show u = Value.ref b from ry)
    obtain ⟨z,hd,xs,rel,dd⟩:=zlS I.hok e
    obtain ⟨w',hw,rw'⟩:=RelO.some_of (v:=v) (o:=(atKey xs k).map (·.2)) (by rw [l]; exact rel.val k)
    obtain ⟨p,hp,hp2⟩:=Option.map_eq_some_iff.mp hw
    refine wpAny_getItem_heap (tupleKind_room_in1 hu) (zjk I.hok eb) dd hp ?_
    rw [hp2]
    exact h w' _ (I.tok _) rw'
theorem ziq {h' : Heap} {t' : Nat} {ob : HO} (I : Inv X pins σ H s) (mu : Mut (H a)) (hs : Heap.SameBut a s.heap h') (he : ∃ q,h'.get? a = some q) (new : zbl X.prog X.w (upd H a ob) h' a ob) :
    Inv X pins σ (upd H a ob) { s with heap:=h',toks:=t' }:=
  I.write (x:=a) (e:=a) mu (.inl rfl) (fun b q hb z=>(hs.2 b hb).trans z) he new
theorem znS {P : Program} {w : World} {H' : Hp} {h' : Heap} {kvs : List (Key×V)} {vs : List (Key×Value)} (z : kvs.length≤sizeLine) (hd : (a == sysModules) = false) (rel : KV kvs vs) (dd : h'.DictOf (zaD P w) a vs) :
    zbl P w H' h' a (.dK kvs):=⟨z,hd,vs,rel,dd⟩
theorem zlW {H' : Hp} {Q : Unit→Shared→Prop} (hu : A.units + 1 < cLine) (I : Inv X pins σ H s) (g : DPut H a y v H') (ry : RelV y u) (rv : RelV v r) (h : ∀ s',Inv X pins σ H' s'→Q () s') :
    wpAny (model X.prog X.w) A (setItem (.ref a) u r) Q E s:=by
  rcases g with ⟨kvs,k,e,ey,l,eH⟩ | ⟨kvs,k,b,e,ey,eb,l,eH⟩
  · subst ey eH
    obtain ⟨z,hd,vs,rel,dd⟩:=dk_of I.hok e
    have hz : vs.length≤sizeLine:=by rw [← rel.length]; exact z
    have hl : (putK kvs k v).length≤sizeLine:=by have:=zcP kvs k v; omega
    refine wpAny_setItem_pairs (hsz:=hz) (zj2 ry) dd fun h' dd' hs=>h _ ?_
    have he : ∃ q,h'.get? a = some q:=let ⟨q,_,_,hq,_⟩:=dd'; ⟨q,hq⟩
    exact ziq I (by rw [e]; exact True.intro) hs he (znS hl hd (rel.put k rv) dd')
  · subst ey eH
    cases (show u = Value.ref b from ry)
    obtain ⟨z,hd,xs,rel,dd⟩:=dt_of I.hok e
    have hz : xs.length≤sizeLine:=by rw [← Paired.length rel]; exact z
    have hl : (putK kvs k v).length≤sizeLine:=by have:=zcP kvs k v; omega
    refine wpAny_setItem_heap (hsz:=hz) (tupleKind_room_in1 hu) (zjk I.hok eb) dd fun h' dd' hs=>h _ ?_
    obtain ⟨q,es,ep,hq,h2,h3,h4,_,h5⟩:=dd'
    refine ziq I (by rw [e]; exact True.intro) hs ⟨q,hq⟩ ⟨hl,hd,_,(rel.put k eb rv).keeps fun c ys ec=>?_,q,es,ep,hq,h2,h3,h4,h5⟩
    rw [zag (ne_of ec e (fun z=>nomatch z))]
    exact ec
end
section
variable {X : Cx} {pins : List (Addr×Obj)} {σ : St} {H : Hp} {s : Shared} {a : Addr} {kvs : List (Key×V)} {k : Key} {u : Value} {A : Around} {E : Value→Shared→Prop}
end
def NoSl (i : Expr) : Prop:=∀ ov iv,subscripted i false ov iv = operate [ov,iv] (getItem ov iv)
theorem zn9 {prog : Program} {w : World} {A : Around} {E : Value→Shared→Prop} {s : Shared} {env : Env} {value slice : Expr} {pos : Pos} {T id : String} {Q : Value→Shared→Prop}
    (hl : typeLookup (.type T) "__getitem__" = pure (some (.builtin id))) (hs : NoSl slice)
    (h : wpAny (model prog w) A (eval value env) (fun o s₁=>wpAny (model prog w) A (eval slice env) (fun i s₂=>s₂.TypeIs o T∧wpAny (model prog w) A (getItem o i) Q E s₂) E s₁) E s) :
    wpAny (model prog w) A (eval (.Subscript value slice pos) env) Q E s:=by
  refine Subscript_ (wpAny_mono h (fun o s₁ h₁=>wpAny_mono h₁ (fun i s₂ h₂=>?_) fun _ _ x=>x) fun _ _ x=>x)
  obtain ⟨hT,h₂⟩:=h₂
  unfold subscriptTail
  refine wpAny_bind ?_
  rw [getitemInPython_of_ne hT.not_modules]
  refine wpAny_bind (wpAny_specialOf hT hl ?_)
  have fin : wpAny (model prog w) A (subscripted slice false o i) (fun r s₃=>wpAny (model prog w) A (letTemporaryGo value o r >>= fun _=>pure r) Q E s₃) E s₂:=by
    rw [hs o i]
    exact wpAny_operating (wpAny_mono h₂ (fun r s₃ h₃=>wpAny_bind (wpAny_letTemporaryGo (wpAny_pure h₃))) fun _ _ x=>x)
  first
    | exact wpAny_pure (wpAny_bind fin)
    | exact wpAny_bind (wpAny_pure (wpAny_bind fin))
    | exact wpAny_bind fin
theorem zio {X : Cx} {pins : List (Addr×Obj)} {σ : St} {H : Hp} {s : Shared} {a : Addr} {y : V} {o : Option V} (I : Inv X pins σ H s) (g : DGet H a y o) : s.TypeIs (.ref a) "dict":=by
  rcases g with ⟨kvs,k,e,_,_⟩ | ⟨kvs,k,b,e,_,_,_⟩
  · obtain ⟨_,_,vs,_,dd⟩:=zlU I.hok e
    exact dd.typeIs
  · obtain ⟨_,_,xs,_,dd⟩:=zlS I.hok e
    exact dd.typeIs
def tDGet (td ty : TE) : TE:=fun σ H Q=>td σ H fun x H1=>ty σ H1 fun y H2=>∃ a v,x = .ref a∧DGet H2 a y (some v)∧Q v H2
def tDIn (ty td : TE) : TE:=fun σ H Q=>ty σ H fun y H1=>td σ H1 fun x H2=>∃ a o,x = .ref a∧DGet H2 a y o∧Q (.bl o.isSome) H2
def tDNotIn (ty td : TE) : TE:=fun σ H Q=>ty σ H fun y H1=>td σ H1 fun x H2=>∃ a o,x = .ref a∧DGet H2 a y o∧Q (.bl (!o.isSome)) H2
def sDPut (td ty tv : TE) : TS:=fun D σ H=>tv σ H fun v H1=>td σ H1 fun x H2=>ty σ H2 fun y H3=>∃ a H4,x = .ref a∧DPut H3 a y v H4∧D.nx σ H4
def sDAug (td ty tv : TE) (rd : V→V→Hp→VK→Prop) : TS:=fun D σ H=>td σ H fun x H1=>ty σ H1 fun y H2=>∃ a v,x = .ref a∧DGet H2 a y (some v)∧
  tv σ H2 fun y2 H3=>rd v y2 H3 fun z H4=>∃ H5,DPut H4 a y z H5∧D.nx σ H5
def sDDel (td ty : TE) : TS:=fun D σ H=>td σ H fun x H1=>ty σ H1 fun y H2=>∃ a kvs k,x = .ref a∧H2 a = some (.dK kvs)∧y = kV k∧(valV kvs k).isSome = true∧D.nx σ (upd H2 a (.dK (zlT kvs k)))
section
variable {X : Cx} {o i e value : Expr} {pos pos' tpos : Pos} {td ty tv : TE}
theorem zdh (hu : X.A.units + 1 < cLine) (ho : PE X o td) (hi : PE X i ty) (hs : NoSl i) : PE X (.Subscript o i pos) (tDGet td ty):=by
  intro pins s σ H Q I h
  refine zn9 PySem.F.slot_dict_getitem.lookup hs (thn (ho pins s σ H _ I h) fun u s1 ⟨x,H1,I1,rx,q1⟩=>thn (hi pins s1 σ H1 _ I1 q1) fun iv s2 ⟨y,H2,I2,ry,a,v,ex,g,q2⟩=>?_)
  subst ex
  obtain rfl : u = Value.ref a:=rx
  exact ⟨zio I2 g,zlX hu I2 g ry fun w' s3 I3 rw'=>⟨v,H2,I3,rw',q2⟩⟩
theorem zem (hu : X.A.units + 1 < cLine) (ho : PE X o td) (hi : PE X i ty) (hv : PE X value tv) (hs : swapsWith value (some (.Subscript o i pos')) pos.line X.env = pure false) :
    PS X (.Assign [.Subscript o i pos'] value pos) (sDPut td ty tv):=by
  intro pins s σ H D I h
  refine wpAny_Assign_Subscript (thn (hv pins s σ H _ I h) fun r s1 ⟨v,H1,I1,rv,q1⟩=>thn (ho pins s1 σ H1 _ I1 q1) fun u s2 ⟨x,H2,I2,rx,q2⟩=>thn (hi pins s2 σ H2 _ I2 q2) fun iv s3 ⟨y,H3,I3,ry,a,H4,ex,g,q3⟩=>?_) hs
  subst ex
  obtain rfl : u = Value.ref a:=rx
  exact zlW hu I3 g ry rv fun s4 I4=>⟨σ,H4,I4,q3⟩
end
theorem zjt {P : Program} {w : World} {H : Hp} (h : Heap) (hb : sysModules < h.objs.size) : zbl P w H (h.push { cls:=.type "dict",data:=.dict #[] }) h.objs.size (.dK []):=
  ⟨Nat.zero_le _,beq_eq_false_iff_ne.mpr (Ne.symm (Nat.ne_of_lt hb)),[],.nil,Heap.DictOf.new h⟩
theorem zng {P : Program} {w : World} {H : Hp} (h : Heap) (hb : sysModules < h.objs.size) : zbl P w H (h.push { cls:=.type "dict",data:=.dict #[] }) h.objs.size (.dT []):=
  ⟨Nat.zero_le _,beq_eq_false_iff_ne.mpr (Ne.symm (Nat.ne_of_lt hb)),[],.nil,_,#[],0,Heap.get?_push_size _ rfl,⟨rfl,rfl,rfl⟩,rfl,rfl,List.nodup_nil⟩
def tDNewK : TE:=fun _ H Q=>∀ p,H p = none→Q (.ref p) (upd H p (.dK []))
def tDNewT : TE:=fun _ H Q=>∀ p,H p = none→Q (.ref p) (upd H p (.dT []))
section
variable {X : Cx} {pos : Pos}
theorem zi5 : PE X (.Dict [] [] pos) tDNewK:=fun pins s σ H Q I h=>
  wpAny_Dict_empty ⟨.ref s.heap.objs.size,_,I.laid (a:=s.heap.objs.size) (o:=.dK []) (t':=s.toks) (fun _ _ q=>Heap.get?_push_of_some _ q) (Nat.le_refl _) (zjt s.heap I.big),rfl,h _ (I.hok.fresh (Nat.le_refl _))⟩
theorem zmB : PE X (.Dict [] [] pos) tDNewT:=fun pins s σ H Q I h=>
  wpAny_Dict_empty ⟨.ref s.heap.objs.size,_,I.laid (a:=s.heap.objs.size) (o:=.dT []) (t':=s.toks) (fun _ _ q=>Heap.get?_push_of_some _ q) (Nat.le_refl _) (zng s.heap I.big),rfl,h _ (I.hok.fresh (Nat.le_refl _))⟩
end
def zkw : List (TE×TE)→St→Hp→(List (V×V)→Hp→Prop)→Prop
  | [],_,H,Q=>Q [] H
  | (tk,tv) :: r,σ,H,Q=>tk σ H fun x H1=>tv σ H1 fun y H2=>zkw r σ H2 fun ps H3=>Q ((x,y) :: ps) H3
abbrev VV : List (V×V)→List (Value×Value)→Prop:=Paired fun p q=>RelV p.1 q.1∧RelV p.2 q.2
def PPs (X : Cx) (pos : Pos) (keys : List (Option Expr)) (values : List Expr) (trs : List (TE×TE)) : Prop:=
  ∀ (pins : List (Addr×Obj)) (s : Shared) (σ : St) (H : Hp) (Q : List (V×V)→Hp→Prop),Inv X pins σ H s→zkw trs σ H Q→
    wpAny (model X.prog X.w) X.A (evalPairs (pairTrees keys values X.env pos)) (fun vs s'=>∃ ps H',Inv X pins σ H' s'∧VV ps vs∧Q ps H') X.xe s
theorem zol {X : Cx} {pos : Pos} : PPs X pos [] [] []:=fun pins s σ H Q I h=>pairTrees_nil_walk ⟨[],H,I,.nil,h⟩
theorem zgn {X : Cx} {pos : Pos} {k v : Expr} {ks : List (Option Expr)} {vs : List Expr} {tk tv : TE} {trs : List (TE×TE)} (hk : PE X k tk) (hv : PE X v tv) (hr : PPs X pos ks vs trs) :
    PPs X pos (some k :: ks) (v :: vs) ((tk,tv) :: trs):=fun pins s σ H Q I h=>
  pairTrees_cons_walk (thn (hk pins s σ H _ I h) fun u s1 ⟨x,H1,I1,rx,q1⟩=>thn (hv pins s1 σ H1 _ I1 q1) fun w2 s2 ⟨y,H2,I2,ry,q2⟩=>
    thn (hr pins s2 σ H2 _ I2 q2) fun ws s3 ⟨ps,H3,I3,rel,q3⟩=>⟨(x,y) :: ps,H3,I3,.cons ⟨rx,ry⟩ rel,q3⟩)
def zeD (kvs more : List (Key×V)) : List (Key×V):=more.foldl (fun acc kv=>putK acc kv.1 kv.2) kvs
theorem KV.merge : ∀ {more : List (Key×V)} {rs : List (Key×Value)} {kvs : List (Key×V)} {vs : List (Key×Value)},KV more rs→KV kvs vs→KV (zeD kvs more) (merged vs rs):=by
  intro more rs kvs vs r
  unfold KV at r
  induction r generalizing kvs vs with
  | nil=>intro q; exact q
  | @cons p q ps qs h t ih=>
    intro r0
    have e : KV (putK kvs p.1 p.2) (stored vs q.1 q.2):=by
      have:=r0.put p.1 h.2
      rw [← h.1]; exact this
    exact ih e
theorem zeg : ∀ (more kvs : List (Key×V)),(zeD kvs more).length≤kvs.length + more.length
  | [],kvs=>by show kvs.length≤kvs.length + 0; omega
  | p :: r,kvs=>by
    have h1:=zeg r (putK kvs p.1 p.2)
    have h2:=zcP kvs p.1 p.2
    show (zeD (putK kvs p.1 p.2) r).length≤_
    rw [List.length_cons]; omega
theorem zf7 {P : Program} {w : World} : ∀ {kvs : List (Key×V)} {ws : List (Value×Value)},VV (kvs.map fun kv=>(kV kv.1,kv.2)) ws→∃ rs,Carries (zaD P w) ws rs∧KV kvs rs
  | [],_,r=>by rw [List.map_nil] at r; cases r; exact ⟨[],True.intro,.nil⟩
  | p :: kvs,_,r=>by
    rw [List.map_cons] at r
    cases r with
    | @cons a b as bs h t=>
      obtain ⟨rs,c,q⟩:=zf7 (P:=P) (w:=w) t
      obtain ⟨b1,b2⟩:=b
      exact ⟨(p.1,b2) :: rs,⟨zj2 h.1,rfl,c⟩,.cons ⟨rfl,h.2⟩ q⟩
def tDisp (trs : List (TE×TE)) : TE:=fun σ H Q=>∀ p,H p = none→zkw trs σ (upd H p (.dK [])) fun ps H2=>H2 p = some (.dK [])∧∃ kvs : List (Key×V),ps = kvs.map (fun kv=>(kV kv.1,kv.2))∧kvs.length≤15∧Q (.ref p) (upd H2 p (.dK (zeD [] kvs)))
theorem zon {X : Cx} {pos : Pos} {keys : List (Option Expr)} {values : List Expr} {trs : List (TE×TE)} (h : PPs X pos keys values trs) (hall : keys.all (·.isSome) = true) (hl : keys.length = values.length) (h0 : keys≠[])
    (h15 : keys.length≤15) : PE X (.Dict keys values pos) (tDisp trs):=by
  intro pins s σ H Q I q
  have hn:=I.hok.fresh (Nat.le_refl s.heap.objs.size)
  have I1:=I.laid (a:=s.heap.objs.size) (o:=.dK []) (h':=s.heap.push { cls:=.type "dict",data:=.dict #[] }) (t':=s.toks) (fun _ _ q=>Heap.get?_push_of_some _ q) (Nat.le_refl _) (zjt s.heap I.big)
  refine wpAny_Dict_walk (knd:=zaD X.prog X.w) hall hl h0 h15 (thn (h pins _ σ _ _ I1 (q _ hn)) fun ws s2 ⟨ps,H2,I2,rel,e,kvs,ep,lk,q2⟩=>?_)
  subst ep
  obtain ⟨rs,c,rk⟩:=zf7 (P:=X.prog) (w:=X.w) rel
  obtain ⟨z,hd,vs0,r0,dd⟩:=dk_of I2.hok e
  cases r0
  refine ⟨rs,c,dd,fun h' dd' hs=>⟨.ref s.heap.objs.size,_,?_,rfl,q2⟩⟩
  have hz : (zeD [] kvs).length≤sizeLine:=by
    have h1:=zeg kvs []
    rw [List.length_nil] at h1
    rw [sizeLine_eq]; omega
  have he : ∃ q,h'.get? s.heap.objs.size = some q:=let ⟨q,_,_,hq,_⟩:=dd'; ⟨q,hq⟩
  exact ziq I2 (by rw [e]; exact True.intro) hs he (znS hz hd (rk.merge .nil) dd')
structure M1 (X : Cx) (o : Expr) (m : Str) (apos : Pos) (e : Expr) (cpos : Pos) : Prop where
  base : attributeBase o m X.env (eval o X.env) = eval o X.env
  few : ((backTo cpos (starEach [e] X.env)).all (fun x=>!x.1) && (backToKw cpos (keywordEach [] X.env)).all (fun x=>x.1.isSome)
    && decide (([e] : List Expr).length + ([] : List Keyword).length + (if ([] : List Keyword).isEmpty then 0 else 1) < 30)) = true
  line : (apos.endLine == cpos.line) = true
  trees : backTo cpos (starEach [e] X.env) = [(false,eval e X.env)]
structure M2 (X : Cx) (o : Expr) (m : Str) (apos : Pos) (e f : Expr) (cpos : Pos) : Prop where
  base : attributeBase o m X.env (eval o X.env) = eval o X.env
  few : ((backTo cpos (starEach [e,f] X.env)).all (fun x=>!x.1) && (backToKw cpos (keywordEach [] X.env)).all (fun x=>x.1.isSome)
    && decide (([e,f] : List Expr).length + ([] : List Keyword).length + (if ([] : List Keyword).isEmpty then 0 else 1) < 30)) = true
  line : (apos.endLine == cpos.line) = true
  trees : backTo cpos (starEach [e,f] X.env) = [(false,eval e X.env),(false,eval f X.env)]
def IsD (H : Hp) (a : Addr) : Prop:=(∃ kvs,Rd H a (.dK kvs))∨∃ kvs,Rd H a (.dT kvs)
theorem isD_at {X : Cx} {pins : List (Addr×Obj)} {σ : St} {H : Hp} {s : Shared} {a : Addr} (I : Inv X pins σ H s) (d : IsD H a) :
    s.TypeIs (.ref a) "dict"∧(∀ b,Value.ref a = .ref b→∃ ob,s.heap.get? b = some ob∧ob.dict = none)∧(a == sysModules) = false:=by
  rcases d with ⟨kvs,e⟩ | ⟨kvs,e⟩
  · obtain ⟨_,hd,vs,_,dd⟩:=zlU I.hok e
    refine ⟨dd.typeIs,fun b q=>?_,hd⟩
    cases q
    obtain ⟨ob,_,_,h1,h2,_⟩:=dd
    exact ⟨ob,h1,h2.2.1⟩
  · obtain ⟨_,hd,xs,_,dd⟩:=zlS I.hok e
    refine ⟨dd.typeIs,fun b q=>?_,hd⟩
    cases q
    obtain ⟨ob,_,_,h1,h2,_⟩:=dd
    exact ⟨ob,h1,h2.2.1⟩
section
variable {X : Cx} {pins : List (Addr×Obj)} {σ : St} {H : Hp} {s : Shared} {a : Addr} {y d : V} {u r : Value} {o : Option V} {A : Around} {E : Value→Shared→Prop}
theorem d_get2 {Q : Value→Shared→Prop} (hu : A.units + 1 < cLine) (I : Inv X pins σ H s) (g : DGet H a y o) (ry : RelV y u) (rd : RelV d r) (h : ∀ w' s',Inv X pins σ H s'→RelV (o.getD d) w'→Q w' s') :
    wpAny (model X.prog X.w) A (call (.builtin "dict.get") [.ref a,u,r]) Q E s:=by
  rcases g with ⟨kvs,k,e,ey,l⟩ | ⟨kvs,k,b,e,ey,eb,l⟩
  · subst ey
    obtain ⟨z,hd,vs,rel,dd⟩:=zlU I.hok e
    refine call_meetsIn PySem.F.slot_dict_get dd.typeIs PySem.F.entry_dict_get (PySem.F.args_dict_get_3 _ _ _) (meets_dict_get_default (zaD X.prog X.w) a (zj2 ry) hd r) ⟨_,dd.mapOf,h _ _ (I.tok _) ?_⟩
    rw [l]
    exact (rel.val k).getD rd
  · subst ey
    cases (show u = Value.ref b from ry)
    obtain ⟨z,hd,xs,rel,dd⟩:=zlS I.hok e
    refine call_meetsIn PySem.F.slot_dict_get dd.typeIs PySem.F.entry_dict_get (PySem.F.args_dict_get_3 _ _ _) (meetsH_dict_get_default (tupleKind (zaD X.prog X.w)) a b hd r) ⟨tupleKind_room_in1 hu,k,xs,zjk I.hok eb,dd,h _ _ (I.tok _) ?_⟩
    rw [l]
    exact (rel.val k).getD rd
end
def tDGet1 (td ty : TE) : TE:=fun σ H Q=>td σ H fun x H1=>∃ a,x = .ref a∧IsD H1 a∧ty σ H1 fun y H2=>∃ o,DGet H2 a y o∧Q (o.getD .non) H2
def tDGet2 (td ty tx : TE) : TE:=fun σ H Q=>td σ H fun x H1=>∃ a,x = .ref a∧IsD H1 a∧ty σ H1 fun y H2=>tx σ H2 fun z H3=>∃ o,DGet H3 a y o∧Q (o.getD z) H3
def tDPop1 (td ty : TE) : TE:=fun σ H Q=>td σ H fun x H1=>∃ a,x = .ref a∧IsD H1 a∧ty σ H1 fun y H2=>∃ kvs k v,H2 a = some (.dK kvs)∧y = kV k∧valV kvs k = some v∧Q v (upd H2 a (.dK (zlT kvs k)))
def tDPop2 (td ty tx : TE) : TE:=fun σ H Q=>td σ H fun x H1=>∃ a,x = .ref a∧IsD H1 a∧ty σ H1 fun y H2=>tx σ H2 fun z H3=>∃ kvs k,H3 a = some (.dK kvs)∧y = kV k∧
  (∀ v,valV kvs k = some v→Q v (upd H3 a (.dK (zlT kvs k))))∧(valV kvs k = none→Q z H3)
section
variable {X : Cx} {o e f : Expr} {apos cpos : Pos} {td ty tx : TE}
theorem zmC (hu : X.A.units + 1 < cLine) (ho : PE X o td) (he : PE X e ty) (hf : PE X f tx) (m : M2 X o "get" apos e f cpos) : PE X (.Call (.Attribute o "get" apos) [e,f] [] cpos) (tDGet2 td ty tx):=by
  intro pins s σ H Q I h
  refine wpAny_Call_method m.base m.few m.line PySem.F.plainAttrs_dict PySem.F.slot_dict_get PySem.F.type_dict_get (thn (ho pins s σ H _ I h) fun u s1 ⟨x,H1,I1,rx,a,ex,d,q1⟩=>?_)
  subst ex
  obtain rfl : u = Value.ref a:=rx
  obtain ⟨t1,t2,_⟩:=isD_at I1 d
  refine ⟨t1,t2,?_⟩
  rw [m.trees]
  refine Calls.callWith_builtin rfl (Calls.evalArgs_plain (Calls.spliced_cons (thn (he pins s1 σ H1 _ I1 q1) fun iv s2 ⟨y,H2,I2,ry,q2⟩=>
    Calls.spliced_cons (thn (hf pins s2 σ H2 _ I2 q2) fun fv s3 ⟨z,H3,I3,rz,ov,g,q3⟩=>Calls.spliced_nil ?_))))
  exact d_get2 hu I3 g ry rz fun w' s4 I4 rw'=>⟨_,H3,I4,rw',q3⟩
end
section
variable {X : Cx} {pins : List (Addr×Obj)} {σ : St} {H : Hp} {s : Shared} {a : Addr} {kvs : List (Key×V)} {A : Around} {E : Value→Shared→Prop}
end
section
variable {X : Cx} {pins : List (Addr×Obj)} {σ : St} {H : Hp} {s : Shared} {a : Addr} {y : V} {u : Value} {A : Around} {E : Value→Shared→Prop}
end
end L2
namespace Att
open PySem PySem.W PySem.Calls PyProof.Rows
theorem zft {P : Params} {h : Heap} : ∀ (ns : List Int) (vs : List Value),WellAll P h vs (ns.map WData.int)→IntsAre vs ns:=by
  intro ns
  induction ns with
  | nil=>
    intro vs w
    rw [List.map_nil] at w
    cases w
    exact .nil
  | cons n ns ih=>
    intro vs w
    rw [List.map_cons] at w
    cases w with
    | cons a b=>
      cases a
      exact .cons _ _ (ih _ b)
theorem zkS {l : OpenLaw} {n : Nat} (hn : l.most = some n) {P : Params} {h : Heap} {args : List WData} {vals : List Value}
    (hpre : l.row.toRowW.claim.pre args = true) (hwl : WellAll P h vals args) :
    ∃ a vs ns,vals = [Value.ref a]∧args = [WData.list (ns.map WData.int)]∧h.get? a = some { cls:=.type "list",data:=.seq vs.toArray }∧IntsAre vs ns∧ns.length≤n:=by
  have hsh : WShape.hasAll [] args [.list .int] = true:=(pre_splitW hpre).1
  have hc : l.pre.holds [] { args:=args } = true:=(pre_splitW hpre).2
  obtain ⟨d,r,rfl,h1,h2⟩:=hasAllW_cons hsh
  obtain rfl:=hasAllW_nil h2
  obtain ⟨xs,rfl,h3⟩:=hasW_list h1
  obtain ⟨ns,rfl⟩:=items_int h3
  have hlen : ns.length≤n:=by
    unfold OpenLaw.pre at hc
    have h4 : (WTm.not (.lt (.lit (.int (n : Int))) (.len (.arg 0)))).holds [] { args:=[.list (ns.map .int)] } = true:=by
      have h4:=(holds_andW hc).1
      rw [hn] at h4
      exact h4
    have h5:=condW_of h4 (w_not (w_lt w_lit (w_len_list (w_arg rfl))))
    rw [List.length_map] at h5
    refine Nat.le_of_not_lt fun q=>?_
    have q' : (n : Int) < ((ns.length : Nat) : Int):=by omega
    first
      | (rw [decide_eq_true q'] at h5; exact absurd h5 (by decide))
      | (simp at h5; omega)
  cases hwl with
  | cons w1 w2=>
    cases w2
    cases w1 with
    | list ho hall=>exact ⟨_,_,ns,rfl,rfl,ho,zft ns _ hall,hlen⟩
theorem zk0 (l : OpenLaw) (args : List WData) : l.row.toRowW.claim.post args (.bool true) args = true:=
  postW_of (r:=l.row.toRowW) (X:=(true == true))
    (show WShape.has [] (.bool true) .bool = true by first | rfl | decide | simp [WShape.has,WShape.arms,WShape.armsAll])
    (show (WTm.eq .res (.lit (.bool true))).value [] { args:=args,res:=some (.bool true),after:=args } = some (.bool (true == true)) from w_eq_bool (w_res rfl) w_lit) rfl
theorem attach_call {l : OpenLaw} {n : Nat} {q : Program} {loose : List Str} {XP : (Str→Option Value)→Heap→Prop} {YP : World→Heap→Prop} {d : DefRec}
    (hn : l.most = some n) (hdf : d.params.defaults = [])
    (call : ∀ (w : World) (s₀ s₁ : Shared) (mg mb : Str→Option Value) (fa : Addr) (o : Obj) (pm cd doc : Value) (a : Addr) (vs : List Value) (ns : List Int),
      Ground q loose [] XP w s₀ mg mb s₁.heap→YP w s₁.heap→
      s₁.heap.get? fa = some o→o.data = .func (docDef d.name d.params d.body d.scope pm cd doc)→s₁.heap.CodeRec cd d.name→mg d.name = some (.ref fa)→
      s₁.heap.get? a = some { cls:=.type "list",data:=.seq vs.toArray }→IntsAre vs ns→ns.length≤n→s₁.gens = #[]→
      codeAny (model l.prog w) callerA (.call (.ref fa) ⟨[.ref a],[]⟩) (fun r s'=>r = .ok (.ret (.bool true))∧OldK s₁.heap s'.heap∧s'.os = s₁.os∧AllBare s'.gens) s₁) :
    WalkO q loose XP YP l.row.toRowW d [] (fun f vs=>PySem.call f vs):=by
  intro w s₀ s₁ mg mb G Y fa o pm cd doc dV kV ho hd hcd hD hmg hg args vals as hpre hlay hrd hwl hlo
  obtain rfl : dV = .none:=Dflts.none hD hdf
  obtain rfl : kV = .none:=Dflts.noKw hD
  obtain ⟨a,vs,ns,rfl,rfl,hobj,hints,hlen⟩:=zkS hn hpre hwl
  refine enter_call (codeAny_mono (call w s₀ s₁ mg mb fa o pm cd doc a vs ns G Y ho (fd_plain hd) hcd hmg hobj hints hlen hg) fun r s' hq=>?_)
  obtain ⟨rfl,h2,h3,h4⟩:=hq
  exact ⟨.inl ⟨.bool true,.bool true,[],rfl,fun _=>rfl,.bool true,zk0 l _,fun _=>⟨List.Pairwise.nil,fun _ hm=>(nomatch hm)⟩⟩,h2,h3,h4⟩
section
variable {prog : Program} {w : World} {A : Around} {E : Value→Shared→Prop} {s : Shared} {K : Frag}
def noObjs (h : Heap) : Heap:={ h with objs:=#[] }
def ledger (h : Heap) (L d : Addr) : List (Addr×Obj):=(List.range h.objs.size).filterMap fun a=>if a = L∨a = d then none else (h.get? a).map fun o=>(a,o)
end
end Att
namespace L2
open PySem PySem.Spec PyProof.Rows
theorem zgV : ∀ {vs : List Value} {ns : List Int},IntsAre vs ns→Vals (ns.map V.int) vs
  | _,_,.nil=>.nil
  | _,_,.cons n t h=>.cons ⟨t,rfl⟩ (zgV h)
def Only (H : Hp) : Prop:=∀ b,H b = none∨∃ o xs,H b = some (.frz o (.lst xs))
end L2
namespace L2
open PySem PySem.Spec PyProof.Rows
abbrev KOf {K : PySem.W.Frag} {h : Heap} (_ : K.In h) : PySem.W.Frag:=K
end L2
namespace L2
open PySem PySem.Spec PyProof.Rows
def inClass (s : Stmt) (j : Nat) : Stmt:=match s with
  | .ClassDef _ _ _ body _ _ _ _ _ _ _=>body.getD j (.Pass ⟨0,0,0,0⟩)
  | _=>.Pass ⟨0,0,0,0⟩
def zcT (s : Stmt) : Arguments:=match s with
  | .FunctionDef _ a _ _ _ _ _ _ _ _=>a
  | _=>{ posonlyargs:=[],args:=[],vararg:=none,kwonlyargs:=[],kw_defaults:=[],kwarg:=none,defaults:=[] }
def zbP (s : Stmt) : List Stmt:=match s with
  | .FunctionDef _ _ b _ _ _ _ _ _ _=>b
  | _=>[]
def zai (s : Stmt) : Scope:=match s with
  | .FunctionDef _ _ _ _ _ _ sc _ _ _=>sc
  | _=>{ kind:=.function,names:=[],isGenerator:=false,isCoroutine:=false }
abbrev CX0 : CXT:=fun _ _ _ _ _ _=>False
abbrev E0 : XK:=fun _ _ _=>False
theorem pass0 {X : Cx} : zmg CX0 X E0:=fun _ _ _ _ _ _ _ h=>h.elim
structure Fun (K : PySem.W.Frag) (x qual : Str) (st : Stmt) (f : Addr) (fd : FuncData) : Prop where
  ex : ∃ (oc : Value) (od : Option Addr) (kV doc pm : Value) (an : Option Addr) (cdv ct : Value) (osl : Array (Option Value)),
    fd = PySem.W.fnOf x qual (zcT st) (zbP st) (zai st) .none kV doc pm an cdv ct∧K.lookup f = some ⟨oc,od,.func fd,osl⟩∧PySem.W.codeIn K cdv qual = true
  kp : PySem.W.keepIn K (.ref f) = true
section
variable {P : Program} {w : World} {K : PySem.W.Frag} {mg : Str→Option Value} {base : Heap}
theorem Fun.ok {x qual : Str} {st : Stmt} {f : Addr} {fd : FuncData} {N ps : List Str} {k : Nat} {sp : Sp} (F : Fun K x qual st f fd) (S : zan N ps (zai st)) (len : ∀ vs H Q E,sp vs H Q E→vs.length = ps.length)
    (hbody : ∀ (cdv : Value) (A : Around) (outer : List Env) (s : Shared) (H : Hp) (vs : List V) (Q : VK) (E : XK),Room k (A.deeper (envOfC qual (zai st) s.heap.objs.size f cdv))→sp vs H Q E→
      ∃ t,PSs (cxOf CX0 P w K mg base N qual (zai st) f cdv A outer s H E).nox (zbP st) t∧t { nx:=fun _ H'=>Q .non H',rt:=Q } (zcq N vs) H) : FnOk P w K mg base CX0 (k + 1) f fd ps sp:=by
  obtain ⟨oc,od,kV,doc,pm,an,cdv,ct,osl,rfl,lk,hcd⟩:=F.ex
  refine fn_of lk hcd S len fun A outer s H vs Q E hr hsp=>?_
  obtain ⟨t,h,q⟩:=hbody cdv A outer s H vs Q E hr hsp
  exact ⟨t,h.nox,q⟩
theorem Fun.binds {x qual : Str} {st : Stmt} {f : Addr} {fd : FuncData} {ps : List Str} (F : Fun K x qual st f fd)
    (h : ∀ (kV doc pm : Value) (an : Option Addr) (cdv ct : Value) (us : List Value),us.length = ps.length→bindArgs (PySem.W.fnOf x qual (zcT st) (zbP st) (zai st) .none kV doc pm an cdv ct) ⟨us,[]⟩ = pure (ps.zip us)) : zgR K fd ps []:=by
  obtain ⟨oc,od,kV,doc,pm,an,cdv,ct,osl,rfl,lk,hcd⟩:=F.ex
  exact .all (h kV doc pm an cdv ct)
theorem zjr {x qual : Str} {st : Stmt} {f : Addr} {oc : Value} {od an : Option Addr} {osl : Array (Option Value)} {kV doc pm cdv ct : Value} (l : K.lookup f = some ⟨oc,od,.func (PySem.W.fnOf x qual (zcT st) (zbP st) (zai st) .none kV doc pm an cdv ct),osl⟩)
    (c : PySem.W.codeIn K cdv qual = true) (k : PySem.W.keepIn K (.ref f) = true) : Fun K x qual st f (PySem.W.fnOf x qual (zcT st) (zbP st) (zai st) .none kV doc pm an cdv ct):=⟨⟨oc,od,kV,doc,pm,an,cdv,ct,osl,rfl,l,c⟩,k⟩
end
theorem zdQ {A : Around} {k : Nat} (hr : Room k A) : A.units + 1 < cLine:=Nat.lt_of_le_of_lt (Nat.add_le_add_left (by decide : 1≤64) _) hr.units
theorem zam {n : Nat} (h : n≤1000) : n < sizeLine:=Nat.lt_of_le_of_lt h (by decide)
section
variable {X : Cx}
theorem pv (i : Nat) {x : Str} {pos : Pos} (hN : X.N[i]? = some x:=by rfl) (hv : Vis X.env.scope x:=by first | exact Or.inl rfl | exact Or.inr (Or.inl rfl) | exact Or.inr (Or.inr rfl)) (hd : (x == ("__debug__" : Str)) = false:=by decide)
    (hcd : (x == ("__classdict__" : Str)) = false:=by decide) : PE X (.Name x pos) (tVar i):=pe_var hN hv hd hcd
end
theorem iteF {A B : Prop} (h : B) : if false = true then A else B:=by
  rw [if_neg Bool.false_ne_true]
  exact h
theorem iteT {A B : Prop} (h : A) : if true = true then A else B:=by
  rw [if_pos rfl]
  exact h
theorem ite2 {c A B : Prop} [Decidable c] (h1 : c→A) (h2 : ¬ c→B) : if c then A else B:=by
  by_cases h : c
  · rw [if_pos h]
    exact h1 h
  · rw [if_neg h]
    exact h2 h
theorem zj3 {c A B : Prop} [Decidable c] (hc : c) (h : B) : if (!decide c) = true then A else B:=by
  rw [decide_eq_true hc]
  exact iteF h
def Same (H H' : Hp) : Prop:=∀ b o,H b = some o→H' b = some o
theorem Same.refl (H : Hp) : Same H H:=fun _ _ h=>h
theorem Same.trans {H H1 H2 : Hp} (a : Same H H1) (b : Same H1 H2) : Same H H2:=fun c o h=>b c o (a c o h)
theorem Same.free {H H' : Hp} (e : Same H H') {l : Addr} (h : H' l = Option.none) : H l = Option.none:=by
  cases q : H l with
  | none=>rfl
  | some o=>
    rw [e l o q] at h
    cases h
theorem Same.seq {K : PySem.W.Frag} {H H' : Hp} {a : Addr} {xs : List V} (e : Same H H') (h : SqL K H a xs) : SqL K H' a xs:=by
  rcases h with (h | ⟨o,h⟩) | h
  · exact .inl (.inl (e _ _ h))
  · exact .inl (.inr ⟨o,e _ _ h⟩)
  · exact .inr h
end L2
namespace L2
open PySem PySem.Spec PyProof.Rows
section
variable {X : Cx}
end
end L2
namespace L2
open PySem PySem.Spec PyProof.Rows
section
variable {κ : Type} [DecidableEq κ]
end
end L2
namespace Tim
open PySem PyProof.Rows
set_option autoImplicit false
section
variable {prog : Program} {w : World} {A : Around} {E : Value→Shared→Prop} {s : Shared} {κ : KeyKind} {kd : SortKind} {a₀ : Array Keyed}
def LtG (prog : Program) (w : World) (A : Around) (s : Shared) (κ : KeyKind) (kd : SortKind) : Prop:=
 ∀ (E : Value→Shared→Prop) (x y : Value) (a b : κ.α) (Q : Bool→Shared→Prop),κ.keyOf x = some a→κ.keyOf y = some b→Q (κ.blt a b) s→wpAny (model prog w) A (keyLt' kd x y) Q E s
def ky (κ : KeyKind) (p : Keyed) : κ.α:=(κ.keyOf p.1).getD κ.dflt
def Keyd (κ : KeyKind) (p : Keyed) : Prop:=∃ a,κ.keyOf p.1 = some a
theorem Keyd.eq {p : Keyed} (h : Keyd κ p) : κ.keyOf p.1 = some (ky κ p):=by
 obtain ⟨a,e⟩:=h
 unfold ky
 rw [e]
 rfl
structure TB (κ : KeyKind) (kd : SortKind) (n : Nat) (st : SortSt) : Prop where
 kind : kindOf st = kd
 keys : ∀ p∈(arrOf st).toList,Keyd κ p
 failed : failedOf st = none
 size : (arrOf st).size = n
def kAt (κ : KeyKind) (xs : Array Keyed) (i : Nat) : κ.α:=match xs[i]? with
 | some p=>ky κ p
 | none=>κ.dflt
theorem zih {xs : Array Keyed} {i : Nat} (h : i < xs.size) : kAt κ xs i = ky κ xs[i]:=by
 unfold kAt
 rw [Array.getElem?_eq_getElem h]
def Up (κ : KeyKind) (xs : Array Keyed) (lo hi : Nat) : Prop:=∀ i j,lo≤i→i≤j→j < hi→κ.kle (kAt κ xs i) (kAt κ xs j)
def Dn (κ : KeyKind) (xs : Array Keyed) (lo hi : Nat) : Prop:=∀ i j,lo≤i→i≤j→j < hi→κ.kle (kAt κ xs j) (kAt κ xs i)
structure Off (xs ys : Array Keyed) (lo hi : Nat) : Prop where
 perm : ys.Perm xs
 out : ∀ k,k < lo∨hi≤k→ys[k]? = xs[k]?
theorem Off.refl (xs : Array Keyed) (lo hi : Nat) : Off xs xs lo hi:=⟨Array.Perm.refl _,fun _ _=>rfl⟩
theorem Off.trans {xs ys zs : Array Keyed} {lo hi : Nat} (a : Off xs ys lo hi) (b : Off ys zs lo hi) : Off xs zs lo hi:=⟨b.perm.trans a.perm,fun k h=>(b.out k h).trans (a.out k h)⟩
theorem Off.size {xs ys : Array Keyed} {lo hi : Nat} (a : Off xs ys lo hi) : ys.size = xs.size:=a.perm.size_eq
end
end Tim
namespace Tim
open PySem PyProof.Rows
set_option autoImplicit false
section
variable {prog : Program} {w : World} {A : Around} {E : Value→Shared→Prop} {s : Shared} {κ : KeyKind} {kd : SortKind}
def RunOk (κ : KeyKind) (st : SortSt) (lo least nrem : Nat) (r : Option Nat) (st' : SortSt) : Prop:=
 ∃ n ys,r = some n∧least≤n∧n≤nrem∧st' = setArr st ys∧Off (arrOf st) ys lo (lo + n)∧Up κ ys lo (lo + n)
theorem Up.more {xs : Array Keyed} {lo hi : Nat} (h : Up κ xs lo hi) (hlo : lo < hi) (hn : κ.kle (kAt κ xs (hi - 1)) (kAt κ xs hi)) : Up κ xs lo (hi + 1):=fun i j h1 h2 h3=>by
 by_cases hj : j < hi
 ·exact h i j h1 h2 hj
 ·have e : j = hi:=by omega
  subst e
  by_cases hi' : i = j
  ·subst hi'; exact KeyOrd.kle_refl _
  ·exact KeyOrd.kle_trans (h i (j - 1) h1 (by omega) (by omega)) hn
theorem Dn.more {xs : Array Keyed} {lo hi : Nat} (h : Dn κ xs lo hi) (hlo : lo < hi) (hn : κ.kle (kAt κ xs hi) (kAt κ xs (hi - 1))) : Dn κ xs lo (hi + 1):=fun i j h1 h2 h3=>by
 by_cases hj : j < hi
 ·exact h i j h1 h2 hj
 ·have e : j = hi:=by omega
  subst e
  by_cases hi' : i = j
  ·subst hi'; exact KeyOrd.kle_refl _
  ·exact KeyOrd.kle_trans hn (h i (j - 1) h1 (by omega) (by omega))
end
end Tim
namespace Tim
open PySem PyProof.Rows
set_option autoImplicit false
section
variable {prog : Program} {w : World} {A : Around} {E : Value→Shared→Prop} {s : Shared} {κ : KeyKind} {kd : SortKind}
end
end Tim
namespace Tim
open PySem PyProof.Rows
set_option autoImplicit false
section
variable {M : Model} {A : Around} {E : Value→Shared→Prop} {s : Shared} {st : SortSt} {n hint : Nat} {p : Nat→Bool}
abbrev C2:=Option (Option Nat)×Nat×Nat
end
def gallopP : Bool→Keyed→Array Keyed→Nat→Nat→Nat→StateT SortSt Sem (Option Nat):=sortPriv% PySem.Builtin.gallop
section
variable {prog : Program} {w : World} {A : Around} {E : Value→Shared→Prop} {s : Shared} {κ : KeyKind} {kd : SortKind}
def bey (κ : KeyKind) (left : Bool) (key : Keyed) (arr : Array Keyed) (base i : Nat) : Bool:=if left = true then κ.blt (kAt κ arr (base + i)) (ky κ key) else !κ.blt (ky κ key) (kAt κ arr (base + i))
end
end Tim
namespace Tim
open PySem PyProof.Rows
set_option autoImplicit false
section
variable {κ : KeyKind}
def le (κ : KeyKind) (x y : Keyed) : Prop:=κ.kle (ky κ x) (ky κ y)
theorem le_refl (x : Keyed) : le κ x x:=KeyOrd.kle_refl _
theorem le_trans {x y z : Keyed} (h1 : le κ x y) (h2 : le κ y z) : le κ x z:=KeyOrd.kle_trans h1 h2
abbrev SL (κ : KeyKind) (l : List Keyed) : Prop:=l.Pairwise (le κ)
theorem SL.drop {l : List Keyed} (h : SL κ l) (n : Nat) : SL κ (l.drop n):=h.sublist (List.drop_sublist n l)
theorem SL.take {l : List Keyed} (h : SL κ l) (n : Nat) : SL κ (l.take n):=h.sublist (List.take_sublist n l)
theorem zhD {xs : Array Keyed} {i : Nat} (h : i < xs.size) : xs.toList.drop i = xs[i] :: xs.toList.drop (i + 1):=by
 have h' : i < xs.toList.length:=by simpa using h
 rw [List.drop_eq_getElem_cons h']
 simp
theorem zoE {xs : Array Keyed} (h : Up κ xs 0 xs.size) : SL κ xs.toList:=by
 rw [SL,List.pairwise_iff_getElem]
 intro i j hi hj hij
 have hi' : i < xs.size:=by simpa using hi
 have hj' : j < xs.size:=by simpa using hj
 have:=h i j (Nat.zero_le _) (by omega) hj'
 rw [zih hi',zih hj'] at this
 simpa [le] using this
structure MI (κ : KeyKind) (a b : Array Keyed) (out : Array Keyed) (ia ib : Nat) : Prop where
 perm : (out.toList ++ (a.toList.drop ia ++ b.toList.drop ib)).Perm (a.toList ++ b.toList)
 srt : SL κ out.toList
 low : ∀ x∈out.toList,∀ y∈a.toList.drop ia ++ b.toList.drop ib,le κ x y
variable {a b out : Array Keyed} {ia ib : Nat}
theorem MI.goA {out' : Array Keyed} {k : Nat} (h : MI κ a b out ia ib) (sa : SL κ a.toList) (ho : out'.toList = out.toList ++ (a.toList.drop ia).take k) (hle : ∀ x∈(a.toList.drop ia).take k,∀ y∈b.toList.drop ib,le κ x y) : MI κ a b out' (ia + k) ib:=by
 have e : a.toList.drop ia = (a.toList.drop ia).take k ++ a.toList.drop (ia + k):=by
  rw [← List.drop_drop,List.take_append_drop]
 have s1:=sa.drop ia
 rw [e] at s1
 obtain ⟨p1,p2,p3⟩:=List.pairwise_append.mp s1
 refine ⟨?_,?_,?_⟩
 ·have q:=h.perm
  rw [e] at q
  rw [ho]
  simpa [List.append_assoc] using q
 ·rw [ho]
  exact List.pairwise_append.mpr ⟨h.srt,p1,fun x hx y hy=>h.low x hx y (List.mem_append_left _ (List.mem_of_mem_take hy))⟩
 ·intro x hx y hy
  rw [ho] at hx
  rcases List.mem_append.mp hx with hx | hx
  ·refine h.low x hx y ?_
   rcases List.mem_append.mp hy with hy | hy
   ·refine List.mem_append_left _ ?_
    rw [e]
    exact List.mem_append_right _ hy
   ·exact List.mem_append_right _ hy
  ·rcases List.mem_append.mp hy with hy | hy
   ·exact p3 x hx y hy
   ·exact hle x hx y hy
theorem ziE {xs : Array Keyed} {i : Nat} (h : i < xs.size) : (xs.toList.drop i).take 1 = [xs[i]]:=by
 rw [zhD h]
 rfl
theorem MI.pa (h : MI κ a b out ia ib) (sa : SL κ a.toList) (hia : ia < a.size) (hle : ∀ y∈b.toList.drop ib,le κ a[ia] y) : MI κ a b (out.push a[ia]) (ia + 1) ib:=
 h.goA (k:=1) sa (by rw [ziE hia,Array.toList_push]) (by
  rw [ziE hia]
  intro x hx
  rw [List.mem_singleton.mp hx]
  exact hle)
structure zjA (κ : KeyKind) (a b m : Array Keyed) : Prop where
 perm : m.toList.Perm (a.toList ++ b.toList)
 srt : SL κ m.toList
theorem zgK {xs : Array Keyed} {i : Nat} : (xs.extract i xs.size).toList = xs.toList.drop i:=by
 rw [Array.toList_extract,List.extract_eq_take_drop]
 exact List.take_of_length_le (by rw [List.length_drop,Array.length_toList]; exact Nat.le_refl _)
theorem MI.done (h : MI κ a b out ia ib) (sa : SL κ a.toList) (hib : b.size≤ib) : zjA κ a b (out ++ a.extract ia a.size ++ b.extract ib b.size):=by
 have e : b.toList.drop ib = []:=List.drop_eq_nil_of_le (by rw [Array.length_toList]; exact hib)
 have e2 : (out ++ a.extract ia a.size ++ b.extract ib b.size).toList = out.toList ++ (a.toList.drop ia ++ b.toList.drop ib):=by
  rw [Array.toList_append,Array.toList_append,zgK,zgK,List.append_assoc]
 refine ⟨by rw [e2]; exact h.perm,?_⟩
 rw [e2,e,List.append_nil]
 refine List.pairwise_append.mpr ⟨h.srt,sa.drop ia,fun x hx y hy=>h.low x hx y (List.mem_append_left _ hy)⟩
theorem MI.last (h : MI κ a b out ia ib) (sa : SL κ a.toList) (sb : SL κ b.toList) (hl : ∀ y∈b.toList,∀ x∈a.toList.drop ia,le κ y x) : zjA κ a b (out ++ b.extract ib b.size ++ a.extract ia a.size):=by
 have e2 : (out ++ b.extract ib b.size ++ a.extract ia a.size).toList = out.toList ++ (b.toList.drop ib ++ a.toList.drop ia):=by
  rw [Array.toList_append,Array.toList_append,zgK,zgK,List.append_assoc]
 refine ⟨?_,?_⟩
 ·rw [e2]
  exact (List.Perm.append_left _ List.perm_append_comm).trans h.perm
 ·rw [e2]
  refine List.pairwise_append.mpr ⟨h.srt,List.pairwise_append.mpr ⟨sb.drop ib,sa.drop ia,fun x hx y hy=>hl x (List.mem_of_mem_drop hx) y hy⟩,fun x hx y hy=>h.low x hx y ?_⟩
  rcases List.mem_append.mp hy with q | q
  ·exact List.mem_append_right _ q
  ·exact List.mem_append_left _ q
end
end Tim
namespace Tim
open PySem PyProof.Rows
set_option autoImplicit false
def mergeLoP : Array Keyed→Array Keyed→StateT SortSt Sem (Array Keyed):=sortPriv% PySem.Builtin.mergeLo
def setGallopP : Nat→StateT SortSt Sem Unit:=sortPriv% PySem.Builtin.setMinGallop
structure SG (st st' : SortSt) : Prop where
 kind : kindOf st' = kindOf st
 arr : arrOf st' = arrOf st
 pend : pendingOf st' = pendingOf st
 failed : failedOf st' = failedOf st
theorem SG.refl (st : SortSt) : SG st st:=⟨rfl,rfl,rfl,rfl⟩
theorem SG.trans {s1 s2 s3 : SortSt} (h : SG s1 s2) (g : SG s2 s3) : SG s1 s3:=⟨g.kind.trans h.kind,g.arr.trans h.arr,g.pend.trans h.pend,g.failed.trans h.failed⟩
section
variable {prog : Program} {w : World} {A : Around} {E : Value→Shared→Prop} {s : Shared} {κ : KeyKind} {kd : SortKind}
end
end Tim
namespace Tim
open PySem PyProof.Rows
set_option autoImplicit false
section
variable {κ : KeyKind} {a b out : Array Keyed} {na nb : Nat}
structure MH (κ : KeyKind) (a b : Array Keyed) (out : Array Keyed) (na nb : Nat) : Prop where
 perm : ((a.toList.take na ++ b.toList.take nb) ++ out.toList.reverse).Perm (a.toList ++ b.toList)
 srt : SL κ out.toList.reverse
 high : ∀ x∈out.toList.reverse,∀ y∈a.toList.take na ++ b.toList.take nb,le κ y x
theorem zjG {l : List Keyed} {n m : Nat} (h : n≤m) : l.take m = l.take n ++ (l.take m).drop n:=by
 have e : (l.take m).take n = l.take n:=by rw [List.take_take,Nat.min_eq_left h]
 rw [← e,List.take_append_drop]
theorem MH.goA {out' : Array Keyed} {n : Nat} (h : MH κ a b out na nb) (sa : SL κ a.toList) (hn : n≤na) (ho : out'.toList.reverse = (a.toList.take na).drop n ++ out.toList.reverse) (hle : ∀ x∈(a.toList.take na).drop n,∀ y∈b.toList.take nb,le κ y x) : MH κ a b out' n nb:=by
 have e:=zjG (l:=a.toList) hn
 have s1:=sa.take na
 rw [e] at s1
 obtain ⟨p1,p2,p3⟩:=List.pairwise_append.mp s1
 refine ⟨?_,?_,?_⟩
 ·refine List.Perm.trans ?_ h.perm
  rw [ho,e,← List.append_assoc]
  refine List.Perm.append_right _ ?_
  rw [List.append_assoc,List.append_assoc,← e]
  exact List.Perm.append_left _ List.perm_append_comm
 ·rw [ho]
  exact List.pairwise_append.mpr ⟨p2,h.srt,fun x hx y hy=>h.high y hy x (List.mem_append_left _ (List.mem_of_mem_drop hx))⟩
 ·intro x hx y hy
  rw [ho] at hx
  rcases List.mem_append.mp hx with hx | hx
  ·rcases List.mem_append.mp hy with hy | hy
   ·exact p3 y hy x hx
   ·exact hle x hx y hy
  ·refine h.high x hx y ?_
   rcases List.mem_append.mp hy with hy | hy
   ·refine List.mem_append_left _ ?_
    rw [e]
    exact List.mem_append_left _ hy
   ·exact List.mem_append_right _ hy
theorem zjf {xs : Array Keyed} {n : Nat} (h0 : 0 < n) (h : n≤xs.size) : (xs.toList.take n).drop (n - 1) = [xs[n - 1]'(by omega)]:=by
 have h' : n - 1 < xs.size:=by omega
 rw [List.drop_take,show n - (n - 1) = 1 by omega,zhD h']
 rfl
theorem MH.pa (h : MH κ a b out na nb) (sa : SL κ a.toList) (h0 : 0 < na) (hn : na≤a.size) (hle : ∀ y∈b.toList.take nb,le κ y (a[na - 1]'(by omega))) : MH κ a b (out.push (a[na - 1]'(by omega))) (na - 1) nb:=
 h.goA (n:=na - 1) sa (by omega) (by rw [zjf h0 hn,Array.toList_push,List.reverse_append]; rfl) (by
  rw [zjf h0 hn]
  intro x hx
  rw [List.mem_singleton.mp hx]
  exact hle)
theorem ze7 {xs : Array Keyed} {n : Nat} : (xs.extract 0 n).toList = xs.toList.take n:=by
 rw [Array.toList_extract,List.extract_eq_take_drop,List.drop_zero,Nat.sub_zero]
theorem MH.done (h : MH κ a b out na nb) (sb : SL κ b.toList) (hna : na = 0) : zjA κ a b (a.extract 0 na ++ b.extract 0 nb ++ out.reverse):=by
 have e2 : (a.extract 0 na ++ b.extract 0 nb ++ out.reverse).toList = (a.toList.take na ++ b.toList.take nb) ++ out.toList.reverse:=by
  rw [Array.toList_append,Array.toList_append,ze7,ze7,Array.toList_reverse]
 refine ⟨by rw [e2]; exact h.perm,?_⟩
 rw [e2]
 subst hna
 refine List.pairwise_append.mpr ⟨?_,h.srt,fun x hx y hy=>h.high y hy x hx⟩
 rw [List.take_zero,List.nil_append]
 exact sb.take nb
theorem MH.first (h : MH κ a b out na nb) (sa : SL κ a.toList) (sb : SL κ b.toList) (hl : ∀ y∈b.toList.take nb,∀ x∈a.toList,le κ y x) : zjA κ a b (b.extract 0 nb ++ a.extract 0 na ++ out.reverse):=by
 have e2 : (b.extract 0 nb ++ a.extract 0 na ++ out.reverse).toList = (b.toList.take nb ++ a.toList.take na) ++ out.toList.reverse:=by
  rw [Array.toList_append,Array.toList_append,ze7,ze7,Array.toList_reverse]
 refine ⟨?_,?_⟩
 ·rw [e2]
  exact (List.Perm.append_right _ List.perm_append_comm).trans h.perm
 ·rw [e2]
  refine List.pairwise_append.mpr ⟨List.pairwise_append.mpr ⟨sb.take nb,sa.take na,fun x hx y hy=>hl x hx y (List.mem_of_mem_take hy)⟩,h.srt,fun x hx y hy=>h.high y hy x ?_⟩
  rcases List.mem_append.mp hx with q | q
  ·exact List.mem_append_right _ q
  ·exact List.mem_append_left _ q
end
def mergeHiP : Array Keyed→Array Keyed→StateT SortSt Sem (Array Keyed):=sortPriv% PySem.Builtin.mergeHi
end Tim
namespace Tim
open PySem PyProof.Rows
set_option autoImplicit false
section
variable {prog : Program} {w : World} {A : Around} {E : Value→Shared→Prop} {s : Shared} {κ : KeyKind} {kd : SortKind}
end
end Tim
namespace Tim
open PySem PyProof.Rows
set_option autoImplicit false
section
variable {κ : KeyKind}
def seg (xs : Array Keyed) (lo n : Nat) : List Keyed:=(xs.toList.drop lo).take n
def back (xs : Array Keyed) (lo : Nat) (m : Array Keyed) : Array Keyed:=m.toList.zipIdx.foldl (fun a (q : Keyed×Nat)=>a.setIfInBounds (lo + q.2) q.1) xs
end
end Tim
namespace Tim
open PySem PyProof.Rows
set_option autoImplicit false
section
variable {prog : Program} {w : World} {A : Around} {E : Value→Shared→Prop} {s : Shared} {κ : KeyKind} {kd : SortKind}
end
end Tim
namespace Tim
open PySem PyProof.Rows
set_option autoImplicit false
section
variable {κ : KeyKind} {xs ys : Array Keyed}
def Runs (κ : KeyKind) (xs : Array Keyed) : List (Nat×Nat×Nat)→Nat→Nat→Prop
 | [],a,b=>a = b
 | (s,n,_) :: r,a,b=>s = a∧0 < n∧Up κ xs a (a + n)∧Runs κ xs r (a + n) b
theorem Runs.le : ∀ {l : List (Nat×Nat×Nat)} {a b : Nat},Runs κ xs l a b→a + l.length≤b
 | [],_,_,h=>by rw [show _ = _ from h]; simp
 | (s,n,p) :: r,a,b,⟨_,h1,_,h2⟩=>by
  have:=Runs.le h2
  rw [List.length_cons]
  omega
theorem Runs.split : ∀ {l m : List (Nat×Nat×Nat)} {a b : Nat},Runs κ xs (l ++ m) a b→∃ c,Runs κ xs l a c∧Runs κ xs m c b
 | [],m,a,b,h=>⟨a,rfl,h⟩
 | (s,n,p) :: r,m,a,b,⟨h0,h1,h2,h3⟩=>by
  obtain ⟨c,c1,c2⟩:=Runs.split (l:=r) h3
  exact ⟨c,⟨h0,h1,h2,c1⟩,c2⟩
end
section
variable {prog : Program} {w : World} {A : Around} {E : Value→Shared→Prop} {s : Shared} {κ : KeyKind} {kd : SortKind}
structure SI (κ : KeyKind) (kd : SortKind) (a₀ : Array Keyed) (lo : Nat) (st : SortSt) : Prop where
 tb : TB κ kd a₀.size st
 perm : (arrOf st).Perm a₀
 le : lo≤a₀.size
 runs : Runs κ (arrOf st) (pendingOf st).toList 0 lo
end
end Tim
namespace Tim
open PySem PyProof.Rows
set_option autoImplicit false
section
variable {prog : Program} {w : World} {A : Around} {E : Value→Shared→Prop} {s : Shared} {κ : KeyKind} {kd : SortKind}
theorem Runs.modify {xs : Array Keyed} {p : Nat} : ∀ {l : List (Nat×Nat×Nat)} {a b : Nat} (i : Nat),Runs κ xs l a b→Runs κ xs (l.modify i fun x=>(x.fst,x.2.fst,p)) a b
 | [],_,_,i,h=>by
  cases i <;> exact h
 | (s,n,q) :: r,a,b,0,h=>h
 | (s,n,q) :: r,a,b,i + 1,⟨h0,h1,h2,h3⟩=>⟨h0,h1,h2,Runs.modify i h3⟩
theorem SI.setp {a₀ : Array Keyed} {lo hi : Nat} {st : SortSt} {p : Array (Nat×Nat×Nat)} (hI : SI κ kd a₀ lo st) (hz : hi≤a₀.size) (hr : Runs κ (arrOf st) p.toList 0 hi) : SI κ kd a₀ hi (setPending st p):=
 ⟨⟨hI.tb.kind,hI.tb.keys,hI.tb.failed,hI.tb.size⟩,hI.perm,hz,hr⟩
theorem SI.marked {a₀ : Array Keyed} {st : SortSt} {lo p : Nat} (hI : SI κ kd a₀ lo st) : SI κ kd a₀ lo (setPending st ((pendingOf st).modify ((pendingOf st).size - 1) fun x=>(x.fst,x.2.fst,p))):=by
 refine hI.setp hI.le ?_
 rw [Array.toList_modify]
 exact hI.runs.modify _
end
end Tim
namespace Tim
open PySem PyProof.Rows
set_option autoImplicit false
section
variable {prog : Program} {w : World} {A : Around} {E : Value→Shared→Prop} {s : Shared} {κ : KeyKind} {kd : SortKind}
def zfH (a : Addr) (h h' : Heap) : Prop:=∀ b o,b≠a→h.get? b = some o→h'.get? b = some o
def keyV (κ : KeyKind) (v : Value) : κ.α:=(κ.keyOf v).getD κ.dflt
theorem zhQ : ∀ vs : List Value,vs.zip vs = vs.map fun v=>(v,v)
 | []=>rfl
 | v :: vs=>by rw [List.zip_cons_cons,zhQ vs,List.map_cons]
theorem zi9 {vs : List Value} {p : Keyed} (h : p∈(pairsOf vs).toList) : p.1 = p.2∧p.1∈vs:=by
 have e : (pairsOf vs).toList = vs.zip vs:=by
  unfold pairsOf
  simp
 rw [e] at h
 rw [zhQ] at h
 obtain ⟨v,hv,rfl⟩:=List.mem_map.mp h
 exact ⟨rfl,hv⟩
theorem zk3 (vs : List Value) : (pairsOf vs).toList.map (·.2) = vs:=by
 have e : (pairsOf vs).toList = vs.zip vs:=by
  unfold pairsOf
  simp
 rw [e,zhQ,List.map_map]
 have z : ((fun x : Keyed=>x.2) ∘ fun v : Value=>(v,v)) = id:=rfl
 first
  | rw [z,List.map_id]
  | exact List.map_id vs
theorem out_of {vs : List Value} {xs : Array Keyed} (hp : xs.Perm (pairsOf vs)) (hU : Up κ xs 0 (pairsOf vs).size) :
  (xs.toList.map (·.2)).Perm vs∧(xs.toList.map (·.2)).Pairwise (fun x y=>κ.kle (keyV κ x) (keyV κ y)):=by
 have hpl:=Array.perm_iff_toList_perm.mp hp
 refine ⟨?_,?_⟩
 ·have:=hpl.map (·.2)
  rwa [zk3] at this
 ·have hs : SL κ xs.toList:=zoE (by rw [hp.size_eq]; exact hU)
  refine List.pairwise_map.mpr (hs.imp_of_mem fun {a b} ha hb hab=>?_)
  have ea:=(zi9 (hpl.mem_iff.mp ha)).1
  have eb:=(zi9 (hpl.mem_iff.mp hb)).1
  unfold le ky at hab
  unfold keyV
  rw [← ea,← eb]
  exact hab
theorem zig {h : Heap} {a : Addr} {vs out : List Value} {n : Nat} (ho : h.get? a = some (seqObj "list" vs.toArray n)) : zfH a h (sortedHeap h a vs out.toArray)∧∃ c,(sortedHeap h a vs out.toArray).get? a = some (seqObj "list" out.toArray c):=by
 unfold sortedHeap
 refine ⟨fun b o hb e=>(Heap.get?_update_other _ _ (Ne.symm hb)).trans (Heap.get?_push_of_some _ (Heap.get?_push_of_some _ ((Heap.get?_update_other _ _ (Ne.symm hb)).trans e))),?_⟩
 exact ⟨_,get?_update_seq (Heap.get?_push_of_some _ (Heap.get?_push_of_some _ (get?_update_seq ho (fun _=>#[])))) fun _=>out.toArray⟩
end
end Tim
namespace Tim
open PySem PySem.Spec PyProof.Rows PySem.W
set_option autoImplicit false
set_option maxRecDepth 100000
def RawD (d : Addr) (es : Array DictEntry) (ep : Nat) (h : Heap) : Prop:=∃ o,h.get? d = some o∧o.ExactDict∧o.data = .dict es ep
section
variable {prog : Program} {w : World} {A : Around} {E : Value→Shared→Prop} {s : Shared} {d it : Addr} {es : Array DictEntry} {ep : Nat}
theorem RawD.ty (x : RawD d es ep s.heap) : s.TypeIs (.ref d) "dict":=by
 obtain ⟨o,e,c,_⟩:=x
 exact ⟨o,e,c.1⟩
theorem RawD.keep {h h' : Heap} (x : RawD d es ep h) (k : ∀ o,h.get? d = some o→h'.get? d = some o) : RawD d es ep h':=by
 obtain ⟨o,e,r⟩:=x
 exact ⟨o,k o e,r⟩
end
end Tim
namespace Tim
open PySem PySem.Spec PyProof.Rows PySem.W
section
variable {prog : Program} {w : World} {A : Around} {E : Value→Shared→Prop} {s : Shared} {d : Addr} {es : Array DictEntry} {ep : Nat}
end
end Tim
namespace L2
open PySem PySem.Spec PyProof.Rows
structure DF (K : PySem.W.Frag) (mg : Str→Option Value) (x : Str) (st : Stmt) (ps : List Str) : Prop where
 ex : ∃ f fd,Fun K x x st f fd∧zgR K fd ps []∧mg x = some (.ref f)
structure FC (P : Program) (w : World) (K : PySem.W.Frag) (mg : Str→Option Value) (base : Heap) (k : Nat) (x : Str) (ps : List Str) (sp : Sp) : Prop where
 ex : ∃ f fd,FnOk P w K mg base CX0 k f fd ps sp∧zgR K fd ps []∧PySem.W.keepIn K (.ref f) = true∧mg x = some (.ref f)∧∃ oc od osl,K.lookup f = some ⟨oc,od,.func fd,osl⟩
theorem FC.at {P : Program} {w : World} {K : PySem.W.Frag} {mg : Str→Option Value} {base : Heap} {k : Nat} {x : Str} {ps : List Str} {sp : Sp} {f : Addr} {fd : FuncData} {oc : Value} {od : Option Addr} {osl : Array (Option Value)} (F : FC P w K mg base k x ps sp) (m : mg x = some (.ref f)) (l : K.lookup f = some ⟨oc,od,.func fd,osl⟩) : FnOk P w K mg base CX0 k f fd ps sp:=by
 obtain ⟨f',fd',ok,_,_,m',oc',od',osl',l'⟩:=F.ex
 rw [m] at m'
 cases m'
 rw [l] at l'
 cases l'
 exact ok
theorem DF.ok {P : Program} {w : World} {K : PySem.W.Frag} {mg : Str→Option Value} {base : Heap} {x : Str} {st : Stmt} {N ps : List Str} {k : Nat} {sp : Sp} (D : DF K mg x st ps) (S : zan N ps (zai st)) (len : ∀ vs H Q E,sp vs H Q E→vs.length = ps.length)
  (hbody : ∀ (f : Addr) (cdv : Value) (A : Around) (outer : List Env) (s : Shared) (H : Hp) (vs : List V) (Q : VK) (E : XK),Room k (A.deeper (envOfC x (zai st) s.heap.objs.size f cdv))→sp vs H Q E→
   ∃ t,PSs (cxOf CX0 P w K mg base N x (zai st) f cdv A outer s H E).nox (zbP st) t∧t { nx:=fun _ H'=>Q .non H',rt:=Q } (zcq N vs) H) : FC P w K mg base (k + 1) x ps sp:=by
 obtain ⟨f,fd,F,b,m⟩:=D.ex
 exact ⟨f,fd,F.ok S len fun cdv A outer s H vs Q E hr h=>hbody f cdv A outer s H vs Q E hr h,b,F.kp,m,by
  obtain ⟨oc,od,kV,doc,pm,an,cdv,ct,osl,rfl,lk,hcd⟩:=F.ex
  exact ⟨oc,od,osl,lk⟩⟩
theorem zas {X : Cx} {j k : Nat} {x : Str} {ps : List Str} {sp : Sp} {e : Expr} {es : List Expr} {t : TA} {p pos : Pos} (F : FC X.prog X.w X.K X.mg X.base j x ps sp) (hr : Room k X.A) (ha : PA X (e :: es) t) (hjk : j≤k:=by decide) (hg : Gl X x:=by rfl)
  (hdb : (x == ("__debug__" : Str)) = false:=by decide) (he : starEach (e :: es) X.env = (false,eval e X.env) :: starEach es X.env:=by rfl) (hpl : (backTo pos (starEach es X.env)).any (·.1) = false:=by rfl) : PE X (.Call (.Name x p) (e :: es) [] pos) (tCall sp [] E0 t):=by
 obtain ⟨f,fd,ok,b,kp,m,_⟩:=F.ex
 exact zoo ok (hr.mono hjk) hg m kp b .nil pass0 ha hdb he hpl
def tSeqM (t u : TS) : TS:=fun D σ H=>∃ M : St→Hp→Prop,t { D with nx:=M } σ H∧∀ σ' H',M σ' H'→u D σ' H'
theorem zbc {X : Cx} {st : Stmt} {rest : List Stmt} {t u : TS} (h1 : PS X st t) (h2 : PSs X rest u) : PSs X (st :: rest) (tSeqM t u):=by
 intro pins s σ H D I h
 obtain ⟨M,h,hM⟩:=h
 refine wpAny_execs_cons (thn (h1 pins s σ H { D with nx:=M } I h) fun f s1 q=>?_)
 cases f with
 | next=>
  obtain ⟨σ',H',I',q⟩:=q
  exact h2 pins s1 σ' H' D I' (hM σ' H' q)
 | ret v=>exact q
 | brk=>exact q
 | cont=>exact q
def CDivB (i j : Int) : Prop:=0 < j∧j < 2 ^ 4000
section
variable {X : Cx}
def kitO (a b : String) : Option Bool:=if (Value.type a == Value.type b) = true then some true else if PySem.W.kitMeta b = true then (PySem.fastBuiltinMro a).map (·.contains (.type b)) else none
theorem kitO_of {K : PySem.W.Frag} {a b : String} : PySem.W.kitOne K (.type a) (.type b) = kitO a b:=rfl
def rIsi (K : PySem.W.Frag) : List V→Hp→VK→Prop:=fun xs H Q=>∃ x n t b,xs = [x,.ty n]∧TyOf K H x (.type t)∧kitO t n = some b∧Q (.bl b) H
theorem zjx : zdS X (.builtin "isinstance") (rIsi X.K):=by
 intro pins s σ H xs us Q I r h
 obtain ⟨x,n,t,b,e,ty,ki,q⟩:=h
 subst e
 obtain ⟨u,w',e,r1,r2⟩:=zgW r
 subst e
 cases r2
 exact zlF I r1 ty (kitO_of.trans ki) fun tk=>⟨.bl b,H,I.tok tk,rfl,q⟩
theorem kit_ii : kitO "int" "int" = some true:=by decide +kernel
theorem kit_ib : kitO "int" "bool" = some false:=by decide +kernel
theorem kit_bb : kitO "bool" "bool" = some true:=by decide +kernel
def zoi : V→List V→Hp→VK→Prop:=fun x xs H Q=>∃ i,x = .int i∧xs = []∧Q (.int (Builtin.Int.intBits i : Nat)) H
theorem zgy : MtR X "int.bit_length" zoi:=by
 intro pins s σ H x xs v us Q I rx rv h
 obtain ⟨i,rfl,rfl,q⟩:=h
 obtain ⟨t,rfl⟩:=rx
 cases rv
 exact call_int_bit_length ⟨.int _,H,I.tok _,⟨_,rfl⟩,q⟩
end
def zcQ (L : Addr) (a l : Int) : HO:=.dK [(.inr "script",.ref L),(.inr "at",.int a),(.inr "left",.int l)]
def Keep (d : Addr) (H H' : Hp) : Prop:=∀ b o,b≠d→H b = some o→H' b = some o
theorem Keep.refl (d : Addr) (H : Hp) : Keep d H H:=fun _ _ _ h=>h
theorem Keep.trans {d : Addr} {H H1 H2 : Hp} (a : Keep d H H1) (b : Keep d H1 H2) : Keep d H H2:=fun c o n h=>b c o n (a c o n h)
theorem Same.keep {d : Addr} {H H' : Hp} (s : Same H H') : Keep d H H':=fun b o _ h=>s b o h
structure LS (K : PySem.W.Frag) (L d : Addr) (H : Hp) : Prop where
 ex : ∃ (ns : List Int) (a l : Int),H d = some (zcQ L a l)∧SqL K H L (ns.map V.int)
theorem zge {K : PySem.W.Frag} {H H' : Hp} {L d : Addr} {xs : List V} {L' : Addr} {a l : Int} (hd : H d = some (zcQ L' a l)) (k : Keep d H H') (h : SqL K H L xs) : SqL K H' L xs:=by
 have ne : ∀ o,H L = some o→(∀ kvs,o≠.dK kvs)→L≠d:=fun o e n z=>by
  rw [z,hd] at e
  cases e
  exact n _ rfl
 rcases h with (h | ⟨o,h⟩) | h
 ·exact .inl (.inl (k L _ (ne _ h (fun _ z=>nomatch z)) h))
 ·exact .inl (.inr ⟨o,k L _ (ne _ h (fun _ z=>nomatch z)) h⟩)
 ·exact .inr h
theorem LS.set {K : PySem.W.Frag} {d L : Addr} {H : Hp} {ns : List Int} {a l a' l' : Int} (hd : H d = some (zcQ L a l)) (h : SqL K H L (ns.map V.int)) : LS K L d (upd H d (zcQ L a' l'))∧Keep d H (upd H d (zcQ L a' l')):=by
 have k : Keep d H (upd H d (zcQ L a' l')):=fun b o n e=>by rw [zag n]; exact e
 exact ⟨⟨ns,a',l',zac,zge hd k h⟩,k⟩
theorem LS.same {K : PySem.W.Frag} {L d : Addr} {H H' : Hp} (s : LS K L d H) (k : Same H H') : LS K L d H':=by
 obtain ⟨ns,a,l,e,q⟩:=s.ex
 exact ⟨ns,a,l,k _ _ e,k.seq q⟩
theorem zaj {H : Hp} {p : Addr} (h : H p = none) (o : HO) : Same H (upd H p o):=fun b u q=>by rw [zag (zab q h)]; exact q
theorem LS.put {K : PySem.W.Frag} {L d p : Addr} {H0 H2 : Hp} {o : HO} (s : LS K L d H0) (hp : H0 p = none) (k : ∀ b o,b≠d→b≠p→H0 b = some o→H2 b = some o) (s2 : LS K L d H2) : LS K L d (upd H2 p o):=by
 obtain ⟨ns,a,l,e,q⟩:=s.ex
 obtain ⟨ns2,a2,l2,e2,_⟩:=s2.ex
 have hdp : d≠p:=zab e hp
 have go : ∀ u,H0 L = some u→(∀ kvs,u≠.dK kvs)→upd H2 p o L = some u:=fun u hu hn=>by
  have h1 : L≠p:=zab hu hp
  have h2 : L≠d:=fun z=>by
   rw [z,e] at hu
   cases hu
   exact hn _ rfl
  rw [zag h1]
  exact k L u h2 h1 hu
 refine ⟨ns,a2,l2,by rw [zag hdp]; exact e2,?_⟩
 rcases q with (h | ⟨ob,h⟩) | h
 ·exact .inl (.inl (go _ h (fun _ z=>nomatch z)))
 ·exact .inl (.inr ⟨ob,go _ h (fun _ z=>nomatch z)⟩)
 ·exact .inr h
section
variable {H : Hp} {d L : Addr} {a l : Int}
theorem zdI {x y : Str} (h : x≠y) : (Sum.inr x : Key)≠Sum.inr y:=fun z=>h (Sum.inr.inj z)
theorem zj4 (h : H d = some (zcQ L a l)) : DGet H d (.str "script") (some (.ref L)):=.inl ⟨_,.inr "script",.inl h,rfl,by rw [zca rfl]⟩
theorem get_at (h : H d = some (zcQ L a l)) : DGet H d (.str "at") (some (.int a)):=.inl ⟨_,.inr "at",.inl h,rfl,by rw [zbi (zdI (show ("script" : Str) ≠ "at" by decide +kernel)),zca rfl]⟩
theorem zgE (h : H d = some (zcQ L a l)) : DGet H d (.str "left") (some (.int l)):=.inl ⟨_,.inr "left",.inl h,rfl,by rw [zbi (zdI (show ("script" : Str) ≠ "left" by decide +kernel)),zbi (zdI (show ("at" : Str) ≠ "left" by decide +kernel)),zca rfl]⟩
theorem znG {k : Key} {v : V} {kvs kvs' : List (Key×V)} (h : H d = some (.dK kvs)) (hl : kvs.length < sizeLine) (e : putK kvs k v = kvs') : DPut H d (kV k) v (upd H d (.dK kvs')):=by
 subst e
 exact DPut.k h hl
theorem put_at {a' : Int} (h : H d = some (zcQ L a l)) : DPut H d (.str "at") (.int a') (upd H d (zcQ L a' l)):=
 znG (k:=.inr "at") h (by show 3 < sizeLine; decide) (by
  unfold putK
  rw [if_pos (by simp)]
  simp only [List.map_cons,List.map_nil,if_neg (zdI (show ("script" : Str) ≠ "at" by decide +kernel)),if_neg (zdI (show ("left" : Str) ≠ "at" by decide +kernel)),if_true])
theorem zi1 {l' : Int} (h : H d = some (zcQ L a l)) : DPut H d (.str "left") (.int l') (upd H d (zcQ L a l')):=
 znG (k:=.inr "left") h (by show 3 < sizeLine; decide) (by
  unfold putK
  rw [if_pos (by simp)]
  simp only [List.map_cons,List.map_nil,if_neg (zdI (show ("script" : Str) ≠ "left" by decide +kernel)),if_neg (zdI (show ("at" : Str) ≠ "left" by decide +kernel)),if_true])
end
def zey (K : PySem.W.Frag) : Sp:=fun vs H Q _=>∃ (d L : Addr) (m : Int),vs = [.ref d,.int m]∧(0 < m∧m < 1073741824)∧LS K L d H∧∀ (v : Int) (H' : Hp),0≤v→v < m→Keep d H H'→LS K L d H'→Q (.int v) H'
def zkK : Sp:=fun vs H Q _=>∃ c k : Int,vs = [.int c,.int k]∧∀ v : Int,Q (.int v) H
def zkO (K : PySem.W.Frag) : Sp:=fun vs H Q _=>∃ (L : Addr) (ns : List Int),vs = [.ref L]∧SqL K H L (ns.map V.int)∧∀ (d : Addr) (H' : Hp),H d = none→Same H H'→LS K L d H'→Q (.ref d) H'
def spLaw (K : PySem.W.Frag) : Sp:=fun vs H Q _=>∃ (a : Addr) (ns : List Int),vs = [.ref a]∧SqL K H a (ns.map V.int)∧ns.length≤63∧∀ H',Q (.bl true) H'
theorem at_mod {ns : List Int} {k : Int} (h : 0 < ns.length) : ∃ v : Int,atI (ns.map V.int) (k % (((ns.map V.int).length : Nat) : Int)) = some (.int v):=by
 have e : (ns.map V.int).length = ns.length:=List.length_map _
 have h1 : (0 : Int) < (((ns.map V.int).length : Nat) : Int):=by rw [e]; omega
 have z0:=Int.emod_nonneg k (Int.ne_of_gt h1)
 have z1:=Int.emod_lt_of_pos k h1
 generalize hj : k % (((ns.map V.int).length : Nat) : Int) = j at z0 z1
 rw [e] at z1
 have hk : j.toNat < ns.length:=by omega
 obtain ⟨n,rfl⟩ : ∃ n : Nat,j = (n : Int):=⟨j.toNat,by omega⟩
 have hn : n < ns.length:=by omega
 exact ⟨ns[n],zaX (by rw [List.getElem?_map,List.getElem?_eq_getElem hn]; rfl)⟩
end L2
namespace L2
open PySem PySem.Spec PyProof.Rows PySem.SeqAt
def Ext (H H' : Hp) : Prop:=∀ b o,H b = some o→(∀ kvs,o≠.dK kvs)→H' b = some o
theorem Ext.refl (H : Hp) : Ext H H:=fun _ _ h _=>h
theorem Ext.trans {H H1 H2 : Hp} (a : Ext H H1) (b : Ext H1 H2) : Ext H H2:=fun c o h n=>b c o (a c o h n) n
theorem Same.ext {H H' : Hp} (s : Same H H') : Ext H H':=fun b o h _=>s b o h
theorem Keep.ext {d L : Addr} {a l : Int} {H H' : Hp} (k : Keep d H H') (h : H d = some (zcQ L a l)) : Ext H H':=fun b o e n=>k b o (fun z=>by
 rw [z,h] at e
 cases e
 exact n _ rfl) e
theorem LS.ext {K : PySem.W.Frag} {L d : Addr} {H H' : Hp} (s : LS K L d H) (k : Keep d H H') : Ext H H':=by
 obtain ⟨ns,a,l,e,_⟩:=s.ex
 exact k.ext e
theorem LS.of_new {K : PySem.W.Frag} {L d : Addr} {H : Hp} (s : LS K L d H) {p : Addr} (hp : H p = none) (o : HO) : LS K L d (upd H p o):=s.same (zaj hp o)
theorem SqL.ext {K : PySem.W.Frag} {H H' : Hp} {a : Addr} {xs : List V} (e : Ext H H') (h : SqL K H a xs) : SqL K H' a xs:=by
 rcases h with (h | ⟨o,h⟩) | h
 ·exact .inl (.inl (e _ _ h (fun _ z=>nomatch z)))
 ·exact .inl (.inr ⟨o,e _ _ h (fun _ z=>nomatch z)⟩)
 ·exact .inr h
theorem SqT.ext {K : PySem.W.Frag} {H H' : Hp} {a : Addr} {xs : List V} (e : Ext H H') (h : SqT K H a xs) : SqT K H' a xs:=by
 rcases h with (h | ⟨o,h⟩) | h
 ·exact .inl (.inl (e _ _ h (fun _ z=>nomatch z)))
 ·exact .inl (.inr ⟨o,e _ _ h (fun _ z=>nomatch z)⟩)
 ·exact .inr h
class Rep (α : Type) where
 dec : DecidableEq α
 depth : Nat
 has : PySem.W.Frag→Hp→α→V→Prop
 mono : ∀ {K : PySem.W.Frag} {H H' : Hp} {a : α} {v : V},Ext H H'→has K H a v→has K H' a v
 inj : ∀ {X : Cx} {pins : List (Addr×Obj)} {σ : St} {H : Hp} {s : Shared} {a b : α} {v : V},Inv X pins σ H s→has X.K H a v→has X.K H b v→a = b
 rc : ∀ {X : Cx} {pins : List (Addr×Obj)} {σ : St} {H : Hp} {s : Shared} {A : Around} {a b : α} {x y : V} {u v : Value},Inv X pins σ H s→A.units + depth < cLine→has X.K H a x→has X.K H b y→RelV x u→RelV y v→RcAt A s u v (dec a b).decide
 rn : ∀ {X : Cx} {pins : List (Addr×Obj)} {σ : St} {H : Hp} {s : Shared} {A : Around} {a b : α} {x y : V} {u v : Value},Inv X pins σ H s→A.units + depth < cLine→has X.K H a x→has X.K H b y→RelV x u→RelV y v→RcNeAt A s u v (!(dec a b).decide)
 eq : ∀ {X : Cx} {pins : List (Addr×Obj)} {σ : St} {H : Hp} {s : Shared} {A : Around} {a b : α} {x y : V} {u v : Value},Inv X pins σ H s→A.units + depth < cLine→has X.K H a x→has X.K H b y→RelV x u→RelV y v→EqAt A s u v (dec a b).decide
instance (priority:=low) repDec {α : Type} [Rep α] : DecidableEq α:=Rep.dec
theorem ziv {i j : Int} : (i == j) = (Int.instDecidableEq i j).decide:=by
 by_cases h : i = j
 ·subst h; simp
 ·rw [beq_eq_false_iff_ne.mpr h]; exact (decide_eq_false h).symm
instance : Rep Int where
 dec:=Int.instDecidableEq
 depth:=0
 has:=fun _ _ i v=>v = .int i
 mono:=fun _ h=>h
 inj:=fun _ h1 h2=>V.int.inj (h1.symm.trans h2)
 rc:=fun _ _ h1 h2 r1 r2=>by
  subst h1 h2
  obtain ⟨t,rfl⟩:=r1
  obtain ⟨t',rfl⟩:=r2
  rw [← ziv]
  exact RcAt.int_int _ _ _ _
 rn:=fun _ _ h1 h2 r1 r2=>by
  subst h1 h2
  obtain ⟨t,rfl⟩:=r1
  obtain ⟨t',rfl⟩:=r2
  rw [← ziv]
  exact RcNeAt.int_int _ _ _ _
 eq:=fun _ _ h1 h2 r1 r2=>by
  subst h1 h2
  obtain ⟨t,rfl⟩:=r1
  obtain ⟨t',rfl⟩:=r2
  rw [← ziv]
  exact EqAt.int_int _ _ _ _
instance : Rep Bool where
 dec:=instDecidableEqBool
 depth:=0
 has:=fun _ _ i v=>v = .bl i
 mono:=fun _ h=>h
 inj:=fun _ h1 h2=>V.bl.inj (h1.symm.trans h2)
 rc:=fun {_ _ _ _ _ _ a b _ _ _ _} _ _ h1 h2 r1 r2=>by
  subst h1 h2
  cases r1
  cases r2
  have e : (a == b) = (instDecidableEqBool a b).decide:=by cases a <;> cases b <;> rfl
  rw [← e]
  exact RcAt.bool_bool _ _
 rn:=fun {_ _ _ _ _ _ a b _ _ _ _} _ _ h1 h2 r1 r2=>by
  subst h1 h2
  cases r1
  cases r2
  have e : (a == b) = (instDecidableEqBool a b).decide:=by cases a <;> cases b <;> rfl
  rw [← e]
  exact RcNeAt.bool_bool _ _
 eq:=fun {_ _ _ _ _ _ a b _ _ _ _} _ _ h1 h2 r1 r2=>by
  subst h1 h2
  cases r1
  cases r2
  have e : (a == b) = (instDecidableEqBool a b).decide:=by cases a <;> cases b <;> rfl
  rw [← e]
  exact EqAt.bool_bool _ _
def zak {α : Type} [Rep α] (K : PySem.W.Frag) (H : Hp) : List α→List V→Prop:=Paired (Rep.has K H)
section
variable {α : Type} [Rep α] {K : PySem.W.Frag} {H H' : Hp}
theorem zak.mono (e : Ext H H') : ∀ {as : List α} {xs : List V},zak K H as xs→zak K H' as xs
 | _,_,.nil=>.nil
 | _,_,.cons h t=>.cons (Rep.mono e h) (zak.mono e t)
theorem zak.length {as : List α} {xs : List V} (h : zak K H as xs) : as.length = xs.length:=Paired.length h
theorem zak.get : ∀ {as : List α} {xs : List V} {i : Nat} {x : V},zak K H as xs→xs[i]? = some x→∃ a,as[i]? = some a∧Rep.has K H a x
 | _,_,_,_,.nil,e=>by simp at e
 | _,_,0,_,.cons h _,e=>by simp at e; subst e; exact ⟨_,rfl,h⟩
 | _,_,i + 1,x,.cons _ t,e=>by
  obtain ⟨a,h1,h2⟩:=zak.get (i:=i) (x:=x) t (by simpa using e)
  exact ⟨a,by simpa using h1,h2⟩
theorem zak.append : ∀ {as bs : List α} {xs ys : List V},zak K H as xs→zak K H bs ys→zak K H (as ++ bs) (xs ++ ys)
 | _,_,_,_,.nil,s=>s
 | _,_,_,_,.cons r t,s=>.cons r (zak.append t s)
theorem zak.take : ∀ {as : List α} {xs : List V} (n : Nat),zak K H as xs→zak K H (as.take n) (xs.take n)
 | _,_,0,_=>.nil
 | _,_,_ + 1,.nil=>.nil
 | _,_,n + 1,.cons r t=>.cons r (zak.take n t)
theorem zak.drop : ∀ {as : List α} {xs : List V} (n : Nat),zak K H as xs→zak K H (as.drop n) (xs.drop n)
 | _,_,0,r=>r
 | _,_,_ + 1,.nil=>.nil
 | _,_,n + 1,.cons _ t=>zak.drop n t
theorem zak.one {a : α} {x : V} (h : Rep.has K H a x) : zak K H [a] [x]:=.cons h .nil
theorem zak.ints : ∀ {ns : List Int},zak K H ns (ns.map V.int)
 | []=>.nil
 | _ :: _=>.cons rfl zak.ints
theorem zak.toInts : ∀ {ns : List Int} {xs : List V},zak K H ns xs→xs = ns.map V.int
 | [],_,.nil=>rfl
 | n :: ns,_,.cons h t=>by
  have e : _ = V.int n:=h
  rw [e,zak.toInts t]
  rfl
theorem zak.inj {X : Cx} {pins : List (Addr×Obj)} {σ : St} {s : Shared} (I : Inv X pins σ H s) : ∀ {as bs : List α} {xs : List V},zak X.K H as xs→zak X.K H bs xs→as = bs
 | _,_,_,.nil,.nil=>rfl
 | _,_,_,.cons h t,.cons h' t'=>by rw [Rep.inj I h h',zak.inj I t t']
end
theorem zet {α : Type} [DecidableEq α] : ∀ (as bs : List α),as.length = bs.length→((List.range as.length).all fun j=>decide (as[j]? = bs[j]?)) = decide (as = bs):=by
 intro as bs hl
 by_cases h : as = bs
 ·subst h
  simp
 ·rw [decide_eq_false h,List.all_eq_false]
  false_or_by_contra
  rename_i z
  apply h
  apply List.ext_getElem?
  intro i
  by_cases hi : i < as.length
  ·false_or_by_contra
   rename_i q
   exact z ⟨i,List.mem_range.mpr hi,by simpa using q⟩
  ·rw [List.getElem?_eq_none (by omega),List.getElem?_eq_none (by omega)]
section
variable {α : Type} [r : Rep α]
theorem zcD {A : Around} : A.in1.units≤A.units + 1:=by
 first
  | exact Nat.le_refl _
  | (unfold Around.in1; simp)
theorem ze3 {X : Cx} {pins : List (Addr×Obj)} {σ : St} {H : Hp} {s : Shared} {A : Around} {as bs : List α} {xs ys : List V} {us vs : List Value} (I : Inv X pins σ H s) (hu : A.units + Rep.depth α < cLine)
  (h1 : zak X.K H as xs) (h2 : zak X.K H bs ys) (r1 : Vals xs us) (r2 : Vals ys vs) : ∀ j (q1 : j < us.toArray.size) (q2 : j < vs.toArray.size),EqAt A s us.toArray[j] vs.toArray[j] (decide (as[j]? = bs[j]?)):=by
 intro j q1 q2
 have l1:=r1.length
 have l2:=r2.length
 have m1:=h1.length
 have m2:=h2.length
 have j1 : j < us.length:=by simpa using q1
 have j2 : j < vs.length:=by simpa using q2
 obtain ⟨a,ea,ha⟩:=h1.get (i:=j) (List.getElem?_eq_getElem (by omega))
 obtain ⟨b,eb,hb⟩:=h2.get (i:=j) (List.getElem?_eq_getElem (by omega))
 obtain ⟨u,eu,ru⟩:=r1.get (i:=j) (List.getElem?_eq_getElem (by omega))
 obtain ⟨v,ev,rv⟩:=r2.get (i:=j) (List.getElem?_eq_getElem (by omega))
 have gu : us.toArray[j] = u:=by
  have : us[j]? = some us[j]:=List.getElem?_eq_getElem j1
  rw [eu] at this
  simpa using (Option.some.inj this).symm
 have gv : vs.toArray[j] = v:=by
  have : vs[j]? = some vs[j]:=List.getElem?_eq_getElem j2
  rw [ev] at this
  simpa using (Option.some.inj this).symm
 rw [gu,gv,ea,eb]
 have e : decide (some a = some b) = (Rep.dec a b).decide:=by
  by_cases z : a = b
  ·subst z; simp
  ·rw [decide_eq_false (fun q=>z (Option.some.inj q))]; exact (decide_eq_false z).symm
 rw [e]
 exact Rep.eq I hu ha hb ru rv
end
def hasL {α : Type} [Rep α] (K : PySem.W.Frag) (H : Hp) (as : List α) (v : V) : Prop:=∃ a xs,v = .ref a∧SqL K H a xs∧zak K H as xs
section
variable {α : Type} [r : Rep α] {X : Cx} {pins : List (Addr×Obj)} {σ : St} {H : Hp} {s : Shared} {A : Around} {as bs : List α} {x y : V} {u v : Value}
theorem znb (I : Inv X pins σ H s) (h1 : hasL X.K H as x) (h2 : hasL X.K H bs x) : as = bs:=by
 obtain ⟨a,xs,rfl,q1,h1⟩:=h1
 obtain ⟨b,ys,e,q2,h2⟩:=h2
 cases e
 rw [I.list_inj q2 q1] at h2
 exact h1.inj I h2
theorem zlL (I : Inv X pins σ H s) (hu : A.units + (Rep.depth α + 1) < cLine) (h1 : hasL X.K H as x) (h2 : hasL X.K H bs y) (r1 : RelV x u) (r2 : RelV y v) : RcAt A s u v (decide (as = bs)):=by
 obtain ⟨a,xs,rfl,q1,h1⟩:=h1
 obtain ⟨b,ys,rfl,q2,h2⟩:=h2
 cases r1
 cases r2
 obtain ⟨us,ru,pu,_⟩:=I.list q1
 obtain ⟨vs,rv,pv,_⟩:=I.list q2
 have l1:=ru.length
 have l2:=rv.length
 have m1:=h1.length
 have m2:=h2.length
 have hin : A.in1.units + Rep.depth α < cLine:=Nat.lt_of_le_of_lt (Nat.add_le_add_right zcD _) (by omega)
 by_cases hl : as.length = bs.length
 ·have e:=zet as bs hl
  rw [← e]
  have z : as.length = us.toArray.size:=by simp; omega
  rw [z]
  exact RcAt.lists pu.isList pv.isList (by simp; omega) (by omega) (ze3 I hin h1 h2 ru rv)
 ·rw [decide_eq_false (fun z=>hl (by rw [z]))]
  exact RcAt.lists_lengths pu.isList pv.isList (by simp; omega) (by omega)
theorem hasL_rn (I : Inv X pins σ H s) (hu : A.units + (Rep.depth α + 1) < cLine) (h1 : hasL X.K H as x) (h2 : hasL X.K H bs y) (r1 : RelV x u) (r2 : RelV y v) : RcNeAt A s u v (!decide (as = bs)):=by
 obtain ⟨a,xs,rfl,q1,h1⟩:=h1
 obtain ⟨b,ys,rfl,q2,h2⟩:=h2
 cases r1
 cases r2
 obtain ⟨us,ru,pu,_⟩:=I.list q1
 obtain ⟨vs,rv,pv,_⟩:=I.list q2
 have l1:=ru.length
 have l2:=rv.length
 have m1:=h1.length
 have m2:=h2.length
 have hin : A.in1.units + Rep.depth α < cLine:=Nat.lt_of_le_of_lt (Nat.add_le_add_right zcD _) (by omega)
 by_cases hl : as.length = bs.length
 ·have e:=zet as bs hl
  rw [← e]
  have z : as.length = us.toArray.size:=by simp; omega
  rw [z]
  exact RcNeAt.lists pu.isList pv.isList (by simp; omega) (by omega) (ze3 I hin h1 h2 ru rv)
 ·rw [decide_eq_false (fun z=>hl (by rw [z])),Bool.not_false]
  exact RcNeAt.lists_lengths pu.isList pv.isList (by simp; omega) (by omega)
theorem hasL_eq (I : Inv X pins σ H s) (hu : A.units + (Rep.depth α + 1) < cLine) (h1 : hasL X.K H as x) (h2 : hasL X.K H bs y) (r1 : RelV x u) (r2 : RelV y v) : EqAt A s u v (decide (as = bs)):=by
 have rc:=zlL (A:=A) I hu h1 h2 r1 r2
 obtain ⟨a,xs,rfl,q1,h1⟩:=h1
 obtain ⟨b,ys,rfl,q2,h2⟩:=h2
 cases r1
 cases r2
 by_cases hab : a = b
 ·subst hab
  rw [I.list_inj q2 q1] at h2
  rw [decide_eq_true (h1.inj I h2)]
  exact EqAt.same _
 ·exact EqAt.of_refs hab rc
end
instance {α : Type} [Rep α] : Rep (List α) where
 dec:=inferInstance
 depth:=Rep.depth α + 1
 has:=hasL
 mono:=fun e ⟨a,xs,h1,h2,h3⟩=>⟨a,xs,h1,h2.ext e,h3.mono e⟩
 inj:=fun I h1 h2=>znb I h1 h2
 rc:=fun I hu h1 h2 r1 r2=>zlL I hu h1 h2 r1 r2
 rn:=fun I hu h1 h2 r1 r2=>hasL_rn I hu h1 h2 r1 r2
 eq:=fun I hu h1 h2 r1 r2=>hasL_eq I hu h1 h2 r1 r2
def hasP {α β : Type} [Rep α] [Rep β] (K : PySem.W.Frag) (H : Hp) (p : α×β) (v : V) : Prop:=∃ a x y,v = .ref a∧H a = some (.tup [x,y])∧Rep.has K H p.1 x∧Rep.has K H p.2 y
section
variable {α β : Type} [ra : Rep α] [rb : Rep β] {X : Cx} {pins : List (Addr×Obj)} {σ : St} {H : Hp} {s : Shared} {A : Around} {p q : α×β} {x y : V} {u v : Value}
theorem zjo (I : Inv X pins σ H s) (h1 : hasP X.K H p x) (h2 : hasP X.K H q x) : p = q:=by
 obtain ⟨a,x1,x2,rfl,q1,e1,e2⟩:=h1
 obtain ⟨b,y1,y2,e,q2,f1,f2⟩:=h2
 cases e
 have z:=I.tuple_inj (SqT.of q2) (SqT.of q1)
 cases z
 have g1:=Rep.inj I e1 f1
 have g2:=Rep.inj I e2 f2
 obtain ⟨p1,p2⟩:=p
 obtain ⟨s1,s2⟩:=q
 cases g1
 cases g2
 rfl
theorem zlK (I : Inv X pins σ H s) (hu : A.units + (Rep.depth α + Rep.depth β + 1) < cLine) (h1 : hasP X.K H p x) (h2 : hasP X.K H q y) (r1 : RelV x u) (r2 : RelV y v) : RcAt A s u v (decide (p = q)):=by
 obtain ⟨a,x1,x2,rfl,q1,e1,e2⟩:=h1
 obtain ⟨b,y1,y2,rfl,q2,f1,f2⟩:=h2
 cases r1
 cases r2
 obtain ⟨us,ru,pu,_⟩:=I.tuple (SqT.of q1)
 obtain ⟨vs,rv,pv,_⟩:=I.tuple (SqT.of q2)
 obtain ⟨u1,u2,rfl,ru1,ru2⟩:=zgW ru
 obtain ⟨v1,v2,rfl,rv1,rv2⟩:=zgW rv
 have hin : ∀ n,n≤Rep.depth α + Rep.depth β→A.in1.units + n < cLine:=fun n hn=>Nat.lt_of_le_of_lt (Nat.add_le_add_right zcD _) (by omega)
 have c1:=Rep.eq (A:=A.in1) I (hin _ (by omega)) e1 f1 ru1 rv1
 have c2:=Rep.eq (A:=A.in1) I (hin _ (by omega)) e2 f2 ru2 rv2
 have:=RcAt.tuples (A:=A) (s:=s) (l:=a) (b:=b) (items:=#[u1,u2]) (items2:=#[v1,v2]) (e:=fun j=>if j = 0 then (Rep.dec p.1 q.1).decide else (Rep.dec p.2 q.2).decide) pu pv (by omega) (by
  intro j h1 h2
  have h1' : j < 2:=h1
  have z : j = 0∨j = 1:=by omega
  rcases z with rfl | rfl
  ·exact c1
  ·exact c2)
 have e : ((List.range (min (#[u1,u2] : Array Value).size (#[v1,v2] : Array Value).size)).all (fun j=>if j = 0 then (Rep.dec p.1 q.1).decide else (Rep.dec p.2 q.2).decide) && (#[u1,u2] : Array Value).size == (#[v1,v2] : Array Value).size) = decide (p = q):=by
  obtain ⟨p1,p2⟩:=p
  obtain ⟨s1,s2⟩:=q
  show (((List.range 2).all fun j=>if j = 0 then (Rep.dec p1 s1).decide else (Rep.dec p2 s2).decide) && true) = _
  rw [show List.range 2 = [0,1] from rfl]
  simp only [List.all_cons,List.all_nil,Bool.and_true,if_true]
  rw [if_neg (by decide)]
  by_cases z1 : p1 = s1
  ·by_cases z2 : p2 = s2
   ·subst z1 z2; simp
   ·subst z1; simp [z2]
  ·simp [z1]
 rw [e] at this
 exact this
theorem hasP_rn (I : Inv X pins σ H s) (hu : A.units + (Rep.depth α + Rep.depth β + 1) < cLine) (h1 : hasP X.K H p x) (h2 : hasP X.K H q y) (r1 : RelV x u) (r2 : RelV y v) : RcNeAt A s u v (!decide (p = q)):=by
 obtain ⟨a,x1,x2,rfl,q1,e1,e2⟩:=h1
 obtain ⟨b,y1,y2,rfl,q2,f1,f2⟩:=h2
 cases r1
 cases r2
 obtain ⟨us,ru,pu,_⟩:=I.tuple (SqT.of q1)
 obtain ⟨vs,rv,pv,_⟩:=I.tuple (SqT.of q2)
 obtain ⟨u1,u2,rfl,ru1,ru2⟩:=zgW ru
 obtain ⟨v1,v2,rfl,rv1,rv2⟩:=zgW rv
 have hin : ∀ n,n≤Rep.depth α + Rep.depth β→A.in1.units + n < cLine:=fun n hn=>Nat.lt_of_le_of_lt (Nat.add_le_add_right zcD _) (by omega)
 have c1:=Rep.eq (A:=A.in1) I (hin _ (by omega)) e1 f1 ru1 rv1
 have c2:=Rep.eq (A:=A.in1) I (hin _ (by omega)) e2 f2 ru2 rv2
 have:=RcNeAt.tuples (A:=A) (s:=s) (l:=a) (b:=b) (items:=#[u1,u2]) (items2:=#[v1,v2]) (e:=fun j=>if j = 0 then (Rep.dec p.1 q.1).decide else (Rep.dec p.2 q.2).decide) pu pv (by omega) (by
  intro j h1 h2
  have h1' : j < 2:=h1
  have z : j = 0∨j = 1:=by omega
  rcases z with rfl | rfl
  ·exact c1
  ·exact c2)
 have e : ((List.range (min (#[u1,u2] : Array Value).size (#[v1,v2] : Array Value).size)).all (fun j=>if j = 0 then (Rep.dec p.1 q.1).decide else (Rep.dec p.2 q.2).decide) && (#[u1,u2] : Array Value).size == (#[v1,v2] : Array Value).size) = decide (p = q):=by
  obtain ⟨p1,p2⟩:=p
  obtain ⟨s1,s2⟩:=q
  show (((List.range 2).all fun j=>if j = 0 then (Rep.dec p1 s1).decide else (Rep.dec p2 s2).decide) && true) = _
  rw [show List.range 2 = [0,1] from rfl]
  simp only [List.all_cons,List.all_nil,Bool.and_true,if_true]
  rw [if_neg (by decide)]
  by_cases z1 : p1 = s1
  ·by_cases z2 : p2 = s2
   ·subst z1 z2; simp
   ·subst z1; simp [z2]
  ·simp [z1]
 rw [e] at this
 exact this
theorem hasP_eq (I : Inv X pins σ H s) (hu : A.units + (Rep.depth α + Rep.depth β + 1) < cLine) (h1 : hasP X.K H p x) (h2 : hasP X.K H q y) (r1 : RelV x u) (r2 : RelV y v) : EqAt A s u v (decide (p = q)):=by
 have rc:=zlK (A:=A) I hu h1 h2 r1 r2
 have h1':=id h1
 have h2':=id h2
 obtain ⟨a,x1,x2,rfl,q1,e1,e2⟩:=h1
 obtain ⟨b,y1,y2,rfl,q2,f1,f2⟩:=h2
 cases r1
 cases r2
 by_cases hab : a = b
 ·subst hab
  rw [decide_eq_true (zjo I h1' h2')]
  exact EqAt.same _
 ·exact EqAt.of_refs hab rc
end
instance {α β : Type} [Rep α] [Rep β] : Rep (α×β) where
 dec:=inferInstance
 depth:=Rep.depth α + Rep.depth β + 1
 has:=hasP
 mono:=fun e ⟨a,x,y,h1,h2,h3,h4⟩=>⟨a,x,y,h1,e _ _ h2 (fun _ z=>nomatch z),Rep.mono e h3,Rep.mono e h4⟩
 inj:=fun I h1 h2=>zjo I h1 h2
 rc:=fun I hu h1 h2 r1 r2=>zlK I hu h1 h2 r1 r2
 rn:=fun I hu h1 h2 r1 r2=>hasP_rn I hu h1 h2 r1 r2
 eq:=fun I hu h1 h2 r1 r2=>hasP_eq I hu h1 h2 r1 r2
theorem huD {A : Around} {k : Nat} {α : Type} [Rep α] (hr : Room k A) (h : Rep.depth α≤64:=by decide) : A.units + Rep.depth α < cLine:=Nat.lt_of_le_of_lt (Nat.add_le_add_left h _) hr.units
def rEqD (α : Type) [Rep α] (K : PySem.W.Frag) : R2:=fun x y H Q=>∃ a b : α,Rep.has K H a x∧Rep.has K H b y∧Q (.bl (decide (a = b))) H
def rNeD (α : Type) [Rep α] (K : PySem.W.Frag) : R2:=fun x y H Q=>∃ a b : α,Rep.has K H a x∧Rep.has K H b y∧Q (.bl (!decide (a = b))) H
section
variable {X : Cx}
theorem op_eqD (α : Type) [Rep α] (hu : X.A.units + Rep.depth α < cLine) : OpR X (compareOp .Eq) (rEqD α X.K):=by
 intro pins s σ H x y v u Q I rx ry h
 obtain ⟨a,b,ha,hb,q⟩:=h
 refine Rep.rc I hu ha hb rx ry X.prog X.w X.xe _ ⟨.bl _,H,I,rfl,?_⟩
 have e : (Rep.dec a b).decide = decide (a = b):=rfl
 rw [e]
 exact q
theorem zeA (α : Type) [Rep α] (hu : X.A.units + Rep.depth α < cLine) : OpR X (compareOp .NotEq) (rNeD α X.K):=by
 intro pins s σ H x y v u Q I rx ry h
 obtain ⟨a,b,ha,hb,q⟩:=h
 refine Rep.rn I hu ha hb rx ry X.prog X.w X.xe _ ⟨.bl _,H,I,rfl,?_⟩
 have e : (Rep.dec a b).decide = decide (a = b):=rfl
 rw [e]
 exact q
end
end L2
namespace L2
open PySem PySem.Spec PyProof.Rows
section
variable {X : Cx} {pins : List (Addr×Obj)} {σ : St} {H : Hp} {s : Shared} {h' : Heap}
theorem Inv.turnedNew {t' : Nat} {fp : List Addr} {p : Addr} {o : HO} (I : Inv X pins σ H s) (k : ∀ b ob,b∉fp→s.heap.get? b = some ob→h'.get? b = some ob) (hf : ∀ b∈fp,FpOk X pins H b)
  (hp : s.heap.objs.size≤p) (new : zbl X.prog X.w (upd H p o) h' p o) : Inv X pins σ (upd H p o) { s with heap:=h',toks:=t' }:=by
 have hn : H p = none:=I.hok.fresh hp
 have nfp : ∀ b u,H b = some u→b∉fp:=fun b u e z=>by rw [(hf b z).1] at e; cases e
 have nep : ∀ b ob,s.heap.get? b = some ob→b≠p:=fun b ob e=>Nat.ne_of_lt (Nat.lt_of_lt_of_le (Heap.lt_size e) hp)
 refine I.step (g':=s.gens) (d':=s.drawn) (ch:=fp) (fun b hb=>?_) (fun b ob _ _ hc e _=>k b ob hc e) (fun b ob _ _ hc e _=>⟨ob.slots,k b ob hc e⟩) (fun b ob _ e n=>by rw [zag (nep b ob e)]; exact n)
  (fun b ob hc e=>⟨ob,k b ob hc e⟩) (fun b xs e=>by rw [zag (zab e hn)]; exact e) (fun b ob u e=>by rw [zag (zab e hn)]; exact e) (fun b ps e=>⟨#[],by rw [zag (zab e hn),e]; simp⟩) (fun m hm=>?_) (fun b u e=>?_) I.bare
 ·obtain ⟨_,h2,_,h4,h5,h6⟩:=hf b hb
  exact ⟨h4,h2,h5,h6⟩
 ·obtain ⟨ob,es,ep,ho,r⟩:=hm
  exact ⟨ob,es,ep,k _ ob (fun z=>(hf _ z).2.1 rfl) ho,r⟩
 ·by_cases hb : b = p
  ·subst hb; rw [zac] at e; cases e; exact new
  ·rw [zag hb] at e
   refine (I.hok b u e).stay (fun c v hc q=>k c v ?_ q) (fun c q=>by rw [zag (zab q hn)]; exact q) fun c xs q=>by rw [zag (zab q hn)]; exact q
   rcases hc with z | z
   ·rw [z]; exact nfp b u e
   ·exact nfp c _ z
theorem zkt {P : Program} {w : World} {H : Hp} {h : Heap} {p : Addr} {x y : V} {u v : Value} (rx : RelV x u) (ry : RelV y v) (e : h.get? p = some { cls:=.type "tuple",data:=.seq #[u,v] }) : zbl P w H h p (.tup [x,y]):=
 ⟨by show 2≤sizeLine; decide,[u,v],.cons rx (.cons ry .nil),_,e,rfl,0,rfl⟩
end
def Ite (K : PySem.W.Frag) (a : Addr) : It:=
 ⟨fun i H=>∃ xs x,SqL K H a xs∧xs[i]? = some x,fun i H x H'=>∃ p y,x = .ref p∧H p = none∧(∀ xs,SqL K H a xs→xs[i]? = some y)∧H' = upd H p (.tup [.int i,y]),fun i H=>∃ xs,SqL K H a xs∧xs.length≤i⟩
theorem zkq {P : Program} {w : World} {K : PySem.W.Frag} {es : List Expr} {k0} {pos : Pos} (a it e : Addr) (hne : e≠it) : Turn P w K (.Tuple es k0 pos) (Ite K a) [e,it] e (fun i h=>(∃ old,IsEnum h e it i old)∧h.IsListIter it a i) where
 mem:=by simp
 obj:=fun i h st b hb=>by
  obtain ⟨⟨old,he⟩,o,ho,c,d⟩:=st
  rcases List.mem_cons.mp hb with z | z
  ·subst z
   exact ⟨_,he,fun v z=>by cases z⟩
  ·have z:=List.mem_singleton.mp z
   subst z
   exact ⟨o,ho,fun v z=>by rw [d] at z; cases z⟩
 keep:=fun i h h' st k=>by
  obtain ⟨⟨old,he⟩,hi⟩:=st
  exact ⟨⟨old,k e (by simp) _ he⟩,hi.at fun o q=>k it (by simp) o q⟩
 item:=by
  intro X hP hw hK hc i pins s σ H E I hf st hg
  subst hP hw hK
  obtain ⟨⟨old,he⟩,hi⟩:=st
  obtain ⟨xs,x,hq,hx⟩:=hg
  obtain ⟨its,rv,p,hz⟩:=I.list hq
  obtain ⟨u,hu,ru⟩:=rv.get hx
  refine wpAny_pyNext_enum_item he hi p.isList (x:=u) (by simpa using hu) hne fun h1 he1 hi1 ht1 _ k1=>?_
  refine ⟨_,rfl,wpAny_letOwnedTupleGo_enum (s:={ s with heap:=h1,toks:=s.toks + 1 }) he1 fun h2 he2 sb=>?_⟩
  have np : s.heap.objs.size≠e:=Nat.ne_of_gt (Heap.lt_size he)
  have ht2 : h2.get? s.heap.objs.size = some { cls:=.type "tuple",data:=.seq #[.int i s.toks,u] }:=(sb.2 _ np).trans ht1
  have I2 : Inv X pins σ (upd H s.heap.objs.size (.tup [.int i,x])) { s with heap:=h2,toks:=s.toks + 1 }:=
   I.turnedNew (fp:=[e,it]) (fun b ob hb q=>(sb.2 b (fun z=>hb (by simp [z]))).trans (k1 b ob (fun z=>hb (by simp [z])) (fun z=>hb (by simp [z])) q)) hf (Nat.le_refl _) (zkt ⟨_,rfl⟩ ru ht2)
  refine ⟨.ref s.heap.objs.size,_,I2,rfl,⟨_,x,rfl,I.hok.fresh (Nat.le_refl _),fun ys hy=>by rw [I.list_inj hy hq]; exact hx,rfl⟩,⟨⟨u,?_⟩,?_⟩,fun b hb=>?_⟩
  ·have z : IsEnum h2 e it ((i : Int) + 1) u:=he2
   exact z
  ·exact hi1.at fun o q=>(sb.2 it (Ne.symm hne)).trans q
  ·have z:=(hf b hb).1
   rw [zag ?_]
   ·exact z
   ·rcases List.mem_cons.mp hb with q | q
    ·rw [q]; exact Ne.symm np
    ·rw [List.mem_singleton.mp q]
     obtain ⟨o,ho,_⟩:=hi
     exact Nat.ne_of_lt (Heap.lt_size ho)
 done:=by
  intro X hP hw hK hc i pins s σ H E I hf st hg
  subst hP hw hK
  obtain ⟨⟨old,he⟩,hi⟩:=st
  obtain ⟨xs,hq,hx⟩:=hg
  obtain ⟨its,rv,p,hz⟩:=I.list hq
  obtain ⟨f0,f1,f2,f3,f4,f5⟩:=hf it (by simp)
  have hl:=rv.length
  exact wpAny_pyNext_enum_end (I.ok.hd hc) he hi p.isList (by simp; omega) fun h' eb=>⟨rfl,I.turned (t':=s.toks) (fun b o hb q=>eb b o hb q) f0 f1 f3 f4 f5⟩
 self:=fun _ _ _ _ _ st h=>by
  obtain ⟨⟨old,he⟩,_⟩:=st
  exact wpAny_pyIter_enum he h
def iEnum (K : PySem.W.Frag) (ta : TA) : TI:=fun σ H R=>ta σ H fun vs H1=>∃ a,vs = [.ref a]∧(∃ xs,SqL K H1 a xs)∧R (Ite K a) H1
section
variable {X : Cx}
theorem zde {es : List Expr} {k0} {tp : Pos} {a : Expr} {ta : TA} {p pos : Pos} (hg : Gl X "enumerate") (hm : X.mg "enumerate" = none) (ha : PA X [a] ta) (hs : starEach [a] X.env = [(false,eval a X.env)]:=by rfl) : PI X (.Tuple es k0 tp) (.Call (.Name "enumerate" p) [a] [] pos) (iEnum X.K ta):=by
 intro pins s σ H R I h
 refine Call_ (zeh I hg hm boot_enumerate (PyProof.Rows.callWith_type1 (thn (ha pos pins s σ H _ I h) fun us s1 ⟨vs,H1,I1,r1,q1⟩=>?_) hs rfl))
 obtain ⟨l,e,⟨xs,hq⟩,q⟩:=q1
 subst e
 cases r1 with
 | cons r rr=>
  cases rr
  cases r
  obtain ⟨its,rv,pl,hz⟩:=I1.list hq
  refine call_enumerate_list pl.isList fun h' he hi _ hk=>?_
  have I2 : Inv X pins σ H1 { s1 with heap:=h' }:=I1.kept (t':=s1.toks) hk
  refine wpAny_pyIter_enum (s:={ s1 with heap:=h' }) he ⟨_,[s1.heap.objs.size + 1,s1.heap.objs.size],_,_,H1,rfl,I2,zkq l s1.heap.objs.size (s1.heap.objs.size + 1) (Nat.succ_ne_self _),⟨⟨_,he⟩,hi⟩,fun b hb=>?_,q⟩
  have hb' : s1.heap.objs.size≤b:=by
   rcases List.mem_cons.mp hb with z | z
   ·rw [z]; exact Nat.le_succ _
   ·rw [List.mem_singleton.mp z]; exact Nat.le_refl _
  exact I1.fpOk hb' (I1.hok.fresh hb')
end
theorem zgH {K : PySem.W.Frag} {a : Addr} {xs : List V} {g : TG} {tb : TS} {D : Ends} {σ : St} {H : Hp} (Pv : Nat→St→Hp→Prop) (h0 : Pv 0 σ H) (hl : ∀ i σ H,i≤xs.length→Pv i σ H→SqL K H a xs)
  (hs : ∀ i x σ H p,xs[i]? = some x→Pv i σ H→H p = none→g (.ref p) σ (upd H p (.tup [.int i,x])) fun σ2 H2=>tb { D with nx:=Pv (i + 1),ct:=Pv (i + 1),bk:=D.nx } σ2 H2) (hd : ∀ σ H,Pv xs.length σ H→D.nx σ H) :
  ∃ W : Nat→Nat→St→Hp→Prop,(∃ m,W 0 m σ H)∧∀ i m σ H,W i m σ H→((Ite K a).stop i H∧D.nx σ H)∨((Ite K a).go i H∧∃ N : St→Hp→Prop,(∀ σ' H',N σ' H'→∃ m',m' < m∧W (i + 1) m' σ' H')∧∀ x H',(Ite K a).yld i H x H'→g x σ H' fun σ2 H2=>tb { D with nx:=N,ct:=N,bk:=D.nx } σ2 H2):=by
 refine ⟨fun i m σ H=>i + m = xs.length∧Pv i σ H,⟨xs.length,by omega,h0⟩,fun i m σ H ⟨e,pv⟩=>?_⟩
 have hS:=hl i σ H (by omega) pv
 by_cases hi : i < xs.length
 ·refine .inr ⟨⟨xs,xs[i],hS,List.getElem?_eq_getElem hi⟩,Pv (i + 1),fun σ' H' q=>⟨m - 1,by omega,by omega,q⟩,fun x H' y=>?_⟩
  obtain ⟨p,z,rfl,hp,hz,rfl⟩:=y
  exact hs i z σ H p (hz xs hS) pv hp
 ·have : i = xs.length:=by omega
  subst this
  exact .inl ⟨⟨xs,hS,Nat.le_refl _⟩,hd σ H pv⟩
def Itz (K : PySem.W.Frag) (a b : Addr) : It:=
 ⟨fun i H=>∃ xs ys x y,SqL K H a xs∧SqL K H b ys∧xs[i]? = some x∧ys[i]? = some y,fun i H x H'=>∃ p y z,x = .ref p∧H p = none∧(∀ xs,SqL K H a xs→xs[i]? = some y)∧(∀ xs,SqL K H b xs→xs[i]? = some z)∧H' = upd H p (.tup [y,z]),fun i H=>∃ xs ys,SqL K H a xs∧SqL K H b ys∧(xs.length≤i∨ys.length≤i)⟩
theorem zmo {P : Program} {w : World} {K : PySem.W.Frag} {es : List Expr} {k0} {pos : Pos} {a b z TI TO i1 i2 : Addr} (D : ZipApart z TI TO i1 i2 a b) : Turn P w K (.Tuple es k0 pos) (Itz K a b) [z,TI,TO,i1,i2] z
  (fun i h=>IsZip h z TI TO .none∧IsPair h TI (.ref i1) (.ref i2)∧(∃ u v,IsPair h TO u v)∧h.IsListIter i1 a i∧h.IsListIter i2 b i) where
 mem:=by simp
 obj:=fun i h st c hc=>by
  obtain ⟨hz,hTI,⟨u,v,hTO⟩,⟨o1,e1,_,d1⟩,⟨o2,e2,_,d2⟩⟩:=st
  simp only [List.mem_cons,List.not_mem_nil,or_false] at hc
  rcases hc with rfl | rfl | rfl | rfl | rfl
  ·exact ⟨_,hz,fun v q=>by cases q⟩
  ·exact ⟨_,hTI,fun v q=>by cases q⟩
  ·exact ⟨_,hTO,fun v q=>by cases q⟩
  ·exact ⟨o1,e1,fun v q=>by rw [d1] at q; cases q⟩
  ·exact ⟨o2,e2,fun v q=>by rw [d2] at q; cases q⟩
 keep:=fun i h h' st k=>by
  obtain ⟨hz,hTI,⟨u,v,hTO⟩,h1,h2⟩:=st
  exact ⟨k z (by simp) _ hz,k TI (by simp) _ hTI,⟨u,v,k TO (by simp) _ hTO⟩,h1.at fun o q=>k i1 (by simp) o q,h2.at fun o q=>k i2 (by simp) o q⟩
 item:=by
  intro X hP hw hK hc i pins s σ H E I hf st hg
  subst hP hw hK
  obtain ⟨hz,hTI,⟨u0,v0,hTO⟩,h1,h2⟩:=st
  obtain ⟨xs,ys,x,y,hqa,hqb,hx,hy⟩:=hg
  obtain ⟨its,rv,p,_⟩:=I.list hqa
  obtain ⟨jts,rw',p',_⟩:=I.list hqb
  obtain ⟨u,hu,ru⟩:=rv.get hx
  obtain ⟨v,hv,rv'⟩:=rw'.get hy
  refine wpAny_pyNext_zip_item D hz hTI hTO h1 h2 p.isList p'.isList (x:=u) (y:=v) (by simpa using hu) (by simpa using hv) fun h1' hz1 hTO1 hi1 hi2 ht1 _ k1=>?_
  refine ⟨_,rfl,wpAny_letOwnedTupleGo_zip (s:={ s with heap:=h1' }) hz1 fun h2' hz2 sb=>?_⟩
  have np : s.heap.objs.size≠z:=Nat.ne_of_gt (Heap.lt_size hz)
  have ht2 : h2'.get? s.heap.objs.size = some { cls:=.type "tuple",data:=.seq #[u,v] }:=(sb.2 _ np).trans ht1
  have I2 : Inv X pins σ (upd H s.heap.objs.size (.tup [x,y])) { s with heap:=h2',toks:=s.toks }:=
   I.turnedNew (fp:=[z,TI,TO,i1,i2]) (fun c ob hb q=>(sb.2 c (fun r=>hb (by simp [r]))).trans (k1 c ob (fun r=>hb (by simp [r])) (fun r=>hb (by simp [r])) (fun r=>hb (by simp [r])) (fun r=>hb (by simp [r])) q)) hf (Nat.le_refl _) (zkt ru rv' ht2)
  refine ⟨.ref s.heap.objs.size,_,I2,rfl,⟨_,x,y,rfl,I.hok.fresh (Nat.le_refl _),fun ys hy'=>by rw [I.list_inj hy' hqa]; exact hx,fun ys hy'=>by rw [I.list_inj hy' hqb]; exact hy,rfl⟩,⟨hz2,(sb.2 _ D.TIz).trans (k1 TI _ D.TIz D.TITO D.TIi1 D.TIi2 hTI),⟨_,_,(sb.2 _ D.TOz).trans hTO1⟩,hi1.at fun o q=>(sb.2 i1 D.i1z).trans q,hi2.at fun o q=>(sb.2 i2 D.i2z).trans q⟩,fun c hb=>?_⟩
  have zf:=(hf c hb).1
  have lt : c < s.heap.objs.size:=by
   simp only [List.mem_cons,List.not_mem_nil,or_false] at hb
   obtain ⟨o1,e1,_⟩:=h1
   obtain ⟨o2,e2,_⟩:=h2
   rcases hb with rfl | rfl | rfl | rfl | rfl
   ·exact Heap.lt_size hz
   ·exact Heap.lt_size hTI
   ·exact Heap.lt_size hTO
   ·exact Heap.lt_size e1
   ·exact Heap.lt_size e2
  rw [zag (Nat.ne_of_lt lt)]
  exact zf
 done:=by
  intro X hP hw hK hc i pins s σ H E I hf st hg
  subst hP hw hK
  obtain ⟨hz,hTI,⟨u0,v0,hTO⟩,h1,h2⟩:=st
  obtain ⟨xs,ys,hqa,hqb,hend⟩:=hg
  obtain ⟨its,rv,p,_⟩:=I.list hqa
  obtain ⟨jts,rw',p',_⟩:=I.list hqb
  have l1:=rv.length
  have l2:=rw'.length
  refine wpAny_pyNext_zip_end (I.ok.hd hc) D hz hTI hTO h1 h2 p.isList p'.isList (by
   rcases hend with q | q
   ·left; simp; omega
   ·right; simp; omega) fun h' kk=>⟨rfl,?_⟩
  refine I.step (g':=s.gens) (d':=s.drawn) (t':=s.toks) (ch:=[z,TI,TO,i1,i2]) (fun c hb=>?_) (fun c ob _ _ hn q _=>kk c ob (fun r=>hn (by simp [r])) (fun r=>hn (by simp [r])) (fun r=>hn (by simp [r])) (fun r=>hn (by simp [r])) q)
   (fun c ob _ _ hn q _=>⟨ob.slots,kk c ob (fun r=>hn (by simp [r])) (fun r=>hn (by simp [r])) (fun r=>hn (by simp [r])) (fun r=>hn (by simp [r])) q⟩) (fun _ _ _ _ n=>n)
   (fun c ob hn q=>⟨ob,kk c ob (fun r=>hn (by simp [r])) (fun r=>hn (by simp [r])) (fun r=>hn (by simp [r])) (fun r=>hn (by simp [r])) q⟩) (fun _ _ q=>q) (fun _ _ _ q=>q) (fun c ps q=>⟨#[],by rw [q]; simp⟩) (fun m hm=>?_) (fun c u e=>?_) I.bare
  ·obtain ⟨_,q2,_,q4,q5,q6⟩:=hf c hb
   exact ⟨q4,q2,q5,q6⟩
  ·obtain ⟨ob,es,ep,ho,r⟩:=hm
   have nL : ∀ c∈[z,TI,TO,i1,i2],X.env.locals≠c:=fun c hc=>Ne.symm (hf c hc).2.1
   exact ⟨ob,es,ep,kk _ ob (nL z (by simp)) (nL TO (by simp)) (nL i1 (by simp)) (nL i2 (by simp)) ho,r⟩
  ·have nf : ∀ c' u,H c' = some u→∀ q∈[z,TI,TO,i1,i2],c'≠q:=fun c' u e q hq r=>by rw [r,(hf q hq).1] at e; cases e
   refine (I.hok c u e).stay (fun c' v hc' q=>?_) (fun _ q=>q) fun _ _ q=>q
   have go : ∀ u',H c' = some u'→h'.get? c' = some v:=fun u' e'=>kk c' v (nf c' _ e' z (by simp)) (nf c' _ e' TO (by simp)) (nf c' _ e' i1 (by simp)) (nf c' _ e' i2 (by simp)) q
   rcases hc' with r | r
   ·exact go u (by rw [r]; exact e)
   ·exact go _ r
 self:=fun _ _ _ _ _ st h=>wpAny_pyIter_zip st.1 h
theorem zki {l l' n : Nat} (hl : l < n) (hl' : l' < n) : ZipApart (n + 4) (n + 2) (n + 3) n (n + 1) l l':=by
 constructor <;> (intro z; have z' : (_ : Nat) = _:=z; omega)
theorem zip_in {n c : Nat} (h : c∈[n + 4,n + 2,n + 3,n,n + 1]) : n≤c:=by
 simp only [List.mem_cons,List.not_mem_nil,or_false] at h
 omega
def iZip (K : PySem.W.Frag) (ta : TA) : TI:=fun σ H R=>ta σ H fun vs H1=>∃ a b,vs = [.ref a,.ref b]∧(∃ xs,SqL K H1 a xs)∧(∃ xs,SqL K H1 b xs)∧R (Itz K a b) H1
section
variable {X : Cx}
theorem znI {es : List Expr} {k0} {tp : Pos} {a b : Expr} {ta : TA} {p pos : Pos} (hg : Gl X "zip") (hm : X.mg "zip" = none) (ha : PA X [a,b] ta) (hs : starEach [a,b] X.env = [(false,eval a X.env),(false,eval b X.env)]:=by rfl) (hs2 : starEach [b] X.env = [(false,eval b X.env)]:=by rfl) : PI X (.Tuple es k0 tp) (.Call (.Name "zip" p) [a,b] [] pos) (iZip X.K ta):=by
 intro pins s σ H R I h
 refine Call_ (zeh I hg hm boot_zip (PyProof.Rows.callWith_type1 (thn (ha pos pins s σ H _ I h) fun us s1 ⟨vs,H1,I1,r1,q1⟩=>?_) (by rw [hs,hs2]) (by rw [hs2]; rfl)))
 obtain ⟨l,l',e,⟨xs,hq⟩,⟨ys,hq'⟩,q⟩:=q1
 subst e
 cases r1 with
 | cons r rr=>
  cases rr with
  | cons r' rr=>
   cases rr
   cases r
   cases r'
   obtain ⟨its,rv,pl,hz⟩:=I1.list hq
   obtain ⟨jts,rv',pl',hz'⟩:=I1.list hq'
   have hl : l < s1.heap.objs.size:=by obtain ⟨o,_,e,_⟩:=pl; exact Heap.lt_size e
   have hl' : l' < s1.heap.objs.size:=by obtain ⟨o,_,e,_⟩:=pl'; exact Heap.lt_size e
   refine call_zip_2 pl.isList pl'.isList fun h' hz hTI hTO hi hi' _ hk=>?_
   have I2 : Inv X pins σ H1 { s1 with heap:=h' }:=I1.kept (t':=s1.toks) hk
   refine wpAny_pyIter_zip (s:={ s1 with heap:=h' }) hz ⟨_,[s1.heap.objs.size + 4,s1.heap.objs.size + 2,s1.heap.objs.size + 3,s1.heap.objs.size,s1.heap.objs.size + 1],_,_,H1,rfl,I2,zmo (zki hl hl'),⟨hz,hTI,⟨_,_,hTO⟩,hi,hi'⟩,fun c hb=>?_,q⟩
   have hb' : s1.heap.objs.size≤c:=zip_in hb
   exact I1.fpOk hb' (I1.hok.fresh hb')
end
end L2
namespace L2
open PySem PySem.Spec PyProof.Rows
def zbx (X : Cx) (N : List Str) (scope : Scope) (cl : List (Str×Addr)) (C : Addr) (s₂ : Shared) (H₂ : Hp) (fp : List Addr) : Cx:=
 { X with N:=N,s₀:=s₂,H₀:=H₂,env:=compEnvC scope cl C X.env,outer:=X.stack,stack:=X.stack,ex:=fp,fn:=fun _=>false,xe:=fun _ _=>False }
structure zhP (scope : Scope) (env : Env) (cl : List (Str×Addr)) : Prop where
 eq : closureFor scope env = pure cl
 sub : ∀ x c,cl.lookup x = some c→env.cells.lookup x = some c
 has : ∀ x,(x,NameKind.free)∈scope.names→∃ c,cl.lookup x = some c
theorem zfC {env : Env} : ∀ (names : List (Str×NameKind)) (cs : List (Str×Addr)),(∀ x,(x,NameKind.free)∈names→∃ c,env.cells.lookup x = some c)→(∀ x c,cs.lookup x = some c→env.cells.lookup x = some c)→
  ∃ cl : List (Str×Addr),(forIn names cs (fun (x : Str×NameKind) (r : List (Str×Addr))=>if (x.2 == NameKind.free) = true then (do let c ← cellOf env x.1; pure (ForInStep.yield ((x.1,c) :: r))) else pure (ForInStep.yield r)) : Sem (List (Str×Addr))) = pure cl∧
   (∀ x c,cl.lookup x = some c→env.cells.lookup x = some c)∧(∀ x c,cs.lookup x = some c→∃ c',cl.lookup x = some c')∧∀ x,(x,NameKind.free)∈names→∃ c,cl.lookup x = some c
 | [],cs,_,h2=>⟨cs,by rw [List.forIn_nil],h2,fun x c e=>⟨c,e⟩,fun _ z=>nomatch z⟩
 | (n,k) :: r,cs,h1,h2=>by
  by_cases hk : k = .free
  ·subst hk
   obtain ⟨c,hc⟩:=h1 n List.mem_cons_self
   have hn : ∀ x c',((n,c) :: cs).lookup x = some c'→env.cells.lookup x = some c':=fun x c' e=>by
    rw [List.lookup_cons] at e
    cases hx : x == n with
    | true=>
     rw [hx] at e
     cases e
     rw [eq_of_beq hx]
     exact hc
    | false=>
     rw [hx] at e
     exact h2 x c' e
   obtain ⟨cl,e,s1,s2,s3⟩:=zfC r ((n,c) :: cs) (fun x hx=>h1 x (List.mem_cons_of_mem _ hx)) hn
   have here : ∃ c',cl.lookup n = some c':=s2 n c (by rw [List.lookup_cons,beq_self_eq_true])
   refine ⟨cl,?_,s1,fun x c' q=>?_,fun x hx=>?_⟩
   ·rw [List.forIn_cons,if_pos (by rfl)]
    have q : cellOf env n = pure c:=by unfold cellOf; rw [hc]
    rw [q]
    simp only [pure_bind]
    exact e
   ·cases hxn : x == n with
    | true=>rw [eq_of_beq hxn]; exact here
    | false=>exact s2 x c' (by rw [List.lookup_cons,hxn]; exact q)
   ·rcases List.mem_cons.mp hx with z | z
    ·cases z; exact here
    ·exact s3 x z
  ·obtain ⟨cl,e,s1,s2,s3⟩:=zfC r cs (fun x hx=>h1 x (List.mem_cons_of_mem _ hx)) h2
   refine ⟨cl,?_,s1,s2,fun x hx=>?_⟩
   ·have hb : (k == NameKind.free) = false:=by simpa using hk
    rw [List.forIn_cons,if_neg (by rw [hb]; exact Bool.false_ne_true)]
    simp only [pure_bind]
    exact e
   ·rcases List.mem_cons.mp hx with z | z
    ·cases z; exact absurd rfl hk
    ·exact s3 x z
theorem zfB {scope : Scope} {env : Env} (h : ∀ x,(x,NameKind.free)∈scope.names→∃ c,env.cells.lookup x = some c) : ∃ cl,zhP scope env cl:=by
 obtain ⟨cl,e,s1,_,s3⟩:=zfC scope.names [] h (fun _ _ z=>nomatch z)
 refine ⟨cl,?_,s1,s3⟩
 unfold closureFor
 exact (by simpa using e)
theorem zb6 {env : Env} : ∀ {names : List (Str×NameKind)} {x : Str},names.lookup x = some .free→
  (names.map fun (n,k)=>if (k == NameKind.free && env.scope.kind == .function && env.kindOf n == some .cell) then (n,NameKind.cell) else (n,k)).lookup x = some .cell∨
  (names.map fun (n,k)=>if (k == NameKind.free && env.scope.kind == .function && env.kindOf n == some .cell) then (n,NameKind.cell) else (n,k)).lookup x = some .free
 | [],_,h=>by simp at h
 | (n,k) :: r,x,h=>by
  have ih:=@zb6 env r x
  show List.lookup x ((if (k == NameKind.free && env.scope.kind == .function && env.kindOf n == some .cell) = true then (n,NameKind.cell) else (n,k)) :: _) = _∨List.lookup x ((if (k == NameKind.free && env.scope.kind == .function && env.kindOf n == some .cell) = true then (n,NameKind.cell) else (n,k)) :: _) = _
  cases hx : x == n with
  | true=>
   simp only [List.lookup_cons,hx] at h
   cases h
   by_cases hc : (NameKind.free == NameKind.free && env.scope.kind == .function && env.kindOf n == some .cell) = true
   ·rw [if_pos hc]; left; simp only [List.lookup_cons,hx]
   ·rw [if_neg hc]; right; simp only [List.lookup_cons,hx]
  | false=>
   simp only [List.lookup_cons,hx] at h
   by_cases hc : (k == NameKind.free && env.scope.kind == .function && env.kindOf n == some .cell) = true
   ·rw [if_pos hc]; simp only [List.lookup_cons,hx]; exact ih h
   ·rw [if_neg hc]; simp only [List.lookup_cons,hx]; exact ih h
theorem zdL {env : Env} : ∀ {names : List (Str×NameKind)} {x : Str} {k' : NameKind},(names.map fun (n,k)=>if (k == NameKind.free && env.scope.kind == .function && env.kindOf n == some .cell) then (n,NameKind.cell) else (n,k)).lookup x = some k'→k' = .cell∨k' = .free→
  (∀ y∈names,y.2≠.cell)→(x,NameKind.free)∈names
 | [],_,_,h,_,_=>by simp at h
 | (n,k) :: r,x,k',h,hk,hc=>by
  have ih:=@zdL env r x k'
  have h' : List.lookup x ((if (k == NameKind.free && env.scope.kind == .function && env.kindOf n == some .cell) = true then (n,NameKind.cell) else (n,k)) :: r.map fun (n,k)=>if (k == NameKind.free && env.scope.kind == .function && env.kindOf n == some .cell) then (n,NameKind.cell) else (n,k)) = some k':=h
  cases hx : x == n with
  | true=>
   have e:=eq_of_beq hx
   subst e
   by_cases hf : k = .free
   ·subst hf; exact List.mem_cons_self
   ·have hb : (k == NameKind.free) = false:=by simpa using hf
    rw [if_neg (by rw [hb]; simp),List.lookup_cons,hx] at h'
    cases h'
    rcases hk with z | z
    ·exact absurd z (hc (x,k) List.mem_cons_self)
    ·exact absurd z hf
  | false=>
   refine List.mem_cons_of_mem _ (ih ?_ hk fun y hy=>hc y (List.mem_cons_of_mem _ hy))
   by_cases hcd : (k == NameKind.free && env.scope.kind == .function && env.kindOf n == some .cell) = true
   ·rw [if_pos hcd,List.lookup_cons,hx] at h'; exact h'
   ·rw [if_neg hcd,List.lookup_cons,hx] at h'; exact h'
def zex (own : Nat) (cap : List Nat) (σ : St) : St:=List.replicate own none ++ cap.map fun i=>(σ[i]?).getD none
structure zjB (X : Cx) (scope : Scope) (N : List Str) (own : Nat) (cap : List Nat) : Prop where
 kind : scope.kind = .function
 nocell : (scope.names.all fun y=>y.2 != .cell) = true
 locs : (scope.names.all fun y=>y.2 != .local || scope.names.lookup y.1 == some .local) = true
 frees : (scope.names.all fun y=>y.2 != .free || (X.env.kindOf y.1 == some .cell || X.env.kindOf y.1 == some .free)) = true
 len : N.length = own + cap.length
 caps : ((List.range cap.length).all fun j=>(N[own + j]? == X.N[cap[j]!]?) && (match N[own + j]? with | some x=>scope.names.lookup x == some .free && (X.env.kindOf x == some .cell || X.env.kindOf x == some .free) | none=>false)) = true
section
variable {prog : Program} {w : World} {A : Around} {R : Result→Shared→Prop} {s : Shared}
theorem zir {elt target iter : Expr} {ifs : List Expr} {scope : Scope} {pos : Pos} {it acc : Value} {env : Env} (I : Nat→Shared→Prop)
  (turn : ∀ n s,I n s→wpAny (model prog w) A (pyNext it) (fun r s₁=>match r with
   | none=>R (.ok .next) s₁
   | some v=>wpAny (model prog w) A (letOwnedTupleGo target it v) (fun _ s₁'=>wpAny (model prog w) A (assign target env v) (fun _ s₂=>
     wpAny (model prog w) A (forIn ifs true fun c r=>if r = true then do let ok ← isTrue c env (eval c env); pure (ForInStep.yield ok) else pure (ForInStep.yield r)) (fun ok s₃=>
      if ok = true then wpAny (model prog w) A (eval elt env) (fun x s₄=>
       wpAny (model prog w) A (call (.builtin "list.append") [acc,x]) (fun _ s₅=>∃ m,m < n∧I m s₅) (fun _ _=>False) s₄) (fun _ _=>False) s₃
      else ∃ m,m < n∧I m s₃) (fun _ _=>False) s₂) (fun _ _=>False) s₁') (fun _ _=>False) s₁) (fun _ _=>False) s)
  (n : Nat) (h : I n s) :
  codeAny (model prog w) A (.compLoop (.ListComp elt [⟨target,iter,ifs,0⟩] scope pos) 0 it acc env) R s:=by
 refine codeAny_loop rfl I (fun n s hI=>?_) n h
 show wpAny _ A ((compTurn (.ListComp elt [⟨target,iter,ifs,0⟩] scope pos) 0 it acc env).onRaise (fun x=>do noteFrame x env; theTreesLotGoes x)) _ _ s
 refine wpAny_noted ?_
 rw [compTurn_list]
 refine wpAny_bind (wpAny_standAt (wpAny_bind (wpAny_mono (turn n s hI) (fun r s₁ h₁=>?_) fun _ _ h'=>h'.elim)))
 cases r with
 | none=>exact wpAny_pure h₁
 | some v=>
  refine wpAny_bind (wpAny_mono h₁ (fun _ s₁' h₁'=>?_) fun _ _ h'=>h'.elim)
  refine wpAny_bind (wpAny_mono h₁' (fun _ s₂ h₂=>wpAny_bind (wpAny_mono h₂ (fun ok s₃ h₃=>?_) fun _ _ h'=>h'.elim)) fun _ _ h'=>h'.elim)
  cases ok with
  | true=>
   simp only [if_true] at h₃ ⊢
   exact wpAny_bind (wpAny_bind (wpAny_mono h₃ (fun x s₄ h₄=>wpAny_bind (wpAny_mono h₄ (fun _ s₅ h₅=>wpAny_pure (wpAny_pure ⟨rfl,h₅⟩)) fun _ _ h'=>h'.elim)) fun _ _ h'=>h'.elim))
  | false=>
   simp only [Bool.false_eq_true,if_false] at h₃ ⊢
   exact wpAny_pure ⟨rfl,h₃⟩
end
section
variable {X : Cx}
def PTs (X : Cx) (ifs : List Expr) (t : TT) : Prop:=
 ∀ (pins : List (Addr×Obj)) (s : Shared) (σ : St) (H : Hp) (Q : Bool→Hp→Prop),Inv X pins σ H s→t σ H Q→
  wpAny (model X.prog X.w) X.A (forIn ifs true fun c r=>if r = true then do let ok ← isTrue c X.env (eval c X.env); pure (ForInStep.yield ok) else pure (ForInStep.yield r)) (TP X pins σ Q) X.xe s
def tYes : TT:=fun _ H Q=>Q true H
theorem zbk : PTs X [] tYes:=fun _ _ _ H _ I h=>wpAny_tests_nil ⟨H,I,h⟩
theorem zc5 {c : Expr} {t : TT} (h : PT X c t) : PTs X [c] t:=fun pins s σ H Q I q=>wpAny_tests_one (h pins s σ H Q I q)
theorem zm7 {pins : List (Addr×Obj)} {σ : St} {H : Hp} {s : Shared} {N : List Str} {own : Nat} {cap : List Nat} {scope : Scope} {cl : List (Str×Addr)} {C : Addr} {fp : List Addr} {h₁ : Heap} {tk : Nat} {D : Addr}
  (I : Inv X pins σ H s) (c : zjB X scope N own cap) (hcl : zhP scope X.env cl) (f : ∀ b∈fp,FpOk X pins H b) (hD : s.heap.objs.size≤D) (hC : s.heap.objs.size≤C) (hCD : D≠C)
  (kp : ∀ b o,s.heap.get? b = some o→h₁.get? b = some o) (hnew : h₁.get? D = some { cls:=.type "list",data:=.seq #[] }) (hns : ∃ m,h₁.Ns C m) (hfp : ∀ b∈fp,b < s.heap.objs.size) (hcalm : X.calm = true) :
  Inv (zbx X N scope cl C s H fp) pins (zex own cap σ) (upd H D (.lst [])) { s with heap:=h₁,toks:=tk }:=by
 have hfr : H D = none:=I.hok.fresh hD
 have hfrC : H C = none:=I.hok.fresh hC
 have sz : ∀ b o,s.heap.get? b = some o→b≠D∧b≠C:=fun b o e=>⟨Nat.ne_of_lt (Nat.lt_of_lt_of_le (Heap.lt_size e) hD),Nat.ne_of_lt (Nat.lt_of_lt_of_le (Heap.lt_size e) hC)⟩
 have cells : ∀ x cc,cl.lookup x = some cc→∃ v,s.heap.IsCell cc v:=fun x cc e=>I.cell x cc (hcl.sub x cc e)
 have cellne : ∀ x cc,cl.lookup x = some cc→cc≠D∧cc≠C:=fun x cc e=>by
  obtain ⟨v,o,ho,_⟩:=cells x cc e
  exact sz cc o ho
 have ok : (zbx X N scope cl C s H fp).Ok:=by
  refine ⟨I.ok.mod,c.kind,I.ok.glob,I.ok.blt,hC,fun x y cc e1 e2=>I.ok.inj x y cc (hcl.sub x cc e1) (hcl.sub y cc e2),fun x hx=>?_,(fun x cc z _=>nomatch z),I.ok.hd,I.ok.frames,.inl rfl,fun b hb=>?_,fun b o e=>I.bs b o e,?_,fun b o e hb=>?_,fun b hb z=>?_,I.stack,fun b hb=>I.stkFree b hb⟩
  ·have hm : (x,NameKind.free)∈scope.names:=by
    rcases hx with z | z
    ·exact zdL (env:=X.env) (names:=scope.names) (x:=x) (k':=.cell) z (.inl rfl) fun y hy q=>by
      have:=List.all_eq_true.mp c.nocell y hy
      rw [q] at this
      exact absurd this (by decide)
    ·exact zdL (env:=X.env) (names:=scope.names) (x:=x) (k':=.free) z (.inr rfl) fun y hy q=>by
      have:=List.all_eq_true.mp c.nocell y hy
      rw [q] at this
      exact absurd this (by decide)
   exact hcl.has x hm
  ·exact ⟨Nat.ne_of_lt (Nat.lt_of_lt_of_le (hfp b hb) hC),fun x cc e z=>(f b hb).2.2.2.2.1 x cc (hcl.sub x cc e) z⟩
  ·exact Nat.le_trans I.ok.bsz I.sz
  ·obtain ⟨_,_,_,h4,_⟩:=f b hb
   rcases h4 with z | z
   ·exact I.ok.noex b o e z
   ·exact absurd (Nat.lt_of_lt_of_le (Heap.lt_size e) (Nat.le_trans I.ok.bsz z)) (Nat.lt_irrefl _)
  ·obtain ⟨_,h2,h3,_⟩:=f b hb
   rcases List.mem_cons.mp (I.stkSub b z) with q | q
   ·exact h2 q
   ·exact h3 q
 have hokN : zbl X.prog X.w (upd H D (.lst [])) h₁ D (.lst []):=⟨Nat.zero_le _,[],0,.nil,hnew⟩
 refine ⟨ok,I.os.symm ▸ rfl,I.bare,Un.laid kp hD hfr,?_,fun x cc e=>?_,?_,fun x cc e=>?_,fun p hp=>?_,I.hok.laid kp hD hokN,?_⟩
 ·obtain ⟨m,hm⟩:=hns
  refine ⟨m,hm,fun i x v e1 e2 e3=>?_⟩
  have hi : own≤i:=by
   false_or_by_contra
   rename_i z
   unfold zex at e2
   rw [List.getElem?_append_left (by rw [List.length_replicate]; omega),List.getElem?_replicate] at e2
   split at e2 <;> cases e2
  obtain ⟨j,rfl⟩ : ∃ j,i = own + j:=⟨i - own,by omega⟩
  have hj : j < cap.length:=by
   have:=(List.getElem?_eq_some_iff.mp e1).1
   have z:=c.len
   have this' : own + j < N.length:=this
   omega
  have hc:=List.all_eq_true.mp c.caps j (List.mem_range.mpr hj)
  have e1' : N[own + j]? = some x:=e1
  rw [e1'] at hc
  simp only [Bool.and_eq_true,beq_iff_eq,Bool.or_eq_true] at hc
  obtain ⟨hN,hf,hk⟩:=hc
  have e2' : σ[cap[j]!]? = some (some v):=by
   unfold zex at e2
   rw [List.getElem?_append_right (by rw [List.length_replicate]; omega),List.length_replicate,show own + j - own = j by omega,List.getElem?_map] at e2
   have g : cap[j]! = cap[j]:=by simp [hj]
   rw [List.getElem?_eq_getElem hj,Option.map_some] at e2
   rw [g]
   have e2:=Option.some.inj e2
   cases q : σ[cap[j]]? with
   | none=>rw [q] at e2; cases e2
   | some z=>rw [q] at e2; exact congrArg some e2
  obtain ⟨m0,_,hl⟩:=I.loc
  obtain ⟨u,ru,lk⟩:=hl (cap[j]!) x v hN.symm e2' (by
   rcases hk with z | z
   ·exact .inr (.inl z)
   ·exact .inr (.inr z))
  refine ⟨u,ru,.inr ⟨zb6 (env:=X.env) hf,?_⟩⟩
  rcases lk with ⟨z,_⟩ | ⟨_,cc,ec,ic⟩
  ·rcases hk with q | q
   ·rw [q] at z; cases z
   ·rw [q] at z; cases z
  ·obtain ⟨c',hc'⟩:=hcl.has x (by
    have : (x,NameKind.free)∈scope.names:=by
     have hlk:=hf
     obtain ⟨l1,l2,hs,hno⟩:=List.lookup_eq_some_iff.mp hlk
     rw [hs]
     exact List.mem_append_right _ List.mem_cons_self
    exact this)
   have:=hcl.sub x c' hc'
   rw [ec] at this
   cases this
   obtain ⟨o,ho,hd⟩:=ic
   exact ⟨cc,hc',o,kp cc o ho,hd⟩
 ·obtain ⟨v,o,ho,hd⟩:=cells x cc e
  exact ⟨v,o,kp cc o ho,hd⟩
 ·show upd H D (.lst []) C = none
  rw [zag (Ne.symm hCD)]
  exact hfrC
 ·show upd H D (.lst []) cc = none
  rw [zag (cellne x cc e).1]
  exact I.freeC x cc (hcl.sub x cc e)
 ·obtain ⟨e,n,ne,nf,d⟩:=I.pin p hp
  refine ⟨kp _ _ e,?_,(sz _ _ e).2,fun z=>?_,d⟩
  ·show upd H D (.lst []) p.1 = none
   rw [zag (sz _ _ e).1]
   exact n
  ·rcases List.mem_cons.mp (I.stkSub p.1 z) with q | q
   ·exact ne q
   ·exact nf q
 ·show (zex own cap σ).length = N.length
  unfold zex
  rw [List.length_append,List.length_replicate,List.length_map,c.len]
def zn6 (own : Nat) (cap : List Nat) (wi : TI) (g : TG) (ts : TT) (te : TE) : TE:=fun σ H Q=>wi σ H fun J H1=>∀ D,H1 D = none→∃ W : Nat→Nat→St→Hp→Prop,(∃ m,W 0 m (zex own cap σ) (upd H1 D (.lst [])))∧∀ i m σ H,W i m σ H→
 (J.stop i H∧Q (.ref D) H)∨(J.go i H∧∀ x H',J.yld i H x H'→g x σ H' fun σ2 H2=>ts σ2 H2 fun b H3=>if b = true then te σ2 H3 fun y H4=>∃ xs,H4 D = some (.lst xs)∧xs.length < sizeLine∧∃ m',m' < m∧W (i + 1) m' σ2 (upd H4 D (.lst (xs ++ [y]))) else ∃ m',m' < m∧W (i + 1) m' σ2 H3)
theorem zhF {pins : List (Addr×Obj)} {σ : St} {H2 : Hp} {s2 : Shared} {N : List Str} {own : Nat} {cap : List Nat} {scope : Scope} {cl : List (Str×Addr)} {fp : List Addr} {tg elt iter : Expr} {ifs : List Expr} {pos : Pos} {J : It} {it : Addr} {tn : Nat→Heap→Prop} {g : TG} {ts : TT} {te : TE} {Q : VK}
  {E : Value→Shared→Prop} {RR : Value→Addr→Result→Shared→Prop}
  (hcalm : X.calm = true) (c : zjB X scope N own cap) (hcl : zhP scope X.env cl)
  (hg : ∀ cl C s₂ H₂ fp,PG (zbx X N scope cl C s₂ H₂ fp) tg g) (hts : ∀ cl C s₂ H₂ fp,PTs (zbx X N scope cl C s₂ H₂ fp) ifs ts) (he : ∀ cl C s₂ H₂ fp,PE (zbx X N scope cl C s₂ H₂ fp) elt te)
  (I2 : Inv X pins σ H2 s2) (T : Turn X.prog X.w X.K tg J fp it tn) (st2 : tn 0 s2.heap) (f2 : ∀ b∈fp,FpOk X pins H2 b)
  (rd : ∀ D,H2 D = none→∃ W : Nat→Nat→St→Hp→Prop,(∃ m,W 0 m (zex own cap σ) (upd H2 D (.lst [])))∧∀ i m σ H,W i m σ H→
   (J.stop i H∧Q (.ref D) H)∨(J.go i H∧∀ x H',J.yld i H x H'→g x σ H' fun σ2 H2=>ts σ2 H2 fun b H3=>if b = true then te σ2 H3 fun y H4=>∃ xs,H4 D = some (.lst xs)∧xs.length < sizeLine∧∃ m',m' < m∧W (i + 1) m' σ2 (upd H4 D (.lst (xs ++ [y]))) else ∃ m',m' < m∧W (i + 1) m' σ2 H3))
  (hRR : ∀ D C s' H',Inv X pins σ H' s'→(∃ m,s'.heap.Ns C m)→FpOk X pins H' C→Q (.ref D) H'→RR (.ref D) C (.ok .next) s') :
  wpAny (model X.prog X.w) X.A (newList []) (fun acc s₃=>wpAny (model X.prog X.w) X.A (newFunctionEnv scope X.env.globals cl [] X.env.qual none .none (some X.env)) (fun cenv s₄=>
   codeAny (model X.prog X.w) X.A (.compStart (.ListComp elt [⟨tg,iter,ifs,0⟩] scope pos) 0 (.ref it) acc { cenv with scope:=relabel scope X.env }) (RR acc cenv.locals) s₄) E s₃) E s2:=by
 have hcell : ∀ y∈scope.names,y.2≠.cell:=fun y hy q=>by
  have:=List.all_eq_true.mp c.nocell y hy
  rw [q] at this
  exact absurd this (by decide)
 have hfp : ∀ b∈fp,b < s2.heap.objs.size:=fun b hb=>by
  obtain ⟨o,e,_⟩:=T.obj 0 _ st2 b hb
  exact Heap.lt_size e
 refine wpAny_newObj_type (wpAny_newFunctionEnv hcell (by intro y hy; simp at hy) (fun h₁ hns₁ hsb₁=>?_) c.kind)
 dsimp only at hns₁ hsb₁ ⊢
 generalize hHH : s2.heap.push { cls:=.type "list",dict:=none,data:=.seq ([] : List Value).toArray } = HH at hns₁ hsb₁ ⊢
 have hC : HH.objs.size = s2.heap.objs.size + 1:=by rw [← hHH,Heap.size_push]
 have hDC : s2.heap.objs.size≠HH.objs.size:=by rw [hC]; exact Nat.ne_of_lt (Nat.lt_succ_self _)
 have hCle : s2.heap.objs.size≤HH.objs.size:=by rw [hC]; exact Nat.le_succ _
 have old : ∀ b o,s2.heap.get? b = some o→h₁.get? b = some o:=fun b o e=>hsb₁.extBut b o (Nat.ne_of_lt (by rw [hC]; exact Nat.lt_succ_of_lt (Heap.lt_size e))) (Heap.get?_push_of_some _ (hHH ▸ Heap.get?_push_of_some _ e))
 have hnew : h₁.get? s2.heap.objs.size = some { cls:=.type "list",data:=.seq #[] }:=hsb₁.extBut _ _ hDC (Heap.get?_push_of_some _ (hHH ▸ Heap.get?_push_size _ rfl))
 have I3 : ∀ tk,Inv (zbx X N scope cl HH.objs.size s2 H2 fp) pins (zex own cap σ) (upd H2 s2.heap.objs.size (.lst [])) { s2 with heap:=h₁,toks:=tk }:=fun tk=>
  zm7 I2 c hcl f2 (Nat.le_refl _) hCle hDC old hnew ⟨_,hns₁⟩ hfp hcalm
 obtain ⟨W,⟨m0,w0⟩,turn⟩:=rd s2.heap.objs.size (I2.hok.fresh (Nat.le_refl _))
 have st3 : tn 0 h₁:=T.keep _ _ _ st2 fun b _ o e=>old b o e
 have fr3 : ∀ b∈fp,upd H2 s2.heap.objs.size (.lst []) b = none:=fun b hb=>by rw [zag (Nat.ne_of_lt (hfp b hb))]; exact (f2 b hb).1
 have stat : ∀ {H' : Hp},(∀ b∈fp,H' b = none)→∀ b∈fp,FpOk (zbx X N scope cl HH.objs.size s2 H2 fp) pins H' b:=fun hn b hb=>by
  obtain ⟨_,h2,h3,_,h5,h6⟩:=f2 b hb
  refine ⟨hn b hb,Nat.ne_of_lt (Nat.lt_of_lt_of_le (hfp b hb) hCle),fun z=>?_,.inl hb,fun x cc e=>h5 x cc (hcl.sub x cc e),h6⟩
  rcases List.mem_cons.mp (I2.stkSub b z) with q | q
  ·exact h2 q
  ·exact h3 q
 have loop : ∀ s₃ : Shared,s₃ = { s2 with heap:=h₁,toks:=s2.toks + ([] : List (Str×Value)).length }→
   codeAny (model X.prog X.w) X.A (.compLoop (.ListComp elt [⟨tg,iter,ifs,0⟩] scope pos) 0 (.ref it) (.ref s2.heap.objs.size) (compEnvC scope cl HH.objs.size X.env)) (RR (.ref s2.heap.objs.size) HH.objs.size) s₃:=by
  rintro s₃ rfl
  refine zir (fun n s'=>∃ i σ' H',Inv (zbx X N scope cl HH.objs.size s2 H2 fp) pins σ' H' s'∧tn i s'.heap∧(∀ b∈fp,H' b = none)∧W i n σ' H') ?_ m0 ⟨0,_,_,I3 _,st3,fr3,w0⟩
  rintro n s3 ⟨i,σ3,H3,J3,t3,fr,w3⟩
  rcases turn i n σ3 H3 w3 with ⟨stop,qn⟩ | ⟨go,step⟩
  ·refine thn (T.done (zbx X N scope cl HH.objs.size s2 H2 fp) rfl rfl rfl hcalm i pins s3 σ3 H3 (fun _ _=>False) J3 (stat fr) t3 stop) fun r s4 ⟨hr,I4⟩=>?_
   subst hr
   obtain ⟨mm,hmm,_⟩:=I4.loc
   refine hRR _ _ s4 H3 (I2.call' I4.os I4.base I4.hok I4.bare fun b hb=>?_) ⟨mm,hmm⟩ (I2.fpOk hCle I4.free) qn
   obtain ⟨_,h2,_,h4,h5,h6⟩:=f2 b hb
   exact ⟨h4,h2,h5,h6⟩
  ·refine thn (T.item (zbx X N scope cl HH.objs.size s2 H2 fp) rfl rfl rfl hcalm i pins s3 σ3 H3 (fun _ _=>False) J3 (stat fr) t3 go) fun r s4 ⟨u,hr,h4⟩=>?_
   subst hr
   refine thn h4 fun _ s5 ⟨x,H5,I5,r5,y5,st5,fr5⟩=>?_
   have I5':=I5.pinned (stat fr5) (T.obj _ _ st5)
   have back : ∀ {σ7 : St} {H7 : Hp} {s7 : Shared} {m' : Nat},Inv (zbx X N scope cl HH.objs.size s2 H2 fp) (pins ++ zhg fp s5.heap) σ7 H7 s7→W (i + 1) m' σ7 H7→∃ i σ' H',Inv (zbx X N scope cl HH.objs.size s2 H2 fp) pins σ' H' s7∧tn i s7.heap∧(∀ b∈fp,H' b = none)∧W i m' σ' H':=fun {σ7 H7 s7 m'} I7 w7=>by
    refine ⟨i + 1,σ7,H7,I7.unpinned,T.keep _ _ _ st5 fun b hb o e=>(I7.pin (b,o) (List.mem_append_right _ (List.mem_append_right _ (zdy hb e)))).1,fun b hb=>?_,w7⟩
    obtain ⟨o,e,d⟩:=T.obj _ _ st5 b hb
    exact (I7.pin (b,o) (List.mem_append_right _ (List.mem_append_right _ (zdy hb e)))).2.1
   refine thn (hg cl HH.objs.size s2 H2 fp _ s5 σ3 H5 x u _ I5' r5 (step x H5 y5)) fun _ s6 ⟨σ6,H6,I6,q6⟩=>?_
   refine thn (hts cl HH.objs.size s2 H2 fp _ s6 σ6 H6 _ I6 q6) fun b s7 ⟨H7,I7,q7⟩=>?_
   cases b with
   | false=>
    rw [if_neg Bool.false_ne_true] at q7 ⊢
    obtain ⟨m',hm,w7⟩:=q7
    exact ⟨m',hm,back I7 w7⟩
   | true=>
    rw [if_pos rfl] at q7 ⊢
    refine thn (he cl HH.objs.size s2 H2 fp _ s7 σ6 H7 _ I7 q7) fun v s8 ⟨y,H8,I8,r8,q8⟩=>?_
    obtain ⟨xs,hx,hz,m',hm,w8⟩:=q8
    refine thn (za3 (X:=zbx X N scope cl HH.objs.size s2 H2 fp) _ s8 σ6 H8 (.ref s2.heap.objs.size) [y] (.ref s2.heap.objs.size) [v] (fun _ H9=>H9 = upd H8 s2.heap.objs.size (.lst (xs ++ [y]))) I8 rfl (.cons r8 .nil) ⟨_,xs,y,rfl,rfl,hx,hz,rfl⟩) fun _ s9 ⟨_,H9,I9,_,e9⟩=>?_
    subst e9
    exact ⟨m',hm,back I9 w8⟩
 refine codeAny_compStart_list (loop _ rfl) ?_
 exact T.self _ 0 _ _ _ st3 (loop _ rfl)
theorem zbf {N : List Str} {own : Nat} {cap : List Nat} {scope : Scope} {tg elt iter : Expr} {ifs : List Expr} {pos : Pos} {wi : TI} {g : TG} {ts : TT} {te : TE} (hcalm : X.calm = true) (hi : PI X tg iter wi) (c : zjB X scope N own cap)
  (hg : ∀ cl C s₂ H₂ fp,PG (zbx X N scope cl C s₂ H₂ fp) tg g) (hts : ∀ cl C s₂ H₂ fp,PTs (zbx X N scope cl C s₂ H₂ fp) ifs ts) (he : ∀ cl C s₂ H₂ fp,PE (zbx X N scope cl C s₂ H₂ fp) elt te)
  (hs : ∀ x,foldedSetIterable iter X.env x = pure x:=by intro _; rfl) : PE X (.ListComp elt [⟨tg,iter,ifs,0⟩] scope pos) (zn6 own cap wi g ts te):=by
 intro pins s σ H Q I h
 obtain ⟨cl,hcl⟩:=zfB (scope:=scope) (env:=X.env) fun x hx=>I.ok.has x (by
  have:=List.all_eq_true.mp c.frees _ hx
  simpa using this)
 rw [eval_ListComp]
 refine wpAny_comprehension_free (use:=none) rfl hs hcl.eq c.kind (fun x hx hl=>by
  have:=List.all_eq_true.mp c.locs x hx
  rw [hl] at this
  simpa using this) (thn (hi pins s σ H _ I h) fun v s1 h1=>thn h1 fun itv s2 h2=>?_)
 obtain ⟨it,fp,tn,J,H2,e,I2,T,st2,f2,rd⟩:=h2
 subst e
 refine zhF (RR:=fun acc C=>compPost (model X.prog X.w) X.A X.xe none (EP X pins σ Q) acc C) hcalm c hcl hg hts he I2 T st2 f2 rd ?_
 intro D C s' H' I' hm fC q
 obtain ⟨m,hm⟩:=hm
 obtain ⟨f0,f1,f2,f3,f4,f5⟩:=fC
 exact ⟨m,hm,fun h' hsb=>⟨.ref D,H',I'.turned (t':=s'.toks) (fun b o hb e=>(hsb.2 b hb).trans e) f0 f1 f3 f4 f5,rfl,q⟩⟩
theorem zdM {i : Nat} {x : Str} {N : List Str} {own : Nat} {cap : List Nat} {scope : Scope} {tg elt iter : Expr} {ifs : List Expr} {pos pos' spos : Pos} {wi : TI} {g : TG} {ts : TT} {te : TE} (hN : X.N.Nodup) (hxi : X.N[i]? = some x) (hx : X.env.scope.names.lookup x = some .local) (hcalm : X.calm = true) (hi : PI X tg iter wi) (c : zjB X scope N own cap)
  (hg : ∀ cl C s₂ H₂ fp,PG (zbx X N scope cl C s₂ H₂ fp) tg g) (hts : ∀ cl C s₂ H₂ fp,PTs (zbx X N scope cl C s₂ H₂ fp) ifs ts) (he : ∀ cl C s₂ H₂ fp,PE (zbx X N scope cl C s₂ H₂ fp) elt te)
  (hsw : swapsWith (.ListComp elt [⟨tg,iter,ifs,0⟩] scope pos) (some (.Name x pos')) spos.line X.env = pure true:=by rfl)
  (hs : ∀ x,foldedSetIterable iter X.env x = pure x:=by intro _; rfl) : PS X (.Assign [.Name x pos'] (.ListComp elt [⟨tg,iter,ifs,0⟩] scope pos) spos) (tAsg (zn6 own cap wi g ts te) (zij i)):=by
 intro pins s σ H D I h
 obtain ⟨cl,hcl⟩:=zfB (scope:=scope) (env:=X.env) fun x hx=>I.ok.has x (by
  have:=List.all_eq_true.mp c.frees _ hx
  simpa using this)
 rw [exec_Assign_Name_used _ _ _ _ hsw]
 refine wpAny_bind (wpAny_standAt (wpAny_bind ?_))
 show wpAny _ X.A (do let _ ← comprehension (.ListComp elt [⟨tg,iter,ifs,0⟩] scope pos) scope X.env _ (newList []) false (eval iter X.env) (some (assign (.Name x pos') X.env))) _ _ s
 refine wpAny_bind (wpAny_mono (wpAny_comprehension_free (use:=some (assign (.Name x pos') X.env)) (Q:=fun _ s'=>SP X pins D .next s') rfl hs hcl.eq c.kind (fun x hx hl=>by
  have:=List.all_eq_true.mp c.locs x hx
  rw [hl] at this
  simpa using this) (thn (hi pins s σ H _ I h) fun v s1 h1=>thn h1 fun itv s2 h2=>?_)) (fun _ s' hq=>wpAny_pure (wpAny_pure hq)) fun _ _ e=>e)
 obtain ⟨it,fp,tn,J,H2,e,I2,T,st2,f2,rd⟩:=h2
 subst e
 refine zhF (RR:=fun acc C=>compPost (model X.prog X.w) X.A X.xe (some (assign (.Name x pos') X.env)) (fun _ s'=>SP X pins D .next s') acc C) (Q:=fun x H1=>zij i x σ H1 D.nx) hcalm c hcl hg hts he I2 T st2 f2 rd ?_
 intro Dd C s' H' I' hm fC q
 obtain ⟨m,hm⟩:=hm
 have hne : ∀ a,(a = X.env.locals∨X.env.cells.lookup x = some a)→a≠C:=fun a z=>by
  obtain ⟨f0,f1,f2,f3,f4,f5⟩:=fC
  rcases z with z | z
  ·rw [z]; exact Ne.symm f1
  ·exact f4 x a z
 show wpAny _ X.A (assign (.Name x pos') X.env (.ref Dd)) _ _ _
 refine wpAny_assign_Name (zgZ I' hN hxi (.inl hx) (v:=.ref Dd) rfl (fun s'' I'' hch=>?_) (.inr hx))
 obtain ⟨a,hsb,ha⟩:=hch
 refine ⟨m,hm.sameBut hsb (Ne.symm (hne a ha)),fun h' hs'=>?_⟩
 obtain ⟨f0,f1,f2,f3,f4,f5⟩:=fC
 exact ⟨_,H',I''.turned (t':=s''.toks) (fun b o hb e=>(hs'.2 b hb).trans e) f0 f1 f3 f4 f5,q⟩
end
end L2
namespace L2
open PySem PySem.Spec PyProof.Rows PySem.SeqAt
theorem Paired.right {α β : Type} {F : α→β→Prop} : ∀ {l : List α} {m : List β} {b : β},Paired F l m→b∈m→∃ a,a∈l∧F a b
 | _,_,_,.nil,h=>nomatch h
 | _,_,_,.cons r t,h=>by
  rcases List.mem_cons.mp h with z | z
  ·subst z
   exact ⟨_,List.mem_cons_self,r⟩
  ·obtain ⟨a,h1,h2⟩:=Paired.right t z
   exact ⟨a,List.mem_cons_of_mem _ h1,h2⟩
class Srt (α : Type) [Rep α] where
 blt : α→α→Bool
 irrefl : ∀ a,blt a a = false
 trans : ∀ a b c,blt a b = true→blt b c = true→blt a c = true
 negTrans : ∀ a b c,blt a c = true→blt a b = true∨blt b c = true
 total : ∀ a b,blt a b = false→blt b a = false→a = b
 kd : SortKind
 one : α
 lt : ∀ {X : Cx} {pins : List (Addr×Obj)} {σ : St} {H : Hp} {s : Shared} {A : Around} {a b : α} {x y : V} {u v : Value} {Q : Bool→Shared→Prop} {E : Value→Shared→Prop},Inv X pins σ H s→Rep.has X.K H a x→Rep.has X.K H b y→RelV x u→RelV y v→Q (blt a b) s→wpAny (model X.prog X.w) A (keyLt' kd u v) Q E s
 kind : ∀ {X : Cx} {pins : List (Addr×Obj)} {σ : St} {H : Hp} {s : Shared} {A : Around} {as : List α} {xs : List V} {us : List Value} {Q : SortKind→Shared→Prop} {E : Value→Shared→Prop},Inv X pins σ H s→zak X.K H as xs→Vals xs us→2≤us.length→Q kd s→wpAny (model X.prog X.w) A (keyKind' us.toArray) Q E s
section
variable {α : Type} [Rep α] [Srt α]
noncomputable def srtKind (α : Type) [Rep α] [Srt α] (K : PySem.W.Frag) (H : Hp) : PyProof.Rows.KeyKind where
 α:=α
 blt:=Srt.blt
 irrefl:=Srt.irrefl
 trans:=Srt.trans
 negTrans:=Srt.negTrans
 total:=Srt.total
 keyOf:=fun u=>open Classical in if h : ∃ a : α,∃ x,RelV x u∧Rep.has K H a x then some (Classical.choose h) else none
 dflt:=Srt.one
theorem zm5 {X : Cx} {pins : List (Addr×Obj)} {σ : St} {H : Hp} {s : Shared} {a : α} {x : V} {u : Value} (I : Inv X pins σ H s) (r : RelV x u) (h : Rep.has X.K H a x) : (srtKind α X.K H).keyOf u = some a:=by
 have e : ∃ a : α,∃ x,RelV x u∧Rep.has X.K H a x:=⟨a,x,r,h⟩
 unfold srtKind
 dsimp only
 rw [dif_pos e]
 obtain ⟨y,ry,hy⟩:=Classical.choose_spec e
 have z:=ry.inj r
 subst z
 exact congrArg some (Rep.inj I hy h)
theorem zf1 {K : PySem.W.Frag} {H : Hp} {a : α} {u : Value} (h : (srtKind α K H).keyOf u = some a) : ∃ x,RelV x u∧Rep.has K H a x:=by
 unfold srtKind at h
 dsimp only at h
 split at h
 ·rename_i e
  cases h
  exact Classical.choose_spec e
 ·cases h
def zdB (as : List α) : List α:=as.mergeSort fun a b=>!Srt.blt b a
theorem zbV (as : List α) : (zdB as).Perm as:=List.mergeSort_perm _ _
theorem zfe {as : List α} {a : α} : a∈zdB as↔a∈as:=(zbV as).mem_iff
theorem zc3 (as : List α) : (zdB as).length = as.length:=(zbV as).length_eq
theorem zl8 {a b : α} (h : Srt.blt a b = true) : Srt.blt b a = false:=by
 cases e : Srt.blt b a with
 | false=>rfl
 | true=>
  have:=Srt.trans _ _ _ h e
  rw [Srt.irrefl] at this
  cases this
theorem ziT (as : List α) : (zdB as).Pairwise fun a b=>Srt.blt b a = false:=by
 have h:=List.pairwise_mergeSort (le:=fun a b : α=>!Srt.blt b a) (fun a b c h1 h2=>by
  simp only [Bool.not_eq_true'] at h1 h2 ⊢
  cases e : Srt.blt c a with
  | false=>rfl
  | true=>
   rcases Srt.negTrans c b a e with z | z
   ·rw [h2] at z; cases z
   ·rw [h1] at z; cases z) (fun a b=>by
  cases e : Srt.blt b a with
  | false=>rfl
  | true=>rw [zl8 e]; rfl) as
 exact h.imp fun {a b} z=>by simpa using z
theorem zmw {as bs : List α} (hp : bs.Perm as) (hs : bs.Pairwise fun a b=>Srt.blt b a = false) : bs = zdB as:=
 List.Perm.eq_of_pairwise (fun a b _ _ h1 h2=>Srt.total a b h2 h1) hs (ziT as) (hp.trans (zbV as).symm)
theorem zfV {as : List α} (hn : as.Nodup) : (zdB as).Pairwise fun a b=>Srt.blt a b = true:=by
 have h1:=ziT as
 have h2 : (zdB as).Nodup:=(zbV as).nodup_iff.mpr hn
 refine (h1.and h2).imp fun {a b} z=>?_
 cases e : Srt.blt a b with
 | true=>rfl
 | false=>exact absurd (Srt.total a b e z.1) z.2
theorem zhu {K : PySem.W.Frag} {H : Hp} : ∀ {out : List Value},(∀ v∈out,∃ a : α,∃ x,RelV x v∧Rep.has K H a x∧(srtKind α K H).keyOf v = some a)→
  ∃ (ws : List V) (bs : List α),Vals ws out∧zak K H bs ws∧bs = out.map (Tim.keyV (srtKind α K H))
 | [],_=>⟨[],[],.nil,.nil,rfl⟩
 | v :: out,h=>by
  obtain ⟨ws,bs,h1,h2,h3⟩:=zhu (out:=out) fun u hu=>h u (List.mem_cons_of_mem _ hu)
  obtain ⟨a,x,r,e,k⟩:=h v List.mem_cons_self
  refine ⟨x :: ws,a :: bs,.cons r h1,.cons e h2,?_⟩
  rw [List.map_cons,← h3]
  have z : Tim.keyV (srtKind α K H) v = a:=by
   unfold Tim.keyV
   rw [k]
   rfl
  rw [z]
  rfl
theorem zlx {X : Cx} {pins : List (Addr×Obj)} {σ : St} {H : Hp} {s : Shared} (I : Inv X pins σ H s) : ∀ {as : List α} {xs : List V} {us : List Value},zak X.K H as xs→Vals xs us→us.map (Tim.keyV (srtKind α X.K H)) = as∧∀ v∈us,∃ a : α,∃ x,RelV x v∧Rep.has X.K H a x∧(srtKind α X.K H).keyOf v = some a
 | _,_,_,.nil,.nil=>⟨rfl,fun _ z=>nomatch z⟩
 | _,_,_,.cons e t,.cons r q=>by
  obtain ⟨h1,h2⟩:=zlx I t q
  have k:=zm5 I r e
  refine ⟨?_,fun v hv=>?_⟩
  ·rw [List.map_cons,h1]
   unfold Tim.keyV
   rw [k]
   rfl
  ·rcases List.mem_cons.mp hv with z | z
   ·subst z
    exact ⟨_,_,r,e,k⟩
   ·exact h2 v z
end
def rSortD (α : Type) [Rep α] [Srt α] (K : PySem.W.Frag) : List V→Hp→VK→Prop:=fun xs H Q=>∃ (p : Addr) (vs : List V) (as : List α),xs = [.ref p]∧SqL K H p vs∧zak K H as vs∧
 ∀ l ws,H l = none→zak K H (zdB as) ws→Q (.ref l) (upd H l (.lst ws))
section
variable {X : Cx}
end
instance : Srt Int where
 blt:=fun a b=>decide (a < b)
 irrefl:=fun a=>by simp
 trans:=fun a b c h1 h2=>by
  simp only [decide_eq_true_eq] at *
  omega
 negTrans:=fun a b c h=>by
  simp only [decide_eq_true_eq] at *
  omega
 total:=fun a b h1 h2=>by
  simp only [decide_eq_false_iff_not] at *
  omega
 kd:=oneType'
 one:=0
 lt:=fun {X pins σ H s A a b x y u v Q E} _ h1 h2 r1 r2 q=>by
  have h1 : x = .int a:=h1
  have h2 : y = .int b:=h2
  subst h1 h2
  obtain ⟨t,rfl⟩:=r1
  obtain ⟨t',rfl⟩:=r2
  exact PySem.W.kat_lt_int q
 kind:=fun {X pins σ H s A as xs us Q E} _ h r hl q=>by
  have e:=zak.toInts h
  subst e
  have hi : IntsAre us as:=by
   clear q hl
   induction as generalizing us with
   | nil=>cases r; exact .nil
   | cons a as ih=>
    cases r with
    | cons r1 r2=>
     obtain ⟨t,rfl⟩:=r1
     exact .cons a t (ih (by first | exact zak.ints | assumption) r2)
  match us,hl,hi with
  | v₁ :: v₂ :: rest,_,hi=>
   rw [keyKind_ints hi]
   exact wpAny_pure q
def pLt (a b : Int×Int) : Bool:=decide (a.1 < b.1) || (decide (a.1 = b.1) && decide (a.2 < b.2))
theorem zco {a b : Int×Int} : pLt a b = true↔a.1 < b.1∨(a.1 = b.1∧a.2 < b.2):=by
 unfold pLt
 simp
theorem zh3 {a b : Int×Int} : pLt a b = false↔¬ (a.1 < b.1∨(a.1 = b.1∧a.2 < b.2)):=by
 rw [← zco]
 simp
theorem zgu {X : Cx} {pins : List (Addr×Obj)} {σ : St} {H : Hp} {s : Shared} {a : Int×Int} {x : V} {u : Value} (I : Inv X pins σ H s) (h : Rep.has X.K H a x) (r : RelV x u) :
  ∃ (p : Addr) (o : Obj) (n : Nat) (t t' : Tok),u = .ref p∧s.heap.get? p = some o∧o.cls = .type "tuple"∧o.data = .seq #[.int a.1 t,.int a.2 t'] n:=by
 obtain ⟨p,x1,x2,rfl,q,e1,e2⟩:=(show hasP X.K H a x from h)
 have e1 : x1 = .int a.1:=e1
 have e2 : x2 = .int a.2:=e2
 subst e1 e2
 cases r
 obtain ⟨us,ru,pu,_⟩:=I.tuple (SqT.of q)
 obtain ⟨u1,u2,rfl,⟨t,rfl⟩,⟨t',rfl⟩⟩:=zgW ru
 obtain ⟨o,ho,hc,n,hd⟩:=pu
 exact ⟨p,o,n,t,t',rfl,ho,hc,hd⟩
theorem znM {prog : Program} {w : World} {A : Around} {E : Value→Shared→Prop} {s : Shared} {x y : Int} {t u : Tok} {Q : Bool→Shared→Prop} (b : Bool) (h : Q (decide (x < y)) s) : wpAny (model prog w) A (oneLt' b (.int x t) (.int y u)) Q E s:=by
 cases b with
 | true=>
  rw [← keyLt'_oneType]
  exact PySem.W.kat_lt_int h
 | false=>exact PySem.W.kat_one _ _ (lt_int h)
instance : Srt (Int×Int) where
 blt:=pLt
 irrefl:=fun a=>by rw [zh3]; omega
 trans:=fun a b c h1 h2=>by
  rw [zco] at *
  omega
 negTrans:=fun a b c h=>by
  rw [zco] at *
  rw [zco]
  omega
 total:=fun a b h1 h2=>by
  rw [zh3] at *
  obtain ⟨a1,a2⟩:=a
  obtain ⟨b1,b2⟩:=b
  have : a1 = b1∧a2 = b2:=by dsimp only at *; omega
  rw [this.1,this.2]
 kd:=tuples' true
 one:=(0,0)
 lt:=fun {X pins σ H s A a b x y u v Q E} I h1 h2 r1 r2 q=>by
  obtain ⟨p,o,n,t1,t2,rfl,ho,hc,hd⟩:=zgu I h1 r1
  obtain ⟨p',o',n',t3,t4,rfl,ho',hc',hd'⟩:=zgu I h2 r2
  refine PySem.W.kat_lt ho hd ho' hd' ?_
  show PySem.W.KatLex X.prog X.w A true _ Q [(.int a.1 t1,.int b.1 t3),(.int a.2 t2,.int b.2 t4)] 0 s
  refine PySem.W.kat_cons (EqAt.int_int a.1 t1 b.1 t3 _ _ _ _ (PySem.W.kat_go (fun e=>PySem.W.kat_yes ?_) (fun e=>PySem.W.kat_no ?_)))
  ·have e1 : a.1 = b.1:=eq_of_beq e
   refine PySem.W.kat_cons (EqAt.int_int a.2 t2 b.2 t4 _ _ _ _ (PySem.W.kat_go (fun e=>PySem.W.kat_yes (PySem.W.kat_nil ?_)) (fun e=>PySem.W.kat_no (znM _ ?_))))
   ·have e2 : a.2 = b.2:=eq_of_beq e
    have z : pLt a b = false:=by rw [zh3]; omega
    rw [z] at q
    exact q
   ·have z : pLt a b = decide (a.2 < b.2):=by
     unfold pLt
     rw [decide_eq_false (by omega : ¬ a.1 < b.1),decide_eq_true e1]
     rfl
    rw [z] at q
    exact q
  ·have e1 : ¬ a.1 = b.1:=fun z=>by rw [z] at e; simp at e
   refine znM _ ?_
   have z : pLt a b = decide (a.1 < b.1):=by
    unfold pLt
    rw [decide_eq_false e1]
    simp
   rw [z] at q
   exact q
 kind:=fun {X pins σ H s A as xs us Q E} I h r hl q=>by
  have go : ∀ {as : List (Int×Int)} {xs : List V} {us : List Value},zak X.K H as xs→Vals xs us→∃ fs,PySem.W.KatTups s.heap us fs∧fs.length = us.length∧∀ v∈fs,∃ i t,v = Value.int i t:=by
   intro as
   induction as with
   | nil=>
    intro xs us h r
    cases h
    cases r
    exact ⟨[],.nil,rfl,fun _ z=>nomatch z⟩
   | cons a as ih=>
    intro xs us h r
    cases h with
    | cons h1 h2=>
     cases r with
     | cons r1 r2=>
      obtain ⟨fs,f1,f2,f3⟩:=ih h2 r2
      obtain ⟨p,o,n,t,t',rfl,ho,hc,hd⟩:=zgu I h1 r1
      refine ⟨.int a.1 t :: fs,PySem.W.KatTups.cons ho hc hd rfl f1,by rw [List.length_cons,List.length_cons,f2],fun v hv=>?_⟩
      rcases List.mem_cons.mp hv with z | z
      ·exact ⟨_,_,z⟩
      ·exact f3 v z
  obtain ⟨fs,f1,f2,f3⟩:=go h r
  refine PySem.W.kat_kind (T:=.type "int") f1 (by omega) (fun v hv=>?_) (by decide) ?_
  ·obtain ⟨i,t,rfl⟩:=f3 v hv
   exact PySem.W.Looks.of_pure rfl
  ·exact q
def rListD (K : PySem.W.Frag) : List V→Hp→VK→Prop:=fun xs H Q=>∃ (p : Addr) (kvs : List (List Key×V)),xs = [.ref p]∧Rd H p (.dT kvs)∧
 ∀ l bs,H l = none→Paired (fun (kv : List Key×V) (b : Addr)=>H b = some (.tup (kv.1.map kV))) kvs bs→Q (.ref l) (upd H l (.lst (bs.map V.ref)))
section
variable {X : Cx}
end
end L2
namespace L2
open PySem PySem.Spec PyProof.Rows
section
variable {X : Cx}
theorem zgp {x : Str} {i : Int} {pos : Pos} (hg : Gl X x) (hm : ∃ t,X.mg x = some (.int i t)) (hd : (x == ("__debug__" : Str)) = false:=by decide) : PE X (.Name x pos) (tC (.int i)):=by
 obtain ⟨t,e⟩:=hm
 exact zom hg e ⟨t,rfl⟩ hd
end
theorem zcE {K : PySem.W.Frag} {a D : Addr} {xs : List V} {g : TG} {ts : TT} {te : TE} {σ : St} {H : Hp} {Q : Hp→Prop} (Pv : Nat→St→Hp→Prop) (h0 : Pv 0 σ H) (hl : ∀ i σ H,i≤xs.length→Pv i σ H→SqL K H a xs)
  (hs : ∀ i m x σ H,xs[i]? = some x→i + m = xs.length→Pv i σ H→g x σ H fun σ2 H2=>ts σ2 H2 fun b H3=>if b = true then te σ2 H3 fun y H4=>∃ zs,H4 D = some (.lst zs)∧zs.length < sizeLine∧∃ m',m' < m∧(i + 1 + m' = xs.length∧Pv (i + 1) σ2 (upd H4 D (.lst (zs ++ [y])))) else ∃ m',m' < m∧(i + 1 + m' = xs.length∧Pv (i + 1) σ2 H3))
  (hd : ∀ σ H,Pv xs.length σ H→Q H) :
  ∃ W : Nat→Nat→St→Hp→Prop,(∃ m,W 0 m σ H)∧∀ i m σ H,W i m σ H→((Itl K a).stop i H∧Q H)∨((Itl K a).go i H∧∀ x H',(Itl K a).yld i H x H'→g x σ H' fun σ2 H2=>ts σ2 H2 fun b H3=>if b = true then te σ2 H3 fun y H4=>∃ xs,H4 D = some (.lst xs)∧xs.length < sizeLine∧∃ m',m' < m∧W (i + 1) m' σ2 (upd H4 D (.lst (xs ++ [y]))) else ∃ m',m' < m∧W (i + 1) m' σ2 H3):=by
 refine ⟨fun i m σ H=>i + m = xs.length∧Pv i σ H,⟨xs.length,by omega,h0⟩,fun i m σ H ⟨e,pv⟩=>?_⟩
 have hS:=hl i σ H (by omega) pv
 by_cases hi : i < xs.length
 ·refine .inr ⟨⟨xs,xs[i],hS,List.getElem?_eq_getElem hi⟩,fun x H' y=>?_⟩
  obtain ⟨e1,y⟩:=y
  subst e1
  exact hs i m x σ _ (y xs hS) e pv
 ·have : i = xs.length:=by omega
  subst this
  exact .inl ⟨⟨xs,hS,Nat.le_refl _⟩,hd σ H pv⟩
theorem zep {lo : Int} {n : Nat} {D : Addr} {g : TG} {ts : TT} {te : TE} {σ : St} {H : Hp} {Q : Hp→Prop} (Pv : Nat→St→Hp→Prop) (h0 : Pv 0 σ H)
  (hs : ∀ i m σ H,i + m = n→i < n→Pv i σ H→g (.int (lo + i)) σ H fun σ2 H2=>ts σ2 H2 fun b H3=>if b = true then te σ2 H3 fun y H4=>∃ zs,H4 D = some (.lst zs)∧zs.length < sizeLine∧∃ m',m' < m∧(i + 1 + m' = n∧Pv (i + 1) σ2 (upd H4 D (.lst (zs ++ [y])))) else ∃ m',m' < m∧(i + 1 + m' = n∧Pv (i + 1) σ2 H3))
  (hd : ∀ σ H,Pv n σ H→Q H) :
  ∃ W : Nat→Nat→St→Hp→Prop,(∃ m,W 0 m σ H)∧∀ i m σ H,W i m σ H→((Itr lo n).stop i H∧Q H)∨((Itr lo n).go i H∧∀ x H',(Itr lo n).yld i H x H'→g x σ H' fun σ2 H2=>ts σ2 H2 fun b H3=>if b = true then te σ2 H3 fun y H4=>∃ xs,H4 D = some (.lst xs)∧xs.length < sizeLine∧∃ m',m' < m∧W (i + 1) m' σ2 (upd H4 D (.lst (xs ++ [y]))) else ∃ m',m' < m∧W (i + 1) m' σ2 H3):=by
 refine ⟨fun i m σ H=>i + m = n∧Pv i σ H,⟨n,by omega,h0⟩,fun i m σ H ⟨e,pv⟩=>?_⟩
 by_cases hi : i < n
 ·refine .inr ⟨hi,fun x H' y=>?_⟩
  obtain ⟨e1,y⟩:=y
  subst e1 y
  exact hs i m σ _ e hi pv
 ·have : i = n:=by omega
  subst this
  exact .inl ⟨Nat.le_refl _,hd σ H pv⟩
end L2
namespace L2
open PySem PySem.Spec PyProof.Rows
def metI (ns : List Int) : List Int:=firstMet (fun i=>ns.getD i 0) ns.length
theorem zew : ∀ {ns : List Int} {us : List Value},Vals (ns.map V.int) us→IntsAre us ns
 | [],_,.nil=>.nil
 | n :: _,_,.cons ⟨t,e⟩ q=>by
  subst e
  exact .cons n t (zew q)
def rSetI (K : PySem.W.Frag) : List V→Hp→VK→Prop:=fun xs H Q=>∃ (p : Addr) (ns : List Int),xs = [.ref p]∧SqL K H p (ns.map V.int)∧ns.length≤1000∧
 ∀ l,H l = none→Q (.ref l) (upd H l (.set (fun k=>(metI ns).any (· == k)) (metI ns).length))
section
variable {X : Cx}
end
end L2
namespace L2
open PySem PySem.Spec PyProof.Rows
section
variable {X : Cx}
end
end L2
namespace L2
theorem zcZ {i : Nat} {x : V} {σ : St} {H : Hp} {A B : St→Hp→Prop} (h : A (σ.set i (some x)) H) : zij i x σ H fun σ2 H2=>tYes σ2 H2 fun b H3=>if b = true then A σ2 H3 else B σ2 H3:=by
 show (if true = true then A (σ.set i (some x)) H else B (σ.set i (some x)) H)
 rw [if_pos rfl]
 exact h
end L2
namespace L2
open PySem PySem.Spec PyProof.Rows
section
variable {X : Cx}
def tRev (K : PySem.W.Frag) (te : TE) (th : TO) : TE:=fun σ H Q=>te σ H fun x H1=>th σ H1 fun u H2=>∃ a xs,x = .ref a∧u = some (-1)∧SqL K H2 a xs∧∀ p,H2 p = none→Q (.ref p) (upd H2 p (.lst xs.reverse))
theorem Vals.rev : ∀ {xs : List V} {us : List Value},Vals xs us→Vals xs.reverse us.reverse
 | _,_,.nil=>.nil
 | _,_,.cons r t=>by
  rw [List.reverse_cons,List.reverse_cons]
  exact Vals.append (Vals.rev t) (.cons r .nil)
end
end L2
namespace L2
open PySem PySem.Spec PyProof.Rows
section
variable {X : Cx} {K : PySem.W.Frag}
theorem zcV (h : X.K = K:=by rfl) : zdS X (.builtin "len") (fun xs H Q=>∃ p ys,xs = [.ref p]∧(SqL K H p ys∨SqT K H p ys)∧Q (.int ys.length) H):=by
 subst h
 exact zat
theorem ze2 (h : X.K = K:=by rfl) : IxR X (rIxL K):=by
 subst h
 exact zaE
theorem zfs (h : X.K = K:=by rfl) : IxR X (rIxT K):=by
 subst h
 exact zaM
end
end L2
namespace L2
open PySem PySem.Spec PyProof.Rows
section
variable {X : Cx}
def rInsert : V→List V→Hp→VK→Prop:=fun x vs H Q=>∃ l xs i y,x = .ref l∧vs = [.int i,y]∧H l = some (.lst xs)∧0≤i∧i < 2 ^ 63∧xs.length < sizeLine∧Q .non (upd H l (.lst (xs.take i.toNat ++ y :: xs.drop i.toNat)))
end
theorem zgS {c : TT} {tb : TS} {D : Ends} {σ : St} {H : Hp} (Pv Pe : St→Hp→Prop) (μ : St→Hp→Nat) (h0 : Pv σ H)
  (hs : ∀ σ H,Pv σ H→c σ H fun b H1=>if b = true then tb { D with nx:=fun σ' H'=>Pv σ' H'∧μ σ' H' < μ σ H,ct:=fun σ' H'=>Pv σ' H'∧μ σ' H' < μ σ H,bk:=D.nx } σ H1 else Pe σ H1)
  (mono : ∀ σ H Q Q',(∀ b H1,Q b H1→Q' b H1)→c σ H Q→c σ H Q') (he : ∀ σ H,Pe σ H→D.nx σ H) : zkv c tb D σ H:=by
 refine zmm Pv μ h0 (fun σ H p=>mono σ H _ _ (fun b H1 q=>?_) (hs σ H p)) mono
 cases b with
 | true=>exact q
 | false=>exact he _ _ q
def MonoT (c : TT) : Prop:=∀ σ H Q Q',(∀ b H1,Q b H1→Q' b H1)→c σ H Q→c σ H Q'
theorem zky {a b : TT} (ha : MonoT a) (hb : MonoT b) : MonoT (tAnd a b):=fun σ H Q Q' m h=>ha σ H _ _ (fun c H1 q=>by
 cases c with
 | false=>exact m _ _ q
 | true=>exact hb σ H1 Q Q' m q) h
section
variable {X : Cx} {K : PySem.W.Frag}
theorem zgv (h : X.K = K:=by rfl) : OpR X (compareOp .NotIn) (rIn K true):=by
 subst h
 exact zez
theorem zk1 {es : List Expr} {k : Nat} {t : TGs} {n : Nat} {pos : Pos} (hc : X.calm = true) (h : PGs X es t) (hK : X.K = K:=by rfl)
  (hn : (assignEach es X.env).length = n:=by rfl) (hst : (assignEach es X.env).findIdx? (·.1) = none:=by rfl) : PG X (.Tuple es k pos) (gTup K n t):=by
 subst hK
 exact zfm hc h hn hst
end
theorem znh {K : PySem.W.Frag} {a b D : Addr} {xs ys : List V} {g : TG} {ts : TT} {te : TE} {σ : St} {H : Hp} {Q : Hp→Prop} (hlen : xs.length = ys.length) (Pv : Nat→St→Hp→Prop) (h0 : Pv 0 σ H) (hl : ∀ i σ H,i≤xs.length→Pv i σ H→SqL K H a xs∧SqL K H b ys)
  (hs : ∀ i m x y σ H r,xs[i]? = some x→ys[i]? = some y→i + m = xs.length→Pv i σ H→H r = none→g (.ref r) σ (upd H r (.tup [x,y])) fun σ2 H2=>ts σ2 H2 fun b H3=>if b = true then te σ2 H3 fun y H4=>∃ zs,H4 D = some (.lst zs)∧zs.length < sizeLine∧∃ m',m' < m∧(i + 1 + m' = xs.length∧Pv (i + 1) σ2 (upd H4 D (.lst (zs ++ [y])))) else ∃ m',m' < m∧(i + 1 + m' = xs.length∧Pv (i + 1) σ2 H3))
  (hd : ∀ σ H,Pv xs.length σ H→Q H) :
  ∃ W : Nat→Nat→St→Hp→Prop,(∃ m,W 0 m σ H)∧∀ i m σ H,W i m σ H→((Itz K a b).stop i H∧Q H)∨((Itz K a b).go i H∧∀ x H',(Itz K a b).yld i H x H'→g x σ H' fun σ2 H2=>ts σ2 H2 fun b H3=>if b = true then te σ2 H3 fun y H4=>∃ xs,H4 D = some (.lst xs)∧xs.length < sizeLine∧∃ m',m' < m∧W (i + 1) m' σ2 (upd H4 D (.lst (xs ++ [y]))) else ∃ m',m' < m∧W (i + 1) m' σ2 H3):=by
 refine ⟨fun i m σ H=>i + m = xs.length∧Pv i σ H,⟨xs.length,by omega,h0⟩,fun i m σ H ⟨e,pv⟩=>?_⟩
 obtain ⟨hS,hS'⟩:=hl i σ H (by omega) pv
 by_cases hi : i < xs.length
 ·refine .inr ⟨⟨xs,ys,xs[i],ys[i]'(by omega),hS,hS',List.getElem?_eq_getElem hi,List.getElem?_eq_getElem (by omega)⟩,fun x H' y=>?_⟩
  obtain ⟨p,z,z',rfl,hp,hz,hz',rfl⟩:=y
  exact hs i m z z' σ H p (hz xs hS) (hz' ys hS') e pv hp
 ·have : i = xs.length:=by omega
  subst this
  exact .inl ⟨⟨xs,ys,hS,hS',.inl (Nat.le_refl _)⟩,hd σ H pv⟩
end L2
namespace L2
open PySem PySem.Spec PyProof.Rows
section
variable {X : Cx}
theorem zl6 (hc : X.calm = true) : zdS X (.builtin "min") (fun xs H Q=>∃ (p : Addr) (ns : List Int),xs = [.ref p]∧SqL X.K H p (ns.map V.int)∧0 < ns.length∧∀ M,M∈ns→(∀ a,a∈ns→M≤a)→Q (.int M) H):=by
 intro pins s σ H xs us Q I r h
 obtain ⟨p,ns,rfl,hq,hne,q⟩:=h
 obtain ⟨u,rfl,rx⟩:=zgX r
 cases rx
 obtain ⟨its,rv,pl,_⟩:=I.list hq
 have hi:=zew rv
 obtain ⟨xs,hx⟩:=hi.allInts.items
 have hl' : s.heap.IsList p (intItems xs):=hx ▸ pl.isList
 have e1 : ns = xs.toList.map (·.1):=by
  rw [← nums_intItems,← hx]
  exact (show numsOf its.toArray.toList = ns from hi.numsOf).symm
 have hsz : 0 < xs.size:=by
  rw [e1,List.length_map,Array.length_toList] at hne
  exact hne
 refine min_intList (I.ok.hd hc) hl' hsz fun v h' tk hv hk=>?_
 obtain ⟨t,rfl⟩:=intItems_at hv
 obtain ⟨h1,h2⟩:=argBest_lt (numAt xs) (xs.size - 1)
 refine ⟨.int _,H,Inv.kept (t':=tk) I hk,⟨t,rfl⟩,q _ ?_ fun a ha=>?_⟩
 ·rw [e1,numAt_eq]
  rw [List.getD_eq_getElem?_getD,List.getElem?_eq_getElem (by rw [List.length_map,Array.length_toList]; omega)]
  exact List.getElem_mem _
 ·rw [e1] at ha
  obtain ⟨j,hj,rfl⟩:=mem_getD ha
  rw [List.length_map,Array.length_toList] at hj
  rw [← numAt_eq]
  exact h2 j (by omega)
end
theorem zcm {K : PySem.W.Frag} {a D : Addr} {xs : List V} {g : TG} {ts : TT} {te : TE} {σ : St} {H : Hp} {Q : Hp→Prop} (Pv : Nat→St→Hp→Prop) (h0 : Pv 0 σ H) (hl : ∀ i σ H,i≤xs.length→Pv i σ H→SqT K H a xs)
  (hs : ∀ i m x σ H,xs[i]? = some x→i + m = xs.length→Pv i σ H→g x σ H fun σ2 H2=>ts σ2 H2 fun b H3=>if b = true then te σ2 H3 fun y H4=>∃ zs,H4 D = some (.lst zs)∧zs.length < sizeLine∧∃ m',m' < m∧(i + 1 + m' = xs.length∧Pv (i + 1) σ2 (upd H4 D (.lst (zs ++ [y])))) else ∃ m',m' < m∧(i + 1 + m' = xs.length∧Pv (i + 1) σ2 H3))
  (hd : ∀ σ H,Pv xs.length σ H→Q H) :
  ∃ W : Nat→Nat→St→Hp→Prop,(∃ m,W 0 m σ H)∧∀ i m σ H,W i m σ H→((Itt K a).stop i H∧Q H)∨((Itt K a).go i H∧∀ x H',(Itt K a).yld i H x H'→g x σ H' fun σ2 H2=>ts σ2 H2 fun b H3=>if b = true then te σ2 H3 fun y H4=>∃ xs,H4 D = some (.lst xs)∧xs.length < sizeLine∧∃ m',m' < m∧W (i + 1) m' σ2 (upd H4 D (.lst (xs ++ [y]))) else ∃ m',m' < m∧W (i + 1) m' σ2 H3):=by
 refine ⟨fun i m σ H=>i + m = xs.length∧Pv i σ H,⟨xs.length,by omega,h0⟩,fun i m σ H ⟨e,pv⟩=>?_⟩
 have hS:=hl i σ H (by omega) pv
 by_cases hi : i < xs.length
 ·refine .inr ⟨⟨xs,xs[i],hS,List.getElem?_eq_getElem hi⟩,fun x H' y=>?_⟩
  obtain ⟨e1,y⟩:=y
  subst e1
  exact hs i m x σ _ (y xs hS) e pv
 ·have : i = xs.length:=by omega
  subst this
  exact .inl ⟨⟨xs,hS,Nat.le_refl _⟩,hd σ H pv⟩
end L2
namespace L2
open PySem PySem.Spec PyProof.Rows
def Itv (K : PySem.W.Frag) (a : Addr) (n : Nat) : It:=
 ⟨fun i H=>i < n∧∃ xs,SqL K H a xs∧xs.length = n,fun i H x H'=>H' = H∧∀ xs,SqL K H a xs→xs.length = n→xs.reverse[i]? = some x,fun i _=>i = n⟩
theorem zmq {P : Program} {w : World} {K : PySem.W.Frag} {tg : Expr} (a it : Addr) (n : Nat) : Turn P w K tg (Itv K a n) [it] it (fun i h=>h.IsRevIter it a ((n : Int) - 1 - (i : Int))) where
 mem:=by simp
 obj:=fun i h st b hb=>by
  have e : b = it:=by simpa using hb
  subst e
  obtain ⟨o,e,c,d⟩:=st
  exact ⟨o,e,fun v z=>by rw [d] at z; cases z⟩
 keep:=fun i h h' st k=>st.at fun o e=>k it (by simp) o e
 item:=by
  intro X hP hw hK hc i pins s σ H E I hf st hg
  subst hP hw hK
  obtain ⟨hi,xs,hq,hn⟩:=hg
  obtain ⟨its,rv,p,hz⟩:=I.list hq
  have hx : xs[n - 1 - i]? = some (xs[n - 1 - i]'(by omega)):=List.getElem?_eq_getElem (by omega)
  obtain ⟨u,hu,ru⟩:=rv.get hx
  obtain ⟨f0,f1,f2,f3,f4,f5⟩:=hf it (by simp)
  have e1 : (n : Int) - 1 - (i : Int) = ((n - 1 - i : Nat) : Int):=by omega
  rw [e1] at st
  refine wpAny_pyNext_rev_item st p.isList (x:=u) (by simpa using hu) fun h' st' sb=>?_
  have e2 : ((n - 1 - i : Nat) : Int) - 1 = (n : Int) - 1 - ((i + 1 : Nat) : Int):=by omega
  rw [e2] at st'
  have I1 : Inv X pins σ H { s with heap:=h' }:=I.turned (t':=s.toks) (fun b o hb e=>(sb.2 b hb).trans e) f0 f1 f3 f4 f5
  obtain ⟨o,e,c,d⟩:=id st'
  refine ⟨u,rfl,zlM (s:={ s with heap:=h' }) e c d (by decide) ⟨xs[n - 1 - i]'(by omega),H,I1,ru,⟨rfl,fun ys hy hyn=>?_⟩,st',fun b hb=>(hf b hb).1⟩⟩
  rw [I.list_inj hy hq,List.getElem?_reverse (by omega),show xs.length - 1 - i = n - 1 - i by omega]
  exact hx
 done:=by
  intro X hP hw hK hc i pins s σ H E I hf st hg
  subst hP hw hK
  have hi : i = n:=hg
  subst hi
  obtain ⟨f0,f1,f2,f3,f4,f5⟩:=hf it (by simp)
  have e1 : (i : Int) - 1 - (i : Int) = -1:=by omega
  rw [e1] at st
  exact wpAny_pyNext_rev_end (I.ok.hd hc) st fun h' eb=>⟨rfl,I.turned (t':=s.toks) (fun b o hb e=>eb b o hb e) f0 f1 f3 f4 f5⟩
 self:=fun _ _ _ _ _ st h=>wpAny_pyIter_revIter st h
def iRev (K : PySem.W.Frag) (ta : TA) : TI:=fun σ H R=>ta σ H fun vs H1=>∃ a xs,vs = [.ref a]∧SqL K H1 a xs∧R (Itv K a xs.length) H1
section
variable {X : Cx}
theorem zh0 {tg : Expr} {a : Expr} {ta : TA} {p pos : Pos} (hg : Gl X "reversed") (hm : X.mg "reversed" = none) (ha : PA X [a] ta) (hs : starEach [a] X.env = [(false,eval a X.env)]:=by rfl) : PI X tg (.Call (.Name "reversed" p) [a] [] pos) (iRev X.K ta):=by
 intro pins s σ H R I h
 refine Call_ (zeh I hg hm boot_reversed (PyProof.Rows.callWith_type1 (thn (ha pos pins s σ H _ I h) fun us s1 ⟨vs,H1,I1,r1,q1⟩=>?_) hs rfl))
 obtain ⟨l,xs,e,hq,q⟩:=q1
 subst e
 cases r1 with
 | cons r rr=>
  cases rr
  cases r
  obtain ⟨its,rv,pl,hz⟩:=I1.list hq
  have hl:=rv.length
  refine call_reversed_list pl.isList ?_
  have I2 : Inv X pins σ H1 { s1 with heap:=s1.heap.push (revObj l ((its.toArray.size : Int) - 1)) }:=I1.kept (t':=s1.toks) fun b o e=>Heap.get?_push_of_some _ e
  have hr : (s1.heap.push (revObj l ((its.toArray.size : Int) - 1))).IsRevIter s1.heap.objs.size l (((xs.length : Nat) : Int) - 1 - ((0 : Nat) : Int)):=by
   refine ⟨_,Heap.get?_push_size _ rfl,rfl,?_⟩
   have : (its.toArray.size : Int) - 1 = ((xs.length : Nat) : Int) - 1 - ((0 : Nat) : Int):=by
    rw [List.size_toArray,hl]
    omega
   rw [this]
   rfl
  refine wpAny_pyIter_revIter (s:={ s1 with heap:=s1.heap.push (revObj l ((its.toArray.size : Int) - 1)) }) hr ⟨_,[s1.heap.objs.size],_,_,H1,rfl,I2,zmq l s1.heap.objs.size xs.length,hr,fun b hb=>?_,q⟩
  have e : b = s1.heap.objs.size:=by simpa using hb
  subst e
  exact I1.fpOk (Nat.le_refl _) (I1.hok.fresh (Nat.le_refl _))
end
theorem for_rev {K : PySem.W.Frag} {a : Addr} {xs : List V} {g : TG} {tb : TS} {D : Ends} {σ : St} {H : Hp} (Pv : Nat→St→Hp→Prop) (h0 : Pv 0 σ H) (hl : ∀ i σ H,i≤xs.length→Pv i σ H→SqL K H a xs)
  (hs : ∀ i x σ H,xs.reverse[i]? = some x→Pv i σ H→g x σ H fun σ2 H2=>tb { D with nx:=Pv (i + 1),ct:=Pv (i + 1),bk:=D.nx } σ2 H2) (hd : ∀ σ H,Pv xs.length σ H→D.nx σ H) :
  ∃ W : Nat→Nat→St→Hp→Prop,(∃ m,W 0 m σ H)∧∀ i m σ H,W i m σ H→((Itv K a xs.length).stop i H∧D.nx σ H)∨((Itv K a xs.length).go i H∧∃ N : St→Hp→Prop,(∀ σ' H',N σ' H'→∃ m',m' < m∧W (i + 1) m' σ' H')∧∀ x H',(Itv K a xs.length).yld i H x H'→g x σ H' fun σ2 H2=>tb { D with nx:=N,ct:=N,bk:=D.nx } σ2 H2):=by
 refine ⟨fun i m σ H=>i + m = xs.length∧Pv i σ H,⟨xs.length,by omega,h0⟩,fun i m σ H ⟨e,pv⟩=>?_⟩
 have hS:=hl i σ H (by omega) pv
 by_cases hi : i < xs.length
 ·refine .inr ⟨⟨hi,xs,hS,rfl⟩,Pv (i + 1),fun σ' H' q=>⟨m - 1,by omega,by omega,q⟩,fun x H' y=>?_⟩
  obtain ⟨e1,y⟩:=y
  subst e1
  exact hs i x σ _ (y xs hS rfl) pv
 ·have : i = xs.length:=by omega
  subst this
  exact .inl ⟨rfl,hd σ H pv⟩
section
variable {prog : Program} {w : World} {A : Around} {E : Value→Shared→Prop} {s : Shared}
end
def tListRev (K : PySem.W.Frag) (ta : TA) : TE:=fun σ H Q=>ta σ H fun vs H1=>∃ l xs,vs = [.ref l]∧SqL K H1 l xs∧∀ p,H1 p = none→Q (.ref p) (upd H1 p (.lst xs.reverse))
section
variable {X : Cx}
def tListRange (ta : TA) : TE:=fun σ H Q=>ta σ H fun vs H1=>∃ n : Nat,vs = [.int n]∧n≤1000∧∀ p,H1 p = none→Q (.ref p) (upd H1 p (.lst ((List.range n).map fun i : Nat=>V.int i)))
end
end L2
namespace L2
open PySem PySem.Spec PyProof.Rows
theorem zkY {P : Program} {w : World} {k : Key} {u : Value} (h : (zaD P w).is k u = true) : RelV (kV k) u:=by
 rw [zjX] at h
 rcases zaR h with ⟨i,t,rfl,rfl⟩ | ⟨x,t,rfl,rfl⟩
 ·exact ⟨t,rfl⟩
 ·exact ⟨t,rfl⟩
section
variable {X : Cx}
theorem zke (hc : X.calm = true) : zdS X (.type "list") (fun xs H Q=>∃ (p : Addr) (kvs : List (Key×V)),xs = [.ref p]∧H p = some (.dK kvs)∧∀ l,H l = none→Q (.ref l) (upd H l (.lst (kvs.map fun kv=>kV kv.1)))):=by
 intro pins s σ H xs us Q I r h
 obtain ⟨p,kvs,rfl,hq,q⟩:=h
 obtain ⟨u,rfl,rx⟩:=zgX r
 cases rx
 obtain ⟨hz,hne,vs,rel,o,es,ep,h1,h2,h3,h4,h5,h6⟩:=dk_of I.hok hq
 have hlen : kvs.length = vs.length:=rel.length
 refine PySem.W.kdl_call (PySem.W.kdl_dict (knd:=zaD X.prog X.w) (kvs:=vs) (ep:=ep) hne) (I.ok.hd hc) ⟨o,es,h1,h2,h3,h4,h5,h6⟩ (by omega) fun h' tk acc c k e hi=>?_
 have hv : Vals (kvs.map fun kv=>kV kv.1) acc.toList:=by
  obtain ⟨g1,g2⟩:=hi
  have key : ∀ (m : Nat) (kvs : List (Key×V)) (vs : List (Key×Value)) (us : List Value),KV kvs vs→us.length = vs.length→(∀ (i : Nat) (v : Value),us[i]? = some v→∃ k x,vs[i]? = some (k,x)∧(zaD X.prog X.w).is k v = true)→Vals (kvs.map fun kv=>kV kv.1) us:=by
   intro m kvs
   induction kvs with
   | nil=>
    intro vs us r hl _
    cases r
    have : us = []:=List.eq_nil_of_length_eq_zero hl
    subst this
    exact .nil
   | cons kv kvs ih=>
    intro vs us r hl hh
    cases r with
    | cons a b=>
     cases us with
     | nil=>cases hl
     | cons v us=>
      refine .cons ?_ (ih _ us b (Nat.succ.inj hl) fun i v e=>?_)
      ·obtain ⟨k,x,e1,e2⟩:=hh 0 v rfl
       cases e1
       have h9:=zkY e2
       have a1 : kv.1 = k:=a.1
       rw [← a1] at h9
       exact h9
      ·have:=hh (i + 1) v (by simpa using e)
       simpa using this
  refine key 0 kvs vs acc.toList rel (by rw [Array.length_toList]; exact g1) fun i v e=>?_
  exact g2 i v (by rw [← Array.getElem?_toList]; exact e)
 refine ⟨.ref s.heap.objs.size,_,I.laid (a:=s.heap.objs.size) (o:=.lst (kvs.map fun kv=>kV kv.1)) (t':=tk) k (Nat.le_refl _) ⟨?_,acc.toList,c,hv,by rw [Array.toArray_toList]; exact e⟩,rfl,q _ (I.hok.fresh (Nat.le_refl _))⟩
 rw [List.length_map]
 omega
end
def Itd (a : Addr) : It:=
 ⟨fun i H=>∃ kvs,H a = some (.dK kvs)∧i < kvs.length,fun i H x H'=>H' = H∧∀ kvs,H a = some (.dK kvs)→(kvs.map fun kv=>kV kv.1)[i]? = some x,fun i H=>∃ kvs,H a = some (.dK kvs)∧i = kvs.length⟩
end L2
namespace L2
open PySem PySem.Spec PyProof.Rows
def iSeq (K : PySem.W.Frag) (tl : TE) : TI:=fun σ H R=>tl σ H fun x H1=>∃ a,x = .ref a∧((∃ xs,SqL K H1 a xs)∧R (Itl K a) H1∨(∃ xs,SqT K H1 a xs)∧R (Itt K a) H1)
section
variable {X : Cx} {tg : Expr}
end
section
variable {prog : Program} {w : World} {A : Around} {E : Value→Shared→Prop} {s : Shared}
end
end L2
namespace Tim
open PySem PyProof.Rows
section
variable {prog : Program} {w : World} {A : Around} {E : Value→Shared→Prop} {s : Shared} {κ : KeyKind} {kd : SortKind}
end
end Tim
namespace L2
open PySem PySem.Spec PyProof.Rows
section
variable {X : Cx}
def rSortT (α : Type) [Rep α] [Srt α] (K : PySem.W.Frag) : List V→Hp→VK→Prop:=fun xs H Q=>∃ (p : Addr) (vs : List V) (as : List α),xs = [.ref p]∧SqT K H p vs∧zak K H as vs∧
 ∀ l ws,H l = none→zak K H (zdB as) ws→Q (.ref l) (upd H l (.lst ws))
end
section
variable {prog : Program} {w : World} {A : Around} {E : Value→Shared→Prop} {s : Shared}
abbrev nuSet (led : Bool) : Obj:={ cls:=.type "set",dict:=none,data:=.set #[] 0 (.fresh 0 0 led) }
end
section
variable {X : Cx}
def rSetT (K : PySem.W.Frag) : List V→Hp→VK→Prop:=fun xs H Q=>∃ (p : Addr) (ns : List Int),xs = [.ref p]∧SqT K H p (ns.map V.int)∧ns.length≤1000∧
 ∀ l,H l = none→Q (.ref l) (upd H l (.set (fun k=>(metI ns).any (· == k)) (metI ns).length))
end
def Itf (a : Addr) (o : Obj) (kvs : List (Key×V)) : It:=
 ⟨fun i H=>H a = some (.frz o (.dK kvs))∧i < kvs.length,fun i H x H'=>H' = H∧(kvs.map fun kv=>kV kv.1)[i]? = some x,fun i H=>H a = some (.frz o (.dK kvs))∧i = kvs.length⟩
def iDict (tl : TE) : TI:=fun σ H R=>tl σ H fun x H1=>∃ a kvs,x = .ref a∧((H1 a = some (.dK kvs)∧∀ o,R (Itf a o kvs) (upd H1 a (.frz o (.dK kvs))))∨∃ o,H1 a = some (.frz o (.dK kvs))∧R (Itf a o kvs) H1)
section
variable {X : Cx} {tg : Expr}
end
end L2
namespace HT
open PySem PySem.Spec PyProof.Rows
section
variable {prog : Program} {w : World} {A : Around} {E : Value→Shared→Prop} {s : Shared}
theorem getItem_tuple_all {t sl : Addr} {items : Array Value} {vl vu : Value} {lo hi : Option Int} {Q : Value→Shared→Prop} (ht : IsTup s.heap t items) (hs : s.heap.IsSliceOf sl vl vu .none) (pl : IsPart vl lo) (pu : IsPart vu hi)
  (hw : sIx items.size 0 lo = 0∧sIx items.size items.size hi = items.size) (h : Q (.ref t) s) : wpAny (model prog w) A (getItem (.ref t) (.ref sl)) Q E s:=by
 obtain ⟨os,hos,hcs,hds⟩:=id hs
 have hTs : s.TypeIs (.ref sl) "slice":=⟨os,hos,hcs⟩
 unfold getItem
 try with_reducible refine wpAny_holding ?_
 first | refine wpAny_bind (wpAny_pure ?_) | skip
 refine wpAny_bind (wpAny_sequenceKey ht.typeIs (by decide) ?_)
 refine wpAny_bind (wpAny_callSpecial?_slot (name:=Str.ofString "__getitem__") ht.typeIs PyProof.Rows.slot_tuple_getitem (wpAny_call_entry PyProof.Rows.slot_tuple_getitem ht.typeIs entry_tuple_getitem ?_ (args_tuple_getitem _ _)))
 show wpAny _ _ (Builtin.Tuple.tupleItemsOf (.ref t) >>= _) _ _ s
 refine wpAny_bind (tupleItemsOf_ ht ?_)
 refine wpAny_bind (wpAny_typeOf hTs ?_)
 rw [if_pos (by decide)]
 refine wpAny_bind (zcY hs pl pu ?_)
 have yes : (((sIx items.size 0 lo : Nat) : Int) == 0 && (1 : Int) == 1 && (sIx items.size items.size hi - sIx items.size 0 lo) == items.size) = true:=by
  rw [hw.1,hw.2]
  simp
 show wpAny _ _ (if (((sIx items.size 0 lo : Nat) : Int) == 0 && (1 : Int) == 1 && (sIx items.size items.size hi - sIx items.size 0 lo) == items.size) = true then _ else _) _ _ s
 rw [if_pos yes]
 refine wpAny_bind ?_
 unfold Builtin.Tuple.tupleIsExact
 refine wpAny_bind (wpAny_typeOf ht.typeIs ?_)
 refine wpAny_pure ?_
 rw [if_pos (by decide)]
 exact wpAny_bind (wpAny_rule (wpAny_pure ⟨_,rfl,wpAny_pure h⟩))
end
end HT
namespace L2
open PySem PySem.Spec PyProof.Rows
section
variable {X : Cx}
def rSlX (K : PySem.W.Frag) : V→Option Int→Option Int→Hp→VK→Prop:=fun x lo hi H Q=>∃ a xs,x = .ref a∧SqT K H a xs∧
 ((HT.sIx xs.length 0 lo = 0∧HT.sIx xs.length xs.length hi = xs.length)→Q (.ref a) H)∧(¬ (HT.sIx xs.length 0 lo = 0∧HT.sIx xs.length xs.length hi = xs.length)→∀ p,H p = none→Q (.ref p) (upd H p (.tup (cutV xs lo hi))))
theorem zkQ : SlR X (rSlX X.K):=by
 intro pins s σ H x v vl vu lo hi sl Q I rx hs pl pu h
 obtain ⟨a,xs,e,hx,q1,q2⟩:=h
 by_cases hw : HT.sIx xs.length 0 lo = 0∧HT.sIx xs.length xs.length hi = xs.length
 ·subst e
  cases rx
  obtain ⟨its,r,ht,hz⟩:=I.tuple hx
  have hlen : its.toArray.size = xs.length:=by rw [List.size_toArray]; exact r.length.symm
  refine ⟨"tuple",_,PyProof.Rows.slot_tuple_getitem.lookup,ht.typeIs,?_⟩
  exact HT.getItem_tuple_all ht hs pl pu (by rw [hlen]; exact hw) ⟨.ref a,H,I,rfl,q1 hw⟩
 ·exact sl_tup pins s σ H x v vl vu lo hi sl Q I rx hs pl pu ⟨a,xs,e,hx,hw,q2 hw⟩
def rCatX (K : PySem.W.Frag) : R2:=fun x y H Q=>∃ a b xs ys,x = .ref a∧y = .ref b∧SqT K H a xs∧SqT K H b ys∧ys≠[]∧xs.length + ys.length≤sizeLine∧
 (xs = []→Q (.ref b) H)∧(xs≠[]→∀ p,H p = none→Q (.ref p) (upd H p (.tup (xs ++ ys))))
theorem zop : OpR X (binaryOp .Add) (rCatX X.K):=by
 intro pins s σ H x y v u Q I rx ry h
 obtain ⟨a,b,xs,ys,e1,e2,ha,hb,hy,hz,q1,q2⟩:=h
 by_cases hx : xs = []
 ·subst e1 e2
  cases rx
  cases ry
  obtain ⟨its,r1,p1,_⟩:=I.tuple ha
  obtain ⟨its2,r2,p2,_⟩:=I.tuple hb
  obtain ⟨⟨cls,dd,data,sl⟩,ho,hc,n,hd⟩:=id p1
  obtain ⟨⟨cls2,dd2,data2,sl2⟩,ho2,hc2,n2,hd2⟩:=id p2
  simp only at hc hd hc2 hd2
  subst hc hd hc2 hd2
  have hv : its = []:=r1.nil_iff.mpr hx
  exact concat_meets ⟨_,ho,rfl⟩ ⟨_,ho2,rfl⟩ noFill_tuple_add seq_tuple_add PySem.F.slot_tuple_add PySem.F.entry_tuple_add (PySem.F.args_tuple_add_2 _ _)
   (tuple_addW0 a b its.toArray its2.toArray n n2 dd dd2 sl sl2 (by simp [hv])) ⟨ho,ho2,.ref b,H,I,rfl,q1 hx⟩
 ·exact zk7 pins s σ H x y v u Q I rx ry ⟨a,b,xs,ys,e1,e2,ha,hb,hx,hz,fun z=>absurd z hy,fun _=>q2 hx⟩
end
end L2
namespace L2
open PySem PySem.Spec PyProof.Rows PySem.SeqAt
def hasO (o : Option Int) (v : V) : Prop:=match o with
 | none=>v = .non
 | some i=>v = .int i
instance : Rep (Option Int) where
 dec:=inferInstance
 depth:=0
 has:=fun _ _ o v=>hasO o v
 mono:=fun _ h=>h
 inj:=fun {_ _ _ _ _ a b v} _ h1 h2=>by
  cases a <;> cases b
  ·rfl
  ·have h1 : v = .non:=h1
   have h2 : v = .int _:=h2
   rw [h1] at h2
   cases h2
  ·have h1 : v = .int _:=h1
   have h2 : v = .non:=h2
   rw [h1] at h2
   cases h2
  ·have h1 : v = .int _:=h1
   have h2 : v = .int _:=h2
   rw [V.int.inj (h1.symm.trans h2)]
 rc:=fun {_ _ _ _ _ _ a b x y u v} _ _ h1 h2 r1 r2=>by
  cases a with
  | none=>
   have h1 : x = .non:=h1
   subst h1
   obtain rfl : u = .none:=r1
   cases b with
   | none=>
    have h2 : y = .non:=h2
    subst h2
    obtain rfl : v = .none:=r2
    exact RcAt.none_none
   | some j=>
    have h2 : y = .int j:=h2
    subst h2
    obtain ⟨t,rfl⟩:=r2
    exact RcAt.none_int _ _
  | some i=>
   have h1 : x = .int i:=h1
   subst h1
   obtain ⟨t,rfl⟩:=r1
   cases b with
   | none=>
    have h2 : y = .non:=h2
    subst h2
    obtain rfl : v = .none:=r2
    exact RcAt.int_none _ _
   | some j=>
    have h2 : y = .int j:=h2
    subst h2
    obtain ⟨t',rfl⟩:=r2
    have e : decide (some i = some j) = (i == j):=by
     by_cases z : i = j
     ·subst z; simp
     ·rw [decide_eq_false (fun q=>z (Option.some.inj q)),beq_eq_false_iff_ne.mpr z]
    have:=RcAt.int_int (A:=‹Around›) (s:=‹Shared›) i t j t'
    rw [← e] at this
    exact this
 rn:=fun {_ _ _ _ _ _ a b x y u v} _ _ h1 h2 r1 r2=>by
  cases a with
  | none=>
   have h1 : x = .non:=h1
   subst h1
   obtain rfl : u = .none:=r1
   cases b with
   | none=>
    have h2 : y = .non:=h2
    subst h2
    obtain rfl : v = .none:=r2
    exact RcNeAt.none_none
   | some j=>
    have h2 : y = .int j:=h2
    subst h2
    obtain ⟨t,rfl⟩:=r2
    exact RcNeAt.none_int _ _
  | some i=>
   have h1 : x = .int i:=h1
   subst h1
   obtain ⟨t,rfl⟩:=r1
   cases b with
   | none=>
    have h2 : y = .non:=h2
    subst h2
    obtain rfl : v = .none:=r2
    exact RcNeAt.int_none _ _
   | some j=>
    have h2 : y = .int j:=h2
    subst h2
    obtain ⟨t',rfl⟩:=r2
    have e : decide (some i = some j) = (i == j):=by
     by_cases z : i = j
     ·subst z; simp
     ·rw [decide_eq_false (fun q=>z (Option.some.inj q)),beq_eq_false_iff_ne.mpr z]
    have:=RcNeAt.int_int (A:=‹Around›) (s:=‹Shared›) i t j t'
    rw [← e] at this
    exact this
 eq:=fun {_ _ _ _ _ _ a b x y u v} _ _ h1 h2 r1 r2=>by
  cases a with
  | none=>
   have h1 : x = .non:=h1
   subst h1
   obtain rfl : u = .none:=r1
   cases b with
   | none=>
    have h2 : y = .non:=h2
    subst h2
    obtain rfl : v = .none:=r2
    exact EqAt.same _
   | some j=>
    have h2 : y = .int j:=h2
    subst h2
    obtain ⟨t,rfl⟩:=r2
    exact EqAt.none_int _ _
  | some i=>
   have h1 : x = .int i:=h1
   subst h1
   obtain ⟨t,rfl⟩:=r1
   cases b with
   | none=>
    have h2 : y = .non:=h2
    subst h2
    obtain rfl : v = .none:=r2
    exact EqAt.int_none _ _
   | some j=>
    have h2 : y = .int j:=h2
    subst h2
    obtain ⟨t',rfl⟩:=r2
    have e : decide (some i = some j) = (i == j):=by
     by_cases z : i = j
     ·subst z; simp
     ·rw [decide_eq_false (fun q=>z (Option.some.inj q)),beq_eq_false_iff_ne.mpr z]
    have:=EqAt.int_int (A:=‹Around›) (s:=‹Shared›) i t j t'
    rw [← e] at this
    exact this
structure Tup (α : Type) where
 l : List α
theorem Tup.ext' {α : Type} {a b : Tup α} (h : a.l = b.l) : a = b:=by
 cases a
 cases b
 cases h
 rfl
instance {α : Type} [DecidableEq α] : DecidableEq (Tup α):=fun a b=>if h : a.l = b.l then .isTrue (Tup.ext' h) else .isFalse fun z=>h (by rw [z])
def hasT {α : Type} [Rep α] (K : PySem.W.Frag) (H : Hp) (t : Tup α) (v : V) : Prop:=∃ a xs,v = .ref a∧SqT K H a xs∧zak K H t.l xs
section
variable {α : Type} [r : Rep α] {X : Cx} {pins : List (Addr×Obj)} {σ : St} {H : Hp} {s : Shared} {A : Around} {as bs : Tup α} {x y : V} {u v : Value}
theorem zjn (I : Inv X pins σ H s) (h1 : hasT X.K H as x) (h2 : hasT X.K H bs x) : as = bs:=by
 obtain ⟨a,xs,rfl,q1,h1⟩:=h1
 obtain ⟨b,ys,e,q2,h2⟩:=h2
 cases e
 rw [I.tuple_inj q2 q1] at h2
 exact Tup.ext' (h1.inj I h2)
theorem zks {as bs : List α} (n m : Nat) (hn : as.length = n) (hm : bs.length = m) : ((List.range (min n m)).all (fun j=>decide (as[j]? = bs[j]?)) && n == m) = decide (as = bs):=by
 by_cases hl : as.length = bs.length
 ·have e:=zet as bs hl
  have z : min n m = as.length:=by omega
  rw [z,e,beq_iff_eq.mpr (by omega : n = m),Bool.and_true]
 ·rw [decide_eq_false (fun z=>hl (by rw [z])),beq_eq_false_iff_ne.mpr (by omega : n≠m),Bool.and_false]
theorem zlV : decide (as = bs) = decide (as.l = bs.l):=by
 by_cases h : as.l = bs.l
 ·rw [decide_eq_true h,decide_eq_true (Tup.ext' h)]
 ·rw [decide_eq_false h,decide_eq_false (fun z=>h (by rw [z]))]
theorem zlJ (I : Inv X pins σ H s) (hu : A.units + (Rep.depth α + 1) < cLine) (h1 : hasT X.K H as x) (h2 : hasT X.K H bs y) (r1 : RelV x u) (r2 : RelV y v) : RcAt A s u v (decide (as = bs)):=by
 obtain ⟨a,xs,rfl,q1,h1⟩:=h1
 obtain ⟨b,ys,rfl,q2,h2⟩:=h2
 cases r1
 cases r2
 obtain ⟨us,ru,pu,_⟩:=I.tuple q1
 obtain ⟨vs,rv,pv,_⟩:=I.tuple q2
 have l1:=ru.length
 have l2:=rv.length
 have m1:=h1.length
 have m2:=h2.length
 have hin : A.in1.units + Rep.depth α < cLine:=Nat.lt_of_le_of_lt (Nat.add_le_add_right zcD _) (by omega)
 have:=RcAt.tuples (A:=A) (s:=s) (l:=a) (b:=b) (items:=us.toArray) (items2:=vs.toArray) (e:=fun j=>decide (as.l[j]? = bs.l[j]?)) pu pv (by omega) (ze3 I hin h1 h2 ru rv)
 rw [zks (as:=as.l) (bs:=bs.l) us.toArray.size vs.toArray.size (by simp; omega) (by simp; omega),← zlV] at this
 exact this
theorem hasT_rn (I : Inv X pins σ H s) (hu : A.units + (Rep.depth α + 1) < cLine) (h1 : hasT X.K H as x) (h2 : hasT X.K H bs y) (r1 : RelV x u) (r2 : RelV y v) : RcNeAt A s u v (!decide (as = bs)):=by
 obtain ⟨a,xs,rfl,q1,h1⟩:=h1
 obtain ⟨b,ys,rfl,q2,h2⟩:=h2
 cases r1
 cases r2
 obtain ⟨us,ru,pu,_⟩:=I.tuple q1
 obtain ⟨vs,rv,pv,_⟩:=I.tuple q2
 have l1:=ru.length
 have l2:=rv.length
 have m1:=h1.length
 have m2:=h2.length
 have hin : A.in1.units + Rep.depth α < cLine:=Nat.lt_of_le_of_lt (Nat.add_le_add_right zcD _) (by omega)
 have:=RcNeAt.tuples (A:=A) (s:=s) (l:=a) (b:=b) (items:=us.toArray) (items2:=vs.toArray) (e:=fun j=>decide (as.l[j]? = bs.l[j]?)) pu pv (by omega) (ze3 I hin h1 h2 ru rv)
 rw [zks (as:=as.l) (bs:=bs.l) us.toArray.size vs.toArray.size (by simp; omega) (by simp; omega),← zlV] at this
 exact this
theorem hasT_eq (I : Inv X pins σ H s) (hu : A.units + (Rep.depth α + 1) < cLine) (h1 : hasT X.K H as x) (h2 : hasT X.K H bs y) (r1 : RelV x u) (r2 : RelV y v) : EqAt A s u v (decide (as = bs)):=by
 have rc:=zlJ (A:=A) I hu h1 h2 r1 r2
 have h1':=id h1
 have h2':=id h2
 obtain ⟨a,xs,rfl,q1,h1⟩:=h1
 obtain ⟨b,ys,rfl,q2,h2⟩:=h2
 cases r1
 cases r2
 by_cases hab : a = b
 ·subst hab
  rw [decide_eq_true (zjn I h1' h2')]
  exact EqAt.same _
 ·exact EqAt.of_refs hab rc
end
instance {α : Type} [Rep α] : Rep (Tup α) where
 dec:=inferInstance
 depth:=Rep.depth α + 1
 has:=hasT
 mono:=fun e ⟨a,xs,h1,h2,h3⟩=>⟨a,xs,h1,h2.ext e,h3.mono e⟩
 inj:=fun I h1 h2=>zjn I h1 h2
 rc:=fun I hu h1 h2 r1 r2=>zlJ I hu h1 h2 r1 r2
 rn:=fun I hu h1 h2 r1 r2=>hasT_rn I hu h1 h2 r1 r2
 eq:=fun I hu h1 h2 r1 r2=>hasT_eq I hu h1 h2 r1 r2
end L2
namespace L2
open PySem PySem.Spec PyProof.Rows
section
variable {X : Cx}
end
end L2
namespace L2
open PySem PySem.Spec PyProof.Rows
section
variable {X : Cx} {K : PySem.W.Frag}
theorem zfO (h : X.K = K:=by rfl) : zdS X (.type "tuple") (fun xs H Q=>∃ p ys,xs = [V.ref p]∧((SqL K H p ys∧∀ l,H l = none→Q (.ref l) (upd H l (.tup ys)))∨(SqT K H p ys∧Q (.ref p) H))):=by
 subst h
 exact zaK
end
end L2
namespace L2
open PySem PySem.Spec PyProof.Rows
section
variable {X : Cx} {K : PySem.W.Frag} {tg : Expr}
theorem zgo {l : Expr} {tl : TE} (hl : PE X l tl) (h : X.K = K:=by rfl) : PI X tg l (iTup K tl):=by
 subst h
 exact zdF hl
end
end L2
namespace L2
open PySem PySem.Spec PyProof.Rows
structure zgQ (scope : Scope) (ps caps : List Str) : Prop where
 kind : scope.kind = .function
 co : scope.isCoroutine = false
 gen : scope.isGenerator = false
 nocell : ∀ x∈scope.names,x.2≠.cell
 par : ∀ x∈ps,scope.names.lookup x = some .local
 cap : ∀ x∈caps,scope.names.lookup x = some .free
 nd : (ps ++ caps).Nodup
def zj8 (P : Program) (w : World) (K : PySem.W.Frag) (mg : Str→Option Value) (base : Heap) (N : List Str) (qual : Str) (scope : Scope) (f : Addr) (cd : Value) (cl : List (Str×Addr)) (A : Around) (outer : List Env) (s : Shared) (H : Hp) : Cx where
 prog:=P
 w:=w
 K:=K
 mg:=mg
 base:=base
 A:=A.deeper (PySem.W.envX qual scope s.heap.objs.size f cd cl)
 N:=N
 s₀:=s
 H₀:=H
 env:=PySem.W.envX qual scope s.heap.objs.size f cd cl
 outer:=outer
 stack:=PySem.W.envX qual scope s.heap.objs.size f cd cl :: outer
 ex:=[]
 calm:=true
 fn:=fun _=>false
 pn:=[]
 xe:=fun _ _=>False
def zl3 (c : Addr) (q : Str) : Heap→Prop:=fun h=>h.CodeRec (.ref c) q
def zfJ (H : Hp) (c : Addr) (q : Str) : Prop:=H c = some (.ext (zl3 c q))
theorem zkc {c : Addr} {q : Str} (h1 h2 : Heap) (x : zl3 c q h1) (k : ∀ o,h1.get? c = some o→h2.get? c = some o) : zl3 c q h2:=by
 obtain ⟨c',o,vs,t,e,ho,r⟩:=x
 cases e
 exact ⟨c,o,vs,t,rfl,k o ho,r⟩
theorem zfJ.rec {P : Program} {w : World} {H : Hp} {h : Heap} {c : Addr} {q : Str} (x : zfJ H c q) (ok : HOk P w H h) : h.CodeRec (.ref c) q:=(ok c _ x).1
theorem zfY {x : Str} {u : Value} : ∀ {ps : List Str} {us : List Value} {i : Nat},ps.Nodup→ps[i]? = some x→us[i]? = some u→(ps.zip us).reverse.lookup x = some u
 | [],_,_,_,e,_=>by simp at e
 | _ :: _,[],_,_,_,e=>by simp at e
 | p :: ps,v :: us,0,hn,e1,e2=>by
  have e1 : p = x:=by simpa using e1
  have e2 : v = u:=by simpa using e2
  subst e1 e2
  rw [List.zip_cons_cons,List.reverse_cons,List.lookup_append]
  have z : (ps.zip us).reverse.lookup p = none:=by
   rw [List.lookup_eq_none_iff]
   intro y hy
   have:=List.of_mem_zip (List.mem_reverse.mp hy)
   simp only [beq_eq_false_iff_ne,ne_eq,bne_iff_ne]
   intro q
   rw [List.nodup_cons] at hn
   first
    | exact hn.1 (q ▸ this.1)
    | (rw [q] at hn; exact hn.1 this.1)
  rw [z]
  simp
 | p :: ps,v :: us,i + 1,hn,e1,e2=>by
  rw [List.nodup_cons] at hn
  have ih:=zfY (ps:=ps) (us:=us) (i:=i) hn.2 (by simpa using e1) (by simpa using e2)
  rw [List.zip_cons_cons,List.reverse_cons,List.lookup_append,ih]
  rfl
def zmu (n : Nat) (tb : TE) (vcs : List V) (c : Addr) (q : Str) : Sp:=fun vs H Q _=>vs.length = n∧zfJ H c q∧tb (vs.map some ++ vcs.map some) H Q
theorem lam_ok {P : Program} {w : World} {K : PySem.W.Frag} {mg : Str→Option Value} {base : Heap} {k : Nat} {f c : Addr} {name qual : Str} {params : Arguments} {body : Expr} {scope : Scope} {cl : List (Str×Addr)} {pm ctv : Value} {ps caps : List Str} {vcs : List V} {tb : TE}
  (S : zgQ scope ps caps) (hf : base.get? f = some (PySem.W.kla_obj name qual params body scope cl pm c ctv)) (hlen : vcs.length = caps.length)
  (hcap : ∀ (j : Nat) (x : Str) (v : V),caps[j]? = some x→vcs[j]? = some v→∃ a u,cl.lookup x = some a∧base.IsCell a (some u)∧RelV v u)
  (hcell : ∀ x a,cl.lookup x = some a→∃ v,base.IsCell a v) (hinj : ∀ x y a,cl.lookup x = some a→cl.lookup y = some a→x = y) (hhas : ∀ x,scope.names.lookup x = some .free→∃ a,cl.lookup x = some a)
  (hb : ∀ (A : Around) (outer : List Env) (s : Shared) (H : Hp),Room k (A.deeper (PySem.W.envX qual scope s.heap.objs.size f (.ref c) cl))→PE (zj8 P w K mg base (ps ++ caps) qual scope f (.ref c) cl A outer s H) body tb) :
  FnOk P w K mg base CX0 (k + 1) f (PySem.W.kla_fn name qual params body scope cl pm (.ref c) ctv) ps (zmu ps.length tb vcs c qual):=by
 refine ⟨fun vs H Q E h=>h.1,fun A outer s H args us vs Q E hr e0 hbind r hsp=>?_⟩
 obtain ⟨hl,hc,hq⟩:=hsp
 have bk : ∀ b o,base.get? b = some o→s.heap.get? b = some o:=fun b o e=>(e0.bs b o e).1
 have hul : us.length = ps.length:=by rw [← r.length]; exact hl
 refine PySem.W.kla_callFunE hr.depth (bk _ _ hf) rfl S.co S.gen rfl (hc.rec e0.hok) ?_
 refine hbind _ _ _ _ ?_
 refine wpAny_newFunctionEnv S.nocell (fun y hy=>S.par _ (List.of_mem_zip hy).1) (fun h1 hns hsb=>⟨(e0.mod.nolimit.keeps bk).fresh _ hsb,?_⟩) S.kind
 show codeAny _ _ (.expr body (PySem.W.envX qual scope s.heap.objs.size f (.ref c) cl)) _ _
 have hk : ∀ b o,s.heap.get? b = some o→h1.get? b = some o:=fun b o e=>hsb.extBut b o (Nat.ne_of_lt (Heap.lt_size e)) (Heap.get?_push_of_some _ e)
 have cellK : ∀ a v,base.IsCell a v→h1.IsCell a v∧H a = none:=fun a v ⟨o,ho,hd⟩=>⟨⟨o,hk _ _ (bk _ _ ho),hd⟩,(e0.bs _ _ ho).2⟩
 have ndps : ps.Nodup:=(List.nodup_append.mp S.nd).1
 have noA : ∀ b : Addr,b∉([] : List Addr):=fun b z=>absurd z (by simp)
 have I : Inv (zj8 P w K mg base (ps ++ caps) qual scope f (.ref c) cl A outer s H) [] (vs.map some ++ vcs.map some) H { s with heap:=h1,toks:=s.toks + (ps.zip us).length }:=by
  refine ⟨⟨e0.mod,S.kind,rfl,rfl,Nat.le_refl _,hinj,fun y hy=>?_,fun y a z _=>(by cases z),fun _=>hr.hd,Around.frames_deeper e0.frames,.inr ⟨rfl,rfl⟩,fun b z=>absurd z (noA b),e0.bs,e0.bsz,fun b _ _=>noA b,fun b z=>absurd z (noA b),e0.funs,e0.frf⟩,
   rfl,e0.bare,Un.kept hk,⟨_,hns,fun i y v h1' h2 h3=>?_⟩,fun y a h=>?_,e0.hok.fresh (Nat.le_refl _),fun y a h=>?_,fun p hp=>absurd (show p∈([] : List (Addr×Obj)) from hp) (by simp),e0.hok.kept hk,?_⟩
  ·have hy : scope.names.lookup y = some .cell∨scope.names.lookup y = some .free:=hy
   rcases hy with hy | hy
   ·exact absurd rfl (S.nocell _ (PySem.mem_of_lookup hy))
   ·exact hhas y hy
  ·have h1' : (ps ++ caps)[i]? = some y:=h1'
   by_cases hi : i < ps.length
   ·rw [List.getElem?_append_left hi] at h1'
    rw [List.getElem?_append_left (by rw [List.length_map]; omega),List.getElem?_map] at h2
    cases e : vs[i]? with
    | none=>rw [e] at h2; cases h2
    | some v'=>
     rw [e] at h2
     cases h2
     obtain ⟨u,hu,ru⟩:=r.get e
     exact ⟨u,ru,.inl ⟨S.par y (List.mem_of_getElem? h1'),zfY ndps h1' hu⟩⟩
   ·rw [List.getElem?_append_right (by omega)] at h1'
    rw [List.getElem?_append_right (by rw [List.length_map]; omega),List.length_map,List.getElem?_map] at h2
    cases e : vcs[i - vs.length]? with
    | none=>rw [e] at h2; cases h2
    | some v'=>
     rw [e] at h2
     cases h2
     rw [hl] at e
     obtain ⟨a,u,e1,e2,ru⟩:=hcap _ _ _ h1' e
     exact ⟨u,ru,.inr ⟨.inr (S.cap y (List.mem_of_getElem? h1')),a,e1,(cellK _ _ e2).1⟩⟩
  ·obtain ⟨v,z⟩:=hcell y a h
   exact ⟨v,(cellK _ _ z).1⟩
  ·obtain ⟨v,z⟩:=hcell y a h
   exact (cellK _ _ z).2
  ·show (vs.map some ++ vcs.map some).length = (ps ++ caps).length
   rw [List.length_append,List.length_append,List.length_map,List.length_map,hl,hlen]
 refine PySem.W.kla_codeExpr (wpAny_mono (hb A outer s H (hr.deeper _) [] _ _ H Q I hq) (fun u s' hu=>?_) fun _ _ z=>(show False from z).elim)
 obtain ⟨v,H',J,rv,q⟩:=hu
 exact ⟨v,H',J.os,J.bare,J.base,J.hok,rv,q⟩
end L2
namespace L2
open PySem PySem.Spec PyProof.Rows
def Gro (Pt : Addr) (H H' : Hp) : Prop:=∀ b o,b≠Pt→H b = some o→H' b = some o
theorem Gro.refl (Pt : Addr) (H : Hp) : Gro Pt H H:=fun _ _ _ h=>h
theorem Gro.trans {Pt : Addr} {H H1 H2 : Hp} (a : Gro Pt H H1) (b : Gro Pt H1 H2) : Gro Pt H H2:=fun c o n h=>b c o n (a c o n h)
structure zbh (H : Hp) (Pt : Addr) (pos : Pos) (q : Str) : Prop where
 ex : ∃ tab : Array Value,H Pt = some (.tbl tab)∧TriplesOk tab.toList∧(codeAmong pos tab.toList = none∨∃ c,codeAmong pos tab.toList = some (.ref c)∧zfJ H c q)
theorem zbh.ext {H H' : Hp} {Pt : Addr} {pos : Pos} {q : Str} (x : zbh H Pt pos q) (e : Ext H H') : zbh H' Pt pos q:=by
 obtain ⟨tab,h1,h2,h3⟩:=x.ex
 refine ⟨tab,e _ _ h1 (fun _ z=>nomatch z),h2,?_⟩
 rcases h3 with h3 | ⟨c,h3,h4⟩
 ·exact .inl h3
 ·exact .inr ⟨c,h3,e _ _ h4 (fun _ z=>nomatch z)⟩
theorem zbh.gro {H H' : Hp} {Pt P2 : Addr} {pos : Pos} {q : Str} (x : zbh H Pt pos q) (e : Gro P2 H H') (hne : Pt≠P2) (h2 : ∃ tab,H P2 = some (.tbl tab)) : zbh H' Pt pos q:=by
 obtain ⟨tab,h1,h3,h4⟩:=x.ex
 refine ⟨tab,e _ _ hne h1,h3,?_⟩
 rcases h4 with h4 | ⟨c,h4,h5⟩
 ·exact .inl h4
 ·refine .inr ⟨c,h4,e _ _ (fun z=>?_) h5⟩
  obtain ⟨tab2,y⟩:=h2
  rw [← z,show H c = _ from h5] at y
  cases y
def BMAt (mg : Str→Option Value) (base : Heap) : Prop:=∃ bm o,mg "__builtins__" = some (.ref bm)∧bm≠builtinsNs∧bm≠mainGlobals∧base.get? bm = some o∧o.cls = .type "module"∧o.dict = some builtinsNs∧o.data = .plain
section
variable {X : Cx} {pins : List (Addr×Obj)} {σ : St} {H : Hp} {s : Shared} {params : Arguments} {body : Expr} {scope : Scope} {lpos : Pos} {c Pt : Addr} {Q : Value→Shared→Prop}
theorem znd {c' : Addr} {q : Str} {tab more : Array Value} {h' : Heap} {tk : Nat} (I : Inv X pins σ H s) (hP : H Pt = some (.tbl tab)) (hx : ∀ b o,b≠Pt→s.heap.get? b = some o→h'.get? b = some o) (hge : s.heap.objs.size≤c')
  (hrec : h'.CodeRec (.ref c') q) (htb : h'.get? Pt = some (PySem.W.tabObj (tab ++ more))) : Inv X pins σ (upd (upd H Pt (.tbl (tab ++ more))) c' (.ext (zl3 c' q))) { s with heap:=h',toks:=tk }:=by
 have hfr : H c' = none:=I.hok.fresh hge
 have nPc : Pt≠c':=zab hP hfr
 have low : ∀ b u,H b = some u→b≠c':=fun b u e=>zab e hfr
 have lows : ∀ b o,s.heap.get? b = some o→b≠c':=fun b o e=>Nat.ne_of_lt (Nat.lt_of_lt_of_le (Heap.lt_size e) hge)
 have nP : ∀ b,H b = none→b≠Pt:=fun b n z=>by rw [z,hP] at n; cases n
 refine I.un (t':=tk) ⟨fun b o e n _ _=>hx b o (nP b n) e,fun b o e n _ _=>⟨o.slots,hx b o (nP b n) e⟩,fun b o e n _=>?_,fun b o e _=>?_,fun b xs e=>?_,fun b o u e=>?_,fun b ps e=>?_⟩ fun a o e=>?_
 ·rw [zag (lows b o e),zag (nP b n)]
  exact n
 ·by_cases z : b = Pt
  ·exact ⟨_,by rw [z]; exact htb⟩
  ·exact ⟨o,hx b o z e⟩
 ·rw [zag (low b _ e),zag (fun z=>by rw [z,hP] at e; cases e)]
  exact e
 ·rw [zag (low b _ e),zag (fun z=>by rw [z,hP] at e; cases e)]
  exact e
 ·by_cases z : b = Pt
  ·rw [z,hP] at e
   cases e
   exact ⟨more,by rw [z,zag nPc,zac]⟩
  ·exact ⟨#[],by rw [zag (low b _ e),zag z,e]; simp⟩
 ·by_cases z : a = c'
  ·subst z
   rw [zac] at e
   cases e
   obtain ⟨c2,o2,vs,t,e2,ho2,r2⟩:=id hrec
   cases e2
   exact ⟨hrec,⟨o2,ho2⟩,fun h1 h2 x k=>zkc h1 h2 x k⟩
  ·rw [zag z] at e
   by_cases y : a = Pt
   ·subst y
    rw [zac] at e
    cases e
    exact htb
   ·rw [zag y] at e
    refine (I.hok a o e).stay (fun b u hb q=>hx b u ?_ q) (fun b q=>?_) fun b xs q=>?_
    ·rcases hb with rfl | hb
     ·exact y
     ·intro z2
      rw [z2,hP] at hb
      cases hb
    ·rw [zag (low b _ q),zag (fun z2=>by rw [z2,hP] at q; cases q)]
     exact q
    ·rw [zag (low b _ q),zag (fun z2=>by rw [z2,hP] at q; cases q)]
     exact q
theorem zm3 (I : Inv X pins σ H s) (hdef : defaultsOf params X.env = ([],[])) (hfr : ∀ x,(x,NameKind.free)∈scope.names→(X.env.kindOf x = some .cell∨X.env.kindOf x = some .free)) (hcode : X.env.code = .ref c) (hC : PySem.W.codeHdIn X.K c Pt = true) (hBM : BMAt X.mg X.base)
  (hT : zbh H Pt lpos (X.env.qual ++ "<lambda>"))
  (h : ∀ (f c' : Addr) (cl : List (Str×Addr)) (pm ctv : Value) (H' : Hp) (s' : Shared),zhP scope X.env cl→Inv X pins σ H' s'→s'.heap.get? f = some (PySem.W.kla_obj "<lambda>" (X.env.qual ++ "<lambda>") params body scope cl pm c' ctv)→H' f = none→s.heap.objs.size≤f→
   Gro Pt H H'→zbh H' Pt lpos (X.env.qual ++ "<lambda>")→zfJ H' c' (X.env.qual ++ "<lambda>")→Q (.ref f) s') :
  wpAny (model X.prog X.w) X.A (eval (.Lambda params body scope lpos) X.env) Q X.xe s:=by
 obtain ⟨cl,hcl⟩:=zfB (scope:=scope) (env:=X.env) fun x hx=>I.ok.has x (hfr x hx)
 obtain ⟨tab,hP,ht,hor⟩:=hT.ex
 have hPo : s.heap.get? Pt = some (PySem.W.tabObj tab):=I.hok Pt _ hP
 have C : PySem.W.CodeHd s.heap c Pt:=(PySem.W.codeHd_of_K I.ok.mod.kin hC).keeps I.bk
 have hgl:=I.mod.glob.keeps I.bk
 have hgP : mainGlobals≠Pt:=fun z=>by
  obtain ⟨o,es,ep,e,_⟩:=I.mod.glob
  have:=(I.bs _ _ e).2
  rw [z,hP] at this
  cases this
 have hb : s.heap.BuiltinsAt X.mg Pt:=by
  obtain ⟨bm,o,b1,b2,b3,b4,b5⟩:=hBM
  refine ⟨bm,o,b1,b2,b3,fun z=>?_,I.bk _ _ b4,b5⟩
  have:=(I.bs _ _ b4).2
  rw [z,hP] at this
  cases this
 refine PySem.W.kla_eval hdef ?_
 rcases hor with hnone | ⟨c',hsome,hca⟩
 ·refine PySem.W.kla_makeFunction (clos:=cl) hcl.eq I.ok.glob hgl hcode C hPo ht hnone hgP hb fun c' ctv h' tk hx hge hlt hrec htb=>?_
  have hx' : ∀ o2 b o,b≠Pt→s.heap.get? b = some o→(h'.push o2).get? b = some o:=fun o2 b o n e=>Heap.get?_push_of_some _ (hx b o n e)
  have I':=znd (c':=c') (q:=X.env.qual ++ "<lambda>") (tk:=tk) I hP (hx' _) hge (hrec.push (PySem.W.kla_obj "<lambda>" (X.env.qual ++ "<lambda>") params body scope cl ((X.mg "__name__").getD .none) c' ctv)) (Heap.get?_push_of_some _ htb)
  have hsz : s.heap.objs.size≤h'.objs.size:=Nat.le_of_lt (Nat.lt_of_le_of_lt hge hlt)
  have nPc : Pt≠c':=zab hP (I.hok.fresh hge)
  have eT : (tab ++ #[rawInt lpos.line,rawInt lpos.col,.ref c']).toList = tab.toList ++ [rawInt lpos.line,rawInt lpos.col,.ref c']:=by simp
  have hTI : zbh (upd (upd H Pt (.tbl (tab ++ #[rawInt lpos.line,rawInt lpos.col,.ref c']))) c' (.ext (zl3 c' (X.env.qual ++ "<lambda>")))) Pt lpos (X.env.qual ++ "<lambda>"):=
   ⟨_,by rw [zag nPc,zac],by rw [eT]; exact TriplesOk_snoc _ _ _ _ ht,.inr ⟨c',by rw [eT]; exact codeAmong_snoc _ ht hnone,zac⟩⟩
  refine h h'.objs.size c' cl _ ctv _ _ hcl I' (Heap.get?_push_size _ rfl) ?_ hsz ?_ hTI zac
  ·rw [zag (Nat.ne_of_gt hlt),zag (fun z=>?_)]
   ·exact I.hok.fresh hsz
   ·have:=Heap.lt_size hPo
    rw [← z] at this
    exact absurd this (Nat.not_lt.mpr hsz)
  ·intro b o n e
   rw [zag (zab e (I.hok.fresh hge)),zag n]
   exact e
 ·refine PySem.W.kla_makeFunctionHit (clos:=cl) hcl.eq I.ok.glob hgl hcode C hPo ht hsome hb fun ctv h' tk hk hsz=>?_
  exact h h'.objs.size c' cl _ ctv H _ hcl (I.kept (t':=tk) fun b o e=>Heap.get?_push_of_some _ (hk b o e)) (Heap.get?_push_size _ rfl) (I.hok.fresh hsz) hsz (Gro.refl _ _) hT hca
end
end L2
namespace L2
open PySem PySem.Spec PyProof.Rows
def zc0 (X : Cx) (s : Shared) (H : Hp) : Heap:=PySem.W.hideAll s.heap (trk s.heap H ++ frs X.stack)
theorem zdR {h b1 b2 : Heap} : ∀ {l : List Env},h.FunFrames b1 l→(∀ b∈frs l,b2.get? b = none)→h.FunFrames b2 l
 | [],_,_=>trivial
 | env :: l,⟨h1,⟨L,o,h2,h3,h4,h5⟩,h6⟩,k=>by
  have m : ∀ b∈frs l,b∈frs (env :: l):=fun b hb=>by
   unfold frs
   rw [List.filterMap_cons,h2]
   exact List.mem_cons_of_mem _ hb
  refine ⟨h1,⟨L,o,h2,k L ?_,h4,h5⟩,zdR h6 fun b hb=>k b (m b hb)⟩
  unfold frs
  rw [List.filterMap_cons,h2]
  exact List.mem_cons_self
section
variable {X : Cx} {pins : List (Addr×Obj)} {σ : St} {H : Hp} {s : Shared}
theorem zer {b : Addr} {o : Obj} (e : s.heap.get? b = some o) (n : H b = none) (hf : b∉frs X.stack) : (zc0 X s H).get? b = some o:=
 PySem.W.hideAll_get _ e fun hm=>by
  rcases List.mem_append.mp hm with z | z
  ·have q : (H b).isSome = true:=(List.mem_filter.mp z).2
   rw [n] at q
   cases q
  ·exact hf z
theorem zhn {b : Addr} {o : Obj} (e : (zc0 X s H).get? b = some o) : s.heap.get? b = some o∧H b = none∧b∉frs X.stack:=by
 have e1:=PySem.W.of_hideAll _ e
 have hm : b∉trk s.heap H ++ frs X.stack:=fun z=>by
  unfold zc0 at e
  rw [PySem.W.hideAll_none _ z] at e
  cases e
 rw [List.mem_append,not_or] at hm
 refine ⟨e1,?_,hm.2⟩
 cases q : H b with
 | none=>rfl
 | some u=>exact absurd (List.mem_filter.mpr ⟨List.mem_range.mpr (Heap.lt_size e1),by rw [q]; rfl⟩) hm.1
theorem zf8 (I : Inv X pins σ H s) : ∀ b o,X.base.get? b = some o→(zc0 X s H).get? b = some o:=fun b o e=>by
 obtain ⟨h1,h2⟩:=I.bs b o e
 refine zer h1 h2 fun z=>?_
 have:=(I.stack.mem z).1
 rw [e] at this
 cases this
theorem zix (I : Inv X pins σ H s) : Env0 X.prog X.w X.K X.mg (zc0 X s H) X.A X.stack s H:=by
 have sub:=zf8 I
 refine ⟨I.ok.frames,⟨I.mod.kin.keeps sub,I.mod.glob.keeps sub,?_,I.mod.nolimit.keeps sub⟩,fun b o e=>⟨(zhn e).1,(zhn e).2.1⟩,Nat.le_of_eq (PySem.W.hideAll_size _ _),zdR I.stack fun b hb=>PySem.W.hideAll_none _ (List.mem_append_right _ hb),I.stkFree,I.hok,I.bare⟩
 obtain ⟨mb,h1,h2⟩:=I.mod.blt
 exact ⟨mb,h1.keeps sub,h2⟩
end
structure FV (P : Program) (w : World) (K : PySem.W.Frag) (mg : Str→Option Value) (base : Heap) (k : Nat) (f : Addr) (ps : List Str) (sp : Sp) : Prop where
 ex : ∃ fd,FnOk P w K mg base CX0 k f fd ps sp∧zgR K fd ps []∧PySem.W.FnAt f base
section
variable {X : Cx}
def tCallV (X : Cx) (kr : Nat) (tf : TE) (t : TA) : TE:=fun σ H Q=>tf σ H fun x H1=>∃ f k ps sp,x = .ref f∧FV X.prog X.w X.K X.mg X.base k f ps sp∧k≤kr∧t σ H1 fun vs H2=>sp vs H2 Q E0
theorem zgq {kr : Nat} {x : Str} {e : Expr} {es : List Expr} {tf : TE} {t : TA} {p pos : Pos} (hr : Room kr X.A) (hf : PE X (.Name x p) tf) (ha : PA X (e :: es) t)
  (he : starEach (e :: es) X.env = (false,eval e X.env) :: starEach es X.env:=by rfl) (hpl : (backTo pos (starEach es X.env)).any (·.1) = false:=by rfl) : PE X (.Call (.Name x p) (e :: es) [] pos) (tCallV X kr tf t):=by
 intro pins s σ H Q I h
 refine wpAny_Call_Name_kw (thn (hf pins s σ H _ I h) fun u s1 ⟨x1,H1,I1,r1,q1⟩=>?_)
 obtain ⟨f,k,ps,sp,rfl,hF,hk,q⟩:=q1
 cases r1
 obtain ⟨fd,ok,bd,oc,od,fd2,sl,ho⟩:=hF.ex
 refine PySem.W.callWith_F ⟨oc,od,fd2,sl,I1.bk _ _ ho⟩ (thn (ha pos pins s1 σ H1 _ I1 q) fun us s2 ⟨vs,H2,I2,r,q2⟩=>⟨⟨oc,od,fd2,sl,I2.bk _ _ ho⟩,?_⟩) he hpl
 exact znF ok (hr.mono hk) bd .nil pass0 I2 r (by rw [List.append_nil]; exact q2)
structure zmi (X : Cx) (params : Arguments) (body : Expr) (scope : Scope) (ps caps : List Str) (cap : List Nat) : Prop where
 sc : zgQ scope ps caps
 frees : ∀ x,(x,NameKind.free)∈scope.names→(X.env.kindOf x = some .cell∨X.env.kindOf x = some .free)
 capAt : ∀ (j : Nat) (x : Str),caps[j]? = some x→∃ i : Nat,cap[j]? = some i∧X.N[i]? = some x∧(X.env.kindOf x = some .cell∨X.env.kindOf x = some .free)
 dflt : defaultsOf params X.env = ([],[])
 binds : ∀ (cl : List (Str×Addr)) (pm cdv ct : Value) (us : List Value),us.length = ps.length→bindArgs (PySem.W.kla_fn "<lambda>" (X.env.qual ++ "<lambda>") params body scope cl pm cdv ct) ⟨us,[]⟩ = pure (ps.zip us)
 own : ∀ x,X.fn x = true
def tCallLam (X : Cx) (n kf : Nat) (ps : List Str) (cap : List Nat) (Pt : Addr) (lpos : Pos) (tb te : TE) (spH : Heap→Sp) : TE:=fun σ H Q=>te σ H fun x1 H1=>zbh H1 Pt lpos (X.env.qual ++ "<lambda>")∧∃ vcs : List V,vcs.length = n∧(∀ (j i : Nat) (v : V),cap[j]? = some i→vcs[j]? = some v→σ[i]? = some (some v))∧
 ∀ (base : Heap) (f c' : Addr) (H2 : Hp),Gro Pt H1 H2→zbh H2 Pt lpos (X.env.qual ++ "<lambda>")→zfJ H2 c' (X.env.qual ++ "<lambda>")→FV X.prog X.w X.K X.mg base kf f ps (zmu ps.length tb vcs c' (X.env.qual ++ "<lambda>"))→spH base [x1,.ref f] H2 Q E0
end
end L2
namespace L2
open PySem PySem.Spec PyProof.Rows
theorem zls {P : Program} {w : World} {K : PySem.W.Frag} {mg mb : Str→Option Value} {CX : CXT} {k : Nat} {fa a : Addr} {fd : FuncData} {x : Str} {sp : Sp} {s₁ : Shared} {vs : List Value} {ns : List Int} {tabs : List (Addr×Addr)}
  (KX : K.In s₁.heap) (hns : s₁.heap.Ns mainGlobals mg) (hb : s₁.heap.Ns builtinsNs mb) (hbb : ∀ x : Str,x ≠ "__name__"→mb x = bootBuiltins x) (hlim : s₁.heap.NoLimit) (hg : s₁.gens = #[]) (hBM : BMAt mg s₁.heap)
  (hT : PySem.W.TabsAt tabs s₁.heap) (hKT : ∀ q∈tabs,K.lookup q.2 = none)
  (ha : s₁.heap.get? a = some { cls:=.type "list",data:=.seq vs.toArray }) (hi : IntsAre vs ns) (hl : ns.length≤sizeLine) (hr : Room k callerA)
  (F : ∀ base : Heap,K.In base→base.Ns mainGlobals mg→BMAt mg base→FnOk P w K mg base CX k fa fd [x] sp) (hbind : ∀ (s : Shared) (u : Value),BindsTo s fd ⟨[u],[]⟩ [(x,u)])
  (hsp : ∀ H : Hp,(∀ q∈tabs,H q.2 = some (.tbl #[]))→SqL K H a (ns.map V.int)→sp [.ref a] H (fun v _=>v = .bl true) fun _ _ _=>False)
  (hCX : ∀ H e s',CX [] H s₁ (fun _ _ _=>False) e s'→False) :
  codeAny (model P w) callerA (.call (.ref fa) ⟨[.ref a],[]⟩) (fun r s'=>r = .ok (.ret (.bool true))∧OldK s₁.heap s'.heap∧s'.os = s₁.os∧AllBare s'.gens) s₁:=by
 have rv:=zgV hi
 have lenV:=hi.length
 have tabO : ∀ b,b∈tabs.map (·.2)→s₁.heap.get? b = some (PySem.W.tabObj #[])∧isCodeTable s₁.heap b∧K.lookup b = none:=fun b hm=>by
  obtain ⟨q,hq,rfl⟩:=List.mem_map.mp hm
  exact ⟨(hT q hq).2,((hT q hq).1.tab (hT q hq).2).isCodeTable,hKT q hq⟩
 have nat : a∉tabs.map (·.2):=fun z=>by
  have:=(tabO a z).1
  rw [ha] at this
  cases this
 have core : ∀ Hs : Hp,(∀ b,Hs b = none∨(b = a∧Hs b = some (.frz { cls:=.type "list",data:=.seq vs.toArray } (.lst (ns.map V.int)))))→(∀ H : Hp,(∀ b,b∉tabs.map (·.2)→H b = Hs b)→SqL K H a (ns.map V.int))→(Hs a≠none→K.lookup a = none)→
   codeAny (model P w) callerA (.call (.ref fa) ⟨[.ref a],[]⟩) (fun r s'=>r = .ok (.ret (.bool true))∧OldK s₁.heap s'.heap∧s'.os = s₁.os∧AllBare s'.gens) s₁:=by
  intro Hs hO hS hK
  obtain ⟨H,hH⟩ : ∃ H : Hp,H = fun b=>if b∈tabs.map (·.2) then some (.tbl #[]) else Hs b:=⟨_,rfl⟩
  have H1 : ∀ b,b∈tabs.map (·.2)→H b = some (.tbl #[]):=fun b z=>by rw [hH]; exact if_pos z
  have H2 : ∀ b,b∉tabs.map (·.2)→H b = Hs b:=fun b z=>by rw [hH]; exact if_neg z
  have cases3 : ∀ b,H b = none∨(b = a∧H b = some (.frz { cls:=.type "list",data:=.seq vs.toArray } (.lst (ns.map V.int))))∨(b∈tabs.map (·.2)∧H b = some (.tbl #[])):=fun b=>by
   by_cases z : b∈tabs.map (·.2)
   ·exact .inr (.inr ⟨z,H1 b z⟩)
   ·rcases hO b with y | ⟨y1,y2⟩
    ·exact .inl ((H2 b z).trans y)
    ·exact .inr (.inl ⟨y1,(H2 b z).trans y2⟩)
  have hok : HOk P w H s₁.heap:=fun b u e=>by
   rcases cases3 b with y | ⟨y1,y2⟩ | ⟨y1,y2⟩
   ·rw [y] at e; cases e
   ·rw [y2] at e
    cases e
    subst y1
    exact ⟨ha,by rw [List.length_map]; exact hl,vs,_,rv,ha⟩
   ·rw [y2] at e
    cases e
    exact (tabO b y1).1
  have base_of : ∀ {b : Addr} {o : Obj},s₁.heap.get? b = some o→H b = none→(hidT s₁.heap H).get? b = some o:=fun e n=>zna e n
  have noD : ∀ {b : Addr} {o : Obj},s₁.heap.get? b = some o→(∀ xs n,o.data≠.seq xs n)→(∀ xs,o.data≠.fields xs)→H b = none:=fun {b o} e d1 d2=>by
   rcases cases3 b with y | ⟨y1,y2⟩ | ⟨y1,y2⟩
   ·exact y
   ·subst y1
    rw [ha] at e
    cases e
    exact absurd rfl (d1 _ _)
   ·rw [(tabO b y1).1] at e
    cases e
    exact absurd rfl (d2 _)
  have nsK : ∀ {b : Addr} {m : Str→Option Value},s₁.heap.Ns b m→(hidT s₁.heap H).Ns b m:=fun {b m} ⟨o,es,ep,e,d,r⟩=>⟨o,es,ep,base_of e (noD e (fun _ _ z=>by rw [d] at z; cases z) (fun _ z=>by rw [d] at z; cases z)),d,r⟩
  have hKb : K.In (hidT s₁.heap H):=fun b o e=>base_of (KX b o e) (by
   rcases cases3 b with y | ⟨y1,y2⟩ | ⟨y1,y2⟩
   ·exact y
   ·subst y1
    rw [hK (by rw [← H2 b nat,y2]; exact fun z=>nomatch z)] at e
    cases e
   ·rw [(tabO b y1).2.2] at e
    cases e)
  have hM : Mod K mg (hidT s₁.heap H):=⟨hKb,nsK hns,⟨mb,nsK hb,hbb⟩,let ⟨mc,h1,h2⟩:=hlim; ⟨mc,nsK h1,h2⟩⟩
  have hBMb : BMAt mg (hidT s₁.heap H):=by
   obtain ⟨bm,o,b1,b2,b3,b4,b5,b6,b7⟩:=hBM
   exact ⟨bm,o,b1,b2,b3,base_of b4 (noD b4 (fun _ _ z=>by rw [b7] at z; cases z) (fun _ z=>by rw [b7] at z; cases z)),b5,b6,b7⟩
  have e0 : Env0 P w K mg (hidT s₁.heap H) callerA [] s₁ H:=⟨rfl,hM,fun b o e=>zoz e,Nat.le_of_eq (zlI _ _),trivial,fun b hb=>absurd (show b∈([] : List Addr) from hb) (by simp),hok,.of_eq hg⟩
  refine codeAny_mono ((F _ hKb (nsK hns) hBMb).run callerA [] s₁ H ⟨[.ref a],[]⟩ [.ref a] [.ref a] _ _ hr e0 (hbind s₁ (.ref a)) (.cons rfl .nil) (hsp H (fun q hq=>H1 _ (List.mem_map_of_mem hq)) (hS H H2))) fun r s' h=>?_
  cases r with
  | error e=>exact (hCX H e s' h).elim
  | ok fl=>
   cases fl with
   | next=>exact False.elim h
   | brk=>exact False.elim h
   | cont=>exact False.elim h
   | ret u=>
    obtain ⟨v,H',os,bare,un,hok',r',q⟩:=h
    have q' : v = .bl true:=q
    subst q'
    obtain rfl : u = Value.bool true:=r'
    have keep : ∀ b o,H b = none→s₁.heap.get? b = some o→s'.heap.get? b = some o:=fun b o n e=>un.keep b o e n (by intro z; exact absurd (show b∈([] : List Addr) from z) (by simp)) (by simp)
    have frz : ∀ b o,b = a→H b = some (.frz { cls:=.type "list",data:=.seq vs.toArray } (.lst (ns.map V.int)))→s₁.heap.get? b = some o→s'.heap.get? b = some o:=fun b o y1 y2 e=>by
     obtain ⟨e1,_⟩:=hok b _ y2
     obtain ⟨e2,_⟩:=hok' b _ (un.frzs b _ _ y2)
     rw [e] at e1
     cases e1
     exact e2
    have tbl : ∀ b,H b = some (.tbl #[])→∃ ps,s'.heap.get? b = some (PySem.W.tabObj ps):=fun b y=>by
     obtain ⟨more,e⟩:=un.tbls b _ y
     exact ⟨_,hok' b _ e⟩
    refine ⟨rfl,⟨fun b o e=>?_,fun b o e=>?_⟩,os,bare⟩
    ·rcases cases3 b with y | ⟨y1,y2⟩ | ⟨y1,y2⟩
     ·exact .inl (keep b o y e)
     ·exact .inl (frz b o y1 y2 e)
     ·obtain ⟨ps,hp⟩:=tbl b y2
      obtain ⟨t1,t2,_⟩:=tabO b y1
      rw [e] at t1
      cases t1
      exact .inr (.inl ⟨t2,rfl,#[],ps,rfl,by rw [Array.empty_append]; exact hp⟩)
    ·rcases cases3 b with y | ⟨y1,y2⟩ | ⟨y1,y2⟩
     ·exact ⟨o,keep b o y e⟩
     ·exact ⟨o,frz b o y1 y2 e⟩
     ·obtain ⟨ps,hp⟩:=tbl b y2
      exact ⟨_,hp⟩
 cases hk : K.lookup a with
 | some o=>
  have e:=KX a o hk
  rw [ha] at e
  cases e
  exact core (fun _=>none) (fun _=>.inl rfl) (fun H _=>.inr ⟨_,vs.toArray,_,hk,rfl,rfl,rfl,by rw [List.size_toArray,lenV]; exact hl,by simpa using rv⟩) fun z=>absurd rfl z
 | none=>
  refine core (fun b=>if b = a then some (.frz { cls:=.type "list",data:=.seq vs.toArray } (.lst (ns.map V.int))) else none) (fun b=>?_) (fun H h=>.inl (.inr ⟨{ cls:=.type "list",data:=.seq vs.toArray },by rw [h a nat]; exact if_pos rfl⟩)) fun _=>hk
  by_cases z : b = a
  ·exact .inr ⟨z,if_pos z⟩
  ·exact .inl (if_neg z)
theorem zmn {l : PySem.W.OpenLaw} {n k : Nat} {q : Program} {loose : List Str} {XP : (Str→Option Value)→Heap→Prop} {YP : World→Heap→Prop} {d : DefRec} {K : Params→PySem.W.Frag} {sp : World→Sp} {x : Str} {tabs : List (Addr×Addr)}
  (hn : l.most = some n) (hn2 : n≤sizeLine) (hdf : d.params.defaults = []) (hr : Room k callerA)
  (hY : ∀ (w : World) (h : Heap),YP w h→(K w.params).In h) (hYT : ∀ (w : World) (h : Heap),YP w h→∀ q∈tabs,h.get? q.2 = some (PySem.W.tabObj #[]))
  (hC : ∀ (w : World),∀ q∈tabs,PySem.W.codeHdIn (K w.params) q.1 q.2 = true∧(K w.params).lookup q.2 = none)
  (F : ∀ (w : World) (mg : Str→Option Value) (fa : Addr) (h : Heap),(K w.params).In h→h.Ns mainGlobals mg→mg d.name = some (.ref fa)→
   ∃ fd : FuncData,(∀ (s : Shared) (u : Value),BindsTo s fd ⟨[u],[]⟩ [(x,u)])∧
    ∀ base : Heap,(K w.params).In base→base.Ns mainGlobals mg→BMAt mg base→FnOk l.prog w (K w.params) mg base CX0 k fa fd [x] (sp w))
  (hsp : ∀ (w : World) (H : Hp) (a : Addr) (ns : List Int),ns.length≤n→(∀ q∈tabs,H q.2 = some (.tbl #[]))→SqL (K w.params) H a (ns.map V.int)→sp w [.ref a] H (fun v _=>v = .bl true) fun _ _ _=>False) :
  PySem.W.WalkO q loose XP YP l.row.toRowW d [] (fun f vs=>PySem.call f vs):=by
 refine Att.attach_call hn hdf fun w s₀ s₁ mg mb fa o pm cd doc a vs ns G Y ho hd hcd hmg hobj hints hlen hg=>?_
 have KX:=hY w _ Y
 obtain ⟨fd,hb,hF⟩:=F w mg fa _ KX G.T.g hmg
 have hBM : BMAt mg s₁.heap:=by
  obtain ⟨bm,ob,b1,b2,b3,b4,b5,b6⟩:=G.T.bmain
  refine ⟨bm,ob,b1,b2,fun z=>?_,b3,b4,b5,b6⟩
  obtain ⟨o,es,ep,e,hd,_⟩:=G.T.g
  rw [z,e] at b3
  cases b3
  rw [hd] at b6
  cases b6
 exact zls (tabs:=tabs) KX G.T.g G.T.b G.T.builtins G.T.nolimit hg hBM (fun q hq=>⟨PySem.W.codeHd_of_K KX (hC w q hq).1,hYT w _ Y q hq⟩) (fun q hq=>(hC w q hq).2) hobj hints (Nat.le_trans hlen hn2) hr hF hb (fun H hO hS=>hsp w H a ns hlen hO hS) fun H e s' z=>z
structure DFT (K : PySem.W.Frag) (mg : Str→Option Value) (x : Str) (st : Stmt) (ps : List Str) (c Pt : Addr) : Prop where
 ex : ∃ (f : Addr) (oc : Value) (od : Option Addr) (kV dc pm : Value) (an : Option Addr) (ct : Value) (osl : Array (Option Value)),K.lookup f = some ⟨oc,od,.func (PySem.W.fnOf x x (zcT st) (zbP st) (zai st) .none kV dc pm an (.ref c) ct),osl⟩∧
  PySem.W.codeIn K (.ref c) x = true∧PySem.W.keepIn K (.ref f) = true∧mg x = some (.ref f)∧zgR K (PySem.W.fnOf x x (zcT st) (zbP st) (zai st) .none kV dc pm an (.ref c) ct) ps []
 hd : PySem.W.codeHdIn K c Pt = true
theorem DFT.ok {P : Program} {w : World} {K : PySem.W.Frag} {mg : Str→Option Value} {base : Heap} {x : Str} {st : Stmt} {N ps : List Str} {k : Nat} {sp : Sp} {c Pt : Addr} (D : DFT K mg x st ps c Pt) (S : zan N ps (zai st)) (len : ∀ vs H Q E,sp vs H Q E→vs.length = ps.length)
  (hbody : ∀ (f : Addr) (A : Around) (outer : List Env) (s : Shared) (H : Hp) (vs : List V) (Q : VK) (E : XK),Room k (A.deeper (envOfC x (zai st) s.heap.objs.size f (.ref c)))→sp vs H Q E→
   ∃ t,PSs (cxOf CX0 P w K mg base N x (zai st) f (.ref c) A outer s H E).nox (zbP st) t∧t { nx:=fun _ H'=>Q .non H',rt:=Q } (zcq N vs) H) : FC P w K mg base (k + 1) x ps sp:=by
 obtain ⟨f,oc,od,kV,dc,pm,an,ct,osl,lk,hcd,kp,m,bd⟩:=D.ex
 refine ⟨f,_,fn_of lk hcd S len fun A outer s H vs Q E hr hsp=>?_,bd,kp,m,oc,od,osl,lk⟩
 obtain ⟨t,h,q⟩:=hbody f A outer s H vs Q E hr hsp
 exact ⟨t,h.nox,q⟩
theorem ziH {K : PySem.W.Frag} {x : Str} {c Pt f : Addr} {oc : Value} {od : Option Addr} {fd : FuncData} {sl : Array (Option Value)} (a : PySem.W.nsIn K mainGlobals x = some (some (.ref f))) (l : K.lookup f = some ⟨oc,od,.func fd,sl⟩) (t : PySem.W.tabIn K x = some (c,Pt)) : fd.code = .ref c:=by
 unfold PySem.W.tabIn at t
 rw [a] at t
 dsimp only at t
 rw [l] at t
 dsimp only at t
 split at t
 ·rename_i c2 hc
  split at t
  ·split at t
   ·cases t
    exact hc
   ·cases t
  ·cases t
 ·cases t
end L2
namespace L2
open PySem PySem.Spec PyProof.Rows
theorem znO {X : Cx} {params : Arguments} {body : Expr} {scope osc : Scope} {N ps caps : List Str} {cap : List Nat} (sc : zgQ scope ps caps)
  (h1 : ∀ p∈scope.names,p.2 = NameKind.free→osc.names.lookup p.1 = some NameKind.cell) (h2 : ∀ p∈caps.zip cap,N[p.2]? = some p.1∧osc.names.lookup p.1 = some NameKind.cell) (hl : caps.length = cap.length)
  (ho : X.env.scope = osc) (hN : X.N = N) (d : defaultsOf params X.env = ([],[]))
  (b : ∀ (cl : List (Str×Addr)) (pm cdv ct : Value) (us : List Value),us.length = ps.length→bindArgs (PySem.W.kla_fn "<lambda>" (X.env.qual ++ "<lambda>") params body scope cl pm cdv ct) ⟨us,[]⟩ = pure (ps.zip us))
  (o : ∀ x,X.fn x = true) : zmi X params body scope ps caps cap:=by
 have hk : ∀ x,X.env.kindOf x = osc.names.lookup x:=fun x=>by
  unfold Env.kindOf
  rw [ho]
 refine ⟨sc,fun x hx=>.inl ?_,fun j x hj=>?_,d,b,o⟩
 ·rw [hk]
  exact h1 (x,.free) hx rfl
 ·have hj':=(List.getElem?_eq_some_iff.mp hj).1
  have hc : cap[j]? = some (cap[j]'(by omega)):=List.getElem?_eq_getElem _
  have hz : (caps.zip cap)[j]? = some (x,cap[j]'(by omega)):=by
   rw [List.getElem?_zip_eq_some]
   exact ⟨hj,hc⟩
  obtain ⟨a1,a2⟩:=h2 _ (List.mem_of_getElem? hz)
  refine ⟨_,hc,?_,.inl ?_⟩
  ·rw [hN]
   exact a1
  ·rw [hk]
   exact a2
end L2
namespace L2
open PySem PySem.Spec PyProof.Rows
structure Sub (K : PySem.W.Frag) (mg : Str→Option Value) (b1 b2 : Heap) : Prop where
 mod : Mod K mg b1
 get : ∀ b o,b1.get? b = some o→b2.get? b = some o
 size : b1.objs.size≤b2.objs.size
theorem Sub.trans {K : PySem.W.Frag} {mg : Str→Option Value} {b1 b2 b3 : Heap} (x : Sub K mg b1 b2) (y : Sub K mg b2 b3) : Sub K mg b1 b3:=⟨x.mod,fun b o e=>y.get b o (x.get b o e),Nat.le_trans x.size y.size⟩
section
variable {P : Program} {w : World} {K : PySem.W.Frag} {mg : Str→Option Value} {b1 b2 : Heap} {k : Nat} {f : Addr} {ps : List Str} {sp : Sp}
theorem FnOk.lift {CX : CXT} {fd : FuncData} (F : FnOk P w K mg b1 CX k f fd ps sp) (S : Sub K mg b1 b2) : FnOk P w K mg b2 CX k f fd ps sp:=
 ⟨F.len,fun A outer s H args us vs Q E hr e0=>F.run A outer s H args us vs Q E hr ⟨e0.frames,S.mod,fun b o e=>e0.bs b o (S.get b o e),Nat.le_trans S.size e0.bsz,zdR e0.funs (fun b hb=>by
  cases q : b1.get? b with
  | none=>rfl
  | some o=>
   have z:=(e0.funs.mem hb).1
   rw [S.get b o q] at z
   exact nomatch z),e0.frf,e0.hok,e0.bare⟩⟩
theorem FV.lift (F : FV P w K mg b1 k f ps sp) (S : Sub K mg b1 b2) : FV P w K mg b2 k f ps sp:=by
 obtain ⟨fd,ok,bd,oc,od,fd2,sl,ho⟩:=F.ex
 exact ⟨fd,FnOk.lift ok S,bd,oc,od,fd2,sl,S.get _ _ ho⟩
theorem FC.lift {x : Str} (F : FC P w K mg b1 k x ps sp) (S : Sub K mg b1 b2) : FC P w K mg b2 k x ps sp:=by
 obtain ⟨f,fd,ok,r⟩:=F.ex
 exact ⟨f,fd,FnOk.lift ok S,r⟩
theorem BMAt.lift (h : BMAt mg b1) (S : Sub K mg b1 b2) : BMAt mg b2:=by
 obtain ⟨bm,o,h1,h2,h3,h4,h5⟩:=h
 exact ⟨bm,o,h1,h2,h3,S.get _ _ h4,h5⟩
end
def tCallW (P : Program) (w : World) (K : PySem.W.Frag) (mg : Str→Option Value) (base : Heap) (kr : Nat) (tf : TE) (t : TA) : TE:=fun σ H Q=>tf σ H fun x H1=>∃ f k ps sp,x = .ref f∧FV P w K mg base k f ps sp∧k≤kr∧t σ H1 fun vs H2=>sp vs H2 Q E0
theorem zmD (P : Program) (w : World) (K : PySem.W.Frag) (mg : Str→Option Value) (base : Heap) {X : Cx} {kr : Nat} {x : Str} {e : Expr} {es : List Expr} {tf : TE} {t : TA} {p pos : Pos} (hr : Room kr X.A) (hf : PE X (.Name x p) tf) (ha : PA X (e :: es) t)
  (h1 : X.prog = P:=by rfl) (h2 : X.w = w:=by rfl) (h3 : X.K = K:=by rfl) (h4 : X.mg = mg:=by rfl) (h5 : X.base = base:=by rfl)
  (he : starEach (e :: es) X.env = (false,eval e X.env) :: starEach es X.env:=by rfl) (hpl : (backTo pos (starEach es X.env)).any (·.1) = false:=by rfl) : PE X (.Call (.Name x p) (e :: es) [] pos) (tCallW P w K mg base kr tf t):=by
 subst h1 h2 h3 h4 h5
 exact zgq hr hf ha he hpl
section
variable {X : Cx} {pins : List (Addr×Obj)} {σ : St} {H : Hp} {s : Shared}
theorem zes (I : Inv X pins σ H s) : Sub X.K X.mg X.base (zc0 X s H):=⟨I.ok.mod,zf8 I,Nat.le_trans I.env0.bsz (Nat.le_of_eq (PySem.W.hideAll_size _ _).symm)⟩
def zmj (X : Cx) (n kf : Nat) (ps : List Str) (cap : List Nat) (Pt : Addr) (lpos : Pos) (tb : Heap→TE) (σ : St) (H1 : Hp) (q : Heap→Addr→Hp→Prop) : Prop:=zbh H1 Pt lpos (X.env.qual ++ "<lambda>")∧∃ vcs : List V,vcs.length = n∧(∀ (j i : Nat) (v : V),cap[j]? = some i→vcs[j]? = some v→σ[i]? = some (some v))∧
 ∀ (base : Heap) (f c' : Addr) (H2 : Hp),Gro Pt H1 H2→zbh H2 Pt lpos (X.env.qual ++ "<lambda>")→zfJ H2 c' (X.env.qual ++ "<lambda>")→Sub X.K X.mg X.base base→FV X.prog X.w X.K X.mg base kf f ps (zmu ps.length (tb base) vcs c' (X.env.qual ++ "<lambda>"))→q base f H2
theorem fv_of' {params : Arguments} {body : Expr} {scope : Scope} {ps caps : List Str} {cap : List Nat} {f c' : Addr} {cl : List (Str×Addr)} {pm ctv : Value} {vcs : List V} {tb : TE} {k n : Nat} (I : Inv X pins σ H s) (L : zmi X params body scope ps caps cap) (hcl : zhP scope X.env cl)
  (ho : s.heap.get? f = some (PySem.W.kla_obj "<lambda>" (X.env.qual ++ "<lambda>") params body scope cl pm c' ctv)) (hn : H f = none) (hfr : ∀ b∈frs X.stack,b < n) (hge : n≤f)
  (hv : vcs.length = caps.length) (hvs : ∀ (j i : Nat) (v : V),cap[j]? = some i→vcs[j]? = some v→σ[i]? = some (some v))
  (hb : ∀ (f : Addr) (cd : Value) (cl : List (Str×Addr)) (A : Around) (outer : List Env) (s1 : Shared) (H1 : Hp),Room k (A.deeper (PySem.W.envX (X.env.qual ++ "<lambda>") scope s1.heap.objs.size f cd cl))→PE (zj8 X.prog X.w X.K X.mg (zc0 X s H) (ps ++ caps) (X.env.qual ++ "<lambda>") scope f cd cl A outer s1 H1) body tb) :
  FV X.prog X.w X.K X.mg (zc0 X s H) (k + 1) f ps (zmu ps.length tb vcs c' (X.env.qual ++ "<lambda>")):=by
 have nf : f∉frs X.stack:=fun z=>absurd (Nat.lt_of_lt_of_le (hfr f z) hge) (Nat.lt_irrefl _)
 have hbf:=zer (X:=X) ho hn nf
 have cellB : ∀ x a v,X.env.cells.lookup x = some a→s.heap.IsCell a v→(zc0 X s H).IsCell a v:=fun x a v e ⟨o,h1,h2⟩=>by
  refine ⟨o,zer h1 (I.freeC x a e) fun z=>?_,h2⟩
  rcases List.mem_cons.mp (I.stkSub a z) with y | y
  ·exact I.cne x a e y
  ·obtain ⟨_,o2,h3,_⟩:=I.ok.funs.mem y
   exact absurd (Nat.lt_of_lt_of_le (Heap.lt_size h3) (I.ok.cab x a (L.own x) e)) (Nat.lt_irrefl _)
 refine ⟨_,lam_ok L.sc hbf hv (fun j x v h1 h2=>?_) (fun x a e=>?_) (fun x y a h1 h2=>I.ok.inj x y a (hcl.sub x a h1) (hcl.sub y a h2)) (fun x e=>?_) (fun A outer s H hr=>hb f _ cl A outer s H hr),.all (L.binds cl pm (.ref c') ctv),⟨_,_,_,_,hbf⟩⟩
 ·obtain ⟨i,e1,e2,e3⟩:=L.capAt j x h1
  obtain ⟨m,hm,hl⟩:=I.loc
  obtain ⟨u,ru,lk⟩:=hl i x v e2 (hvs j i v e1 h2) (by
   rcases e3 with z | z
   ·exact .inr (.inl z)
   ·exact .inr (.inr z))
  rcases lk with ⟨z,_⟩ | ⟨_,a,e4,e5⟩
  ·rcases e3 with y | y
   ·rw [y] at z; cases z
   ·rw [y] at z; cases z
  ·obtain ⟨a',e6⟩:=hcl.has x (PySem.mem_of_lookup (L.sc.cap x (List.mem_of_getElem? h1)))
   have e7:=hcl.sub x a' e6
   rw [e4] at e7
   cases e7
   exact ⟨a,u,e6,cellB x a _ e4 e5,ru⟩
 ·obtain ⟨v,z⟩:=I.cell x a (hcl.sub x a e)
  exact ⟨v,cellB x a v (hcl.sub x a e) z⟩
 ·exact hcl.has x (PySem.mem_of_lookup e)
theorem zjg {params : Arguments} {body : Expr} {scope : Scope} {lpos : Pos} {tb : Heap→TE} {kf : Nat} {c Pt : Addr} {ps caps : List Str} {cap : List Nat} {q : Heap→Addr→Hp→Prop} {Qv : List Value→Shared→Prop} (I : Inv X pins σ H s)
  (L : zmi X params body scope ps caps cap) (hcode : X.env.code = .ref c) (hC : PySem.W.codeHdIn X.K c Pt = true) (hBM : BMAt X.mg X.base)
  (hb : ∀ (base : Heap) (f : Addr) (cd : Value) (cl : List (Str×Addr)) (A : Around) (outer : List Env) (s : Shared) (H : Hp),Sub X.K X.mg X.base base→Room kf (A.deeper (PySem.W.envX (X.env.qual ++ "<lambda>") scope s.heap.objs.size f cd cl))→PE (zj8 X.prog X.w X.K X.mg base (ps ++ caps) (X.env.qual ++ "<lambda>") scope f cd cl A outer s H) body (tb base))
  (hg : zmj X caps.length (kf + 1) ps cap Pt lpos tb σ H q) (h : ∀ f H2 s2,Inv X pins σ H2 s2→q (zc0 X s2 H2) f H2→Qv [.ref f] s2) : wpAny (model X.prog X.w) X.A (spliced [(false,eval (.Lambda params body scope lpos) X.env)]) Qv X.xe s:=by
 obtain ⟨hT,vcs,hv,hvs,q⟩:=hg
 refine Calls.spliced_cons (zm3 I L.dflt L.frees hcode hC hBM hT fun f c' cl pm ctv H2 s2 hcl I2 ho hn hge hgr hT2 hca=>?_)
 have S:=zes I2
 have hF:=fv_of' (k:=kf) (n:=s.heap.objs.size) (tb:=tb (zc0 X s2 H2)) I2 L hcl ho hn (fun b hb=>by
  obtain ⟨_,o,e,_⟩:=I.stack.mem hb
  exact Heap.lt_size e) hge hv hvs (fun f cd cl A outer s H hr=>hb _ f cd cl A outer s H S hr)
 exact Calls.spliced_nil (h f H2 s2 I2 (q _ f c' H2 hgr hT2 hca S hF))
theorem znQ {x : Str} {qs : List Str} {sp : Sp} {j k : Nat} {g : Addr} {Q : VK} {us : List Value} {vs : List V} (I : Inv X pins σ H s) (m : X.mg x = some (.ref g)) (F : FC X.prog X.w X.K X.mg (zc0 X s H) j x qs sp) (hr : Room k X.A) (hjk : j≤k) (r : Vals vs us) (h : sp vs H Q E0) :
  wpAny (model X.prog X.w) X.A (call (.ref g) us) (EP X pins σ Q) X.xe s:=by
 obtain ⟨g2,fd2,ok,bd,_,m2,_⟩:=F.ex
 rw [m] at m2
 cases m2
 refine wpAny_call (codeAny_mono (ok.run X.A X.stack s H ⟨us,[]⟩ us vs Q E0 (hr.mono hjk) (zix I) (by simpa using bd s us I.kIn (by rw [List.append_nil,← r.length]; exact ok.len _ _ _ _ h)) r h) fun r s' hq=>?_)
 cases r with
 | error e=>exact False.elim hq
 | ok fl=>
  cases fl with
  | ret u=>exact I.after hq
  | next=>exact False.elim hq
  | brk=>exact False.elim hq
  | cont=>exact False.elim hq
end
section
variable {X : Cx}
def zkx (X : Cx) (n kf : Nat) (ps : List Str) (cap : List Nat) (Pt : Addr) (lpos : Pos) (tb : Heap→TE) (te : TE) (spH : Heap→Sp) : TE:=fun σ H Q=>te σ H fun x1 H1=>zmj X n kf ps cap Pt lpos tb σ H1 fun base f H2=>spH base [x1,.ref f] H2 Q E0
theorem zh2 {x : Str} {qs : List Str} {e1 : Expr} {params : Arguments} {body : Expr} {scope : Scope} {lpos p pos : Pos} {te : TE} {tb : Heap→TE} {spH : Heap→Sp} {j k kf : Nat} {c Pt : Addr} {ps caps : List Str} {cap : List Nat}
  (F : ∀ base,Sub X.K X.mg X.base base→FC X.prog X.w X.K X.mg base j x qs (spH base)) (hr : Room k X.A) (h1 : PE X e1 te) (L : zmi X params body scope ps caps cap) (hcode : X.env.code = .ref c) (hC : PySem.W.codeHdIn X.K c Pt = true) (hBM : BMAt X.mg X.base)
  (hb : ∀ (base : Heap) (f : Addr) (cd : Value) (cl : List (Str×Addr)) (A : Around) (outer : List Env) (s : Shared) (H : Hp),Sub X.K X.mg X.base base→Room kf (A.deeper (PySem.W.envX (X.env.qual ++ "<lambda>") scope s.heap.objs.size f cd cl))→PE (zj8 X.prog X.w X.K X.mg base (ps ++ caps) (X.env.qual ++ "<lambda>") scope f cd cl A outer s H) body (tb base))
  (hjk : j≤k:=by decide) (hg : Gl X x:=by rfl) (hdb : (x == ("__debug__" : Str)) = false:=by decide) (he : starEach [e1,.Lambda params body scope lpos] X.env = (false,eval e1 X.env) :: starEach [.Lambda params body scope lpos] X.env:=by rfl)
  (he2 : starEach [.Lambda params body scope lpos] X.env = [(false,eval (.Lambda params body scope lpos) X.env)]:=by rfl) (hpl : (backTo pos (starEach [.Lambda params body scope lpos] X.env)).any (·.1) = false:=by rfl) :
  PE X (.Call (.Name x p) [e1,.Lambda params body scope lpos] [] pos) (zkx X caps.length (kf + 1) ps cap Pt lpos tb te spH):=by
 intro pins s σ H Q I h
 obtain ⟨g,fd,_,_,kp,m,oc,od,osl,lk⟩:=(F X.base ⟨I.ok.mod,fun _ _ e=>e,Nat.le_refl _⟩).ex
 refine wpAny_Call_Name_kw (zgC I hg m ?_ hdb)
 refine PySem.W.callWith_K (h₀:=X.base) I.ok.mod.kin kp ?_ he hpl
 rw [he]
 show wpAny _ _ (spliced ((false,eval e1 X.env) :: backTo pos (starEach [.Lambda params body scope lpos] X.env))) _ _ s
 refine Calls.spliced_cons (thn (h1 pins s σ H _ I h) fun u s1 ⟨x1,H1,I1,r1,q1⟩=>?_)
 rw [he2]
 show wpAny _ _ (spliced [(false,eval (.Lambda params body scope lpos) X.env)]) _ _ s1
 exact zjg I1 L hcode hC hBM hb q1 fun f H2 s2 I2 hsp=>⟨I2.kIn,znQ I2 m (F _ (zes I2)) hr hjk (vs:=[x1,.ref f]) (.cons r1 (.cons rfl .nil)) hsp⟩
def zjI (X : Cx) (n kf : Nat) (ps : List Str) (cap : List Nat) (Pt : Addr) (lpos : Pos) (tb : Heap→TE) (te te2 : TE) (spH : Heap→Sp) : TE:=fun σ H Q=>te σ H fun x1 H1=>te2 σ H1 fun x2 H2=>zmj X n kf ps cap Pt lpos tb σ H2 fun base f H3=>spH base [x1,x2,.ref f] H3 Q E0
theorem zhi {x : Str} {qs : List Str} {e1 e2 : Expr} {params : Arguments} {body : Expr} {scope : Scope} {lpos p pos : Pos} {te te2 : TE} {tb : Heap→TE} {spH : Heap→Sp} {j k kf : Nat} {c Pt : Addr} {ps caps : List Str} {cap : List Nat}
  (F : ∀ base,Sub X.K X.mg X.base base→FC X.prog X.w X.K X.mg base j x qs (spH base)) (hr : Room k X.A) (h1 : PE X e1 te) (h2 : PE X e2 te2) (L : zmi X params body scope ps caps cap) (hcode : X.env.code = .ref c) (hC : PySem.W.codeHdIn X.K c Pt = true) (hBM : BMAt X.mg X.base)
  (hb : ∀ (base : Heap) (f : Addr) (cd : Value) (cl : List (Str×Addr)) (A : Around) (outer : List Env) (s : Shared) (H : Hp),Sub X.K X.mg X.base base→Room kf (A.deeper (PySem.W.envX (X.env.qual ++ "<lambda>") scope s.heap.objs.size f cd cl))→PE (zj8 X.prog X.w X.K X.mg base (ps ++ caps) (X.env.qual ++ "<lambda>") scope f cd cl A outer s H) body (tb base))
  (hjk : j≤k:=by decide) (hg : Gl X x:=by rfl) (hdb : (x == ("__debug__" : Str)) = false:=by decide) (he : starEach [e1,e2,.Lambda params body scope lpos] X.env = (false,eval e1 X.env) :: starEach [e2,.Lambda params body scope lpos] X.env:=by rfl)
  (he2 : starEach [e2,.Lambda params body scope lpos] X.env = [(false,eval e2 X.env),(false,eval (.Lambda params body scope lpos) X.env)]:=by rfl) (hpl : (backTo pos (starEach [e2,.Lambda params body scope lpos] X.env)).any (·.1) = false:=by rfl) :
  PE X (.Call (.Name x p) [e1,e2,.Lambda params body scope lpos] [] pos) (zjI X caps.length (kf + 1) ps cap Pt lpos tb te te2 spH):=by
 intro pins s σ H Q I h
 obtain ⟨g,fd,_,_,kp,m,oc,od,osl,lk⟩:=(F X.base ⟨I.ok.mod,fun _ _ e=>e,Nat.le_refl _⟩).ex
 refine wpAny_Call_Name_kw (zgC I hg m ?_ hdb)
 refine PySem.W.callWith_K (h₀:=X.base) I.ok.mod.kin kp ?_ he hpl
 rw [he]
 show wpAny _ _ (spliced ((false,eval e1 X.env) :: backTo pos (starEach [e2,.Lambda params body scope lpos] X.env))) _ _ s
 refine Calls.spliced_cons (thn (h1 pins s σ H _ I h) fun u s1 ⟨x1,H1,I1,r1,q1⟩=>?_)
 rw [he2]
 show wpAny _ _ (spliced ((false,eval e2 X.env) :: [(false,eval (.Lambda params body scope lpos) X.env)])) _ _ s1
 refine Calls.spliced_cons (thn (h2 pins s1 σ H1 _ I1 q1) fun u2 s2 ⟨x2,H2,I2,r2,q2⟩=>?_)
 exact zjg I2 L hcode hC hBM hb q2 fun f H3 s3 I3 hsp=>⟨I3.kIn,znQ I3 m (F _ (zes I3)) hr hjk (vs:=[x1,x2,.ref f]) (.cons r1 (.cons r2 (.cons rfl .nil))) hsp⟩
end
theorem znf {K : PySem.W.Frag} {a b : Addr} {xs ys : List V} {g : TG} {tb : TS} {D : Ends} {σ : St} {H : Hp} (hlen : ys.length≤xs.length) (Pv : Nat→St→Hp→Prop) (h0 : Pv 0 σ H) (hl : ∀ i σ H,i≤ys.length→Pv i σ H→SqL K H a xs∧SqL K H b ys)
  (hs : ∀ i x y σ H p,xs[i]? = some x→ys[i]? = some y→Pv i σ H→H p = none→g (.ref p) σ (upd H p (.tup [x,y])) fun σ2 H2=>tb { D with nx:=Pv (i + 1),ct:=Pv (i + 1),bk:=D.nx } σ2 H2) (hd : ∀ σ H,Pv ys.length σ H→D.nx σ H) :
  ∃ W : Nat→Nat→St→Hp→Prop,(∃ m,W 0 m σ H)∧∀ i m σ H,W i m σ H→((Itz K a b).stop i H∧D.nx σ H)∨((Itz K a b).go i H∧∃ N : St→Hp→Prop,(∀ σ' H',N σ' H'→∃ m',m' < m∧W (i + 1) m' σ' H')∧∀ x H',(Itz K a b).yld i H x H'→g x σ H' fun σ2 H2=>tb { D with nx:=N,ct:=N,bk:=D.nx } σ2 H2):=by
 refine ⟨fun i m σ H=>i + m = ys.length∧Pv i σ H,⟨ys.length,by omega,h0⟩,fun i m σ H ⟨e,pv⟩=>?_⟩
 obtain ⟨hS,hS'⟩:=hl i σ H (by omega) pv
 by_cases hi : i < ys.length
 ·refine .inr ⟨⟨xs,ys,xs[i]'(by omega),ys[i],hS,hS',List.getElem?_eq_getElem (by omega),List.getElem?_eq_getElem hi⟩,Pv (i + 1),fun σ' H' q=>⟨m - 1,by omega,by omega,q⟩,fun x H' y=>?_⟩
  obtain ⟨p,z,z',rfl,hp,hz,hz',rfl⟩:=y
  exact hs i z z' σ H p (hz xs hS) (hz' ys hS') pv hp
 ·have : i = ys.length:=by omega
  subst this
  exact .inl ⟨⟨xs,ys,hS,hS',.inr (Nat.le_refl _)⟩,hd σ H pv⟩
end L2
namespace DictP
open PySem PySem.Spec PyProof.Rows
set_option autoImplicit false
set_option maxRecDepth 100000
theorem zht : typeLookup (.type "list") "keys" = pure none:=by rw [typeLookup_type,builtinLookup_eq_fast]; kernel_rfl
section
variable {prog : Program} {w : World} {A : Around} {E : Value→Shared→Prop} {a : Addr} {o : Obj} {h : Heap} {g : Array GenState} {d : Drawn} {t : Nat} {os : OsState} {xs : Array Value} {n : Nat} {sl : Array (Option Value)}
theorem zj1 {tk : Tok} {Q : Fin→Shared→Prop} (hh : A.handled = none) (hx : h.get? a = some { cls:=.type "list",dict:=none,data:=.seq xs n,slots:=sl })
  (q : ∀ h' t' e,(∀ b u,h.get? b = some u→h'.get? b = some u)→(⟨h',g,d,t',os⟩ : Shared).TypeIs (.ref e) "AttributeError"→E (.ref e) ⟨h',g,d,t',os⟩) :
  wpAny (model prog w) A (Builtin.«object.__getattribute__» ⟨[.ref a,.str "keys" tk],[]⟩) Q E ⟨h,g,d,t,os⟩:=by
 have hT : (⟨h,g,d,t,os⟩ : Shared).TypeIs (.ref a) "list":=⟨_,hx,rfl⟩
 have f4:=zht
 repeat (any_goals (first | assumption | wp_step))
 have hm : (Str.ofString (toString "'" ++ toString ((Manifest.find? "list").elim "list" fun x=>x.tpName) ++ toString "' object has no attribute '") ++ Str.ofString "keys" ++ Str.ofString "'").length≤sizeLine:=by decide +kernel
 generalize (Str.ofString (toString "'" ++ toString ((Manifest.find? "list").elim "list" fun x=>x.tpName) ++ toString "' object has no attribute '") ++ Str.ofString "keys" ++ Str.ofString "'") = msg at hm ⊢
 unfold raiseAttrError
 refine wpAny_bind (wpAny_mkStr (wpAny_bind ?_) hm)
 unfold newExc newTuple
 refine wpAny_bind (wpAny_newObj_type ?_)
 refine wpAny_bind (m:=firstArgMember _ _) (wpAny_of_eq (a:=Value.none) (by rfl) ?_)
 refine wpAny_newObj_type ?_
 refine wpAny_bind (wpAny_mkText ?_)
 have hX:=Heap.get?_push_size (h.push { cls:=.type "tuple",data:=.seq #[Value.str msg t] }) (o:={ cls:=.type "AttributeError",data:=.fields (#[.ref h.objs.size,.none,.none,.none,.bool false,.none] ++ #[unsetMember,unsetMember]) }) rfl
 have hk : ∀ b u,h.get? b = some u→((h.push { cls:=.type "tuple",data:=.seq #[Value.str msg t] }).push { cls:=.type "AttributeError",data:=.fields (#[.ref h.objs.size,.none,.none,.none,.bool false,.none] ++ #[unsetMember,unsetMember]) }).get? b = some u:=fun b u e=>Heap.get?_push_of_some _ (Heap.get?_push_of_some _ e)
 have hne : h.get? (h.push { cls:=.type "tuple",data:=.seq #[Value.str msg t] }).objs.size = none:=Heap.get?_none_of_le (by simp)
 show wpAny (model prog w) A (noteAttr (.ref (h.push { cls:=.type "tuple",data:=.seq #[Value.str msg t] }).objs.size) (.ref a) (.str "keys" (t + 1)) >>= fun _=>raiseNew (.ref (h.push { cls:=.type "tuple",data:=.seq #[Value.str msg t] }).objs.size)) Q E ⟨(h.push { cls:=.type "tuple",data:=.seq #[Value.str msg t] }).push { cls:=.type "AttributeError",data:=.fields (#[.ref h.objs.size,.none,.none,.none,.bool false,.none] ++ #[unsetMember,unsetMember]) },g,d,t + 2,os⟩
 generalize (h.push { cls:=.type "tuple",data:=.seq #[Value.str msg t] }).push { cls:=.type "AttributeError",data:=.fields (#[.ref h.objs.size,.none,.none,.none,.bool false,.none] ++ #[unsetMember,unsetMember]) } = h2 at hX hk ⊢
 generalize (h.push { cls:=.type "tuple",data:=.seq #[Value.str msg t] }).objs.size = e at hX hne ⊢
 generalize (Value.ref h.objs.size) = r0 at hX
 unfold noteAttr
 dsimp only
 have hTe : (⟨h2,g,d,t + 2,os⟩ : Shared).TypeIs (.ref e) "AttributeError":=⟨_,hX,rfl⟩
 refine wpAny_bind (wpAny_bind ?_)
 unfold lacksNameAndObj
 dsimp only
 refine wpAny_bind (wpAny_isInstance (T := "AttributeError") (b:=true) hTe (by rw [isSubtype_type]; kernel_rfl) ?_)
 simp only [Bool.not_true,Bool.false_eq_true,if_false]
 refine wpAny_bind (wpAny_load hX ?_)
 dsimp only
 have i6 : (#[r0,Value.none,Value.none,Value.none,Value.bool false,Value.none] ++ #[unsetMember,unsetMember])[6]? = some unsetMember:=by simp
 have i7 : (#[r0,Value.none,Value.none,Value.none,Value.bool false,Value.none] ++ #[unsetMember,unsetMember])[7]? = some unsetMember:=by simp
 refine wpAny_ite_split (fun z=>absurd z (by rw [i6,i7]; decide)) (fun _=>?_)
 refine wpAny_ite_split (fun z=>absurd z (by rw [i6,i7]; decide)) (fun _=>?_)
 refine wpAny_pure ?_
 rw [if_pos rfl]
 refine wpAny_bind (wpAny_rule (wpAny_bind (wpAny_typeOf hTe ?_)))
 dsimp only
 unfold layMembers
 refine wpAny_bind (wpAny_load hX ?_)
 dsimp only
 refine wpAny_update (s:=⟨h2,g,d,t + 2,os⟩) hX ?_
 unfold raiseNew
 refine wpAny_bind (wpAny_handled ?_)
 rw [hh]
 first
  | refine wpAny_throw ?_
  | refine wpAny_bind (wpAny_pure (wpAny_throw ?_))
 refine q _ _ e (fun b u eb=>?_) ⟨_,Heap.get?_update_self _ hX (Obj.isFreed_of_fields (Obj.data_mapFields rfl _)),rfl⟩
 have nb : b≠e:=fun z=>by
  rw [z,hne] at eb
  cases eb
 exact (Heap.get?_update_other _ _ (Ne.symm nb)).trans (hk b u eb)
theorem zlA {tk : Tok} {R : Result→Shared→Prop} (hh : A.handled = none) (hx : h.get? a = some { cls:=.type "list",dict:=none,data:=.seq xs n,slots:=sl })
  (q : ∀ h' t' e,(∀ b u,h.get? b = some u→h'.get? b = some u)→(⟨h',g,d,t',os⟩ : Shared).TypeIs (.ref e) "AttributeError"→R (.error (.ref e)) ⟨h',g,d,t',os⟩) :
  codeAny (model prog w) A (.call (.builtin "list.__getattribute__") ⟨[.ref a,.str "keys" tk],[]⟩) R ⟨h,g,d,t,os⟩:=
 codeAny_call_builtin F.slot_list_getattribute.plain F.entry_list_ga (F.slot_list_getattribute.check _ _ _ _ _ _ _ _ (show (⟨h,g,d,t,os⟩ : Shared).TypeIs (.ref a) "list" from ⟨_,hx,rfl⟩) (F.args_list_getattribute_2 _ _) (zj1 (A:=A.in1) hh hx q))
theorem zly {Q : Option Value→Shared→Prop} (hh : A.handled = none) (hx : h.get? a = some { cls:=.type "list",dict:=none,data:=.seq xs n,slots:=sl })
  (q : ∀ h' t',(∀ b u,h.get? b = some u→h'.get? b = some u)→Q none ⟨h',g,d,t',os⟩) : wpAny (model prog w) A (getAttr? (.ref a) "keys") Q E ⟨h,g,d,t,os⟩:=by
 have hT : (⟨h,g,d,t,os⟩ : Shared).TypeIs (.ref a) "list":=⟨_,hx,rfl⟩
 have f2:=F.slot_list_getattribute.lookup
 have f3:=F.slot_list_getattribute.bind (.ref a)
 have f5 : typeLookup (.type "list") "__getattr__" = pure none:=by rw [typeLookup_type,builtinLookup_eq_fast]; kernel_rfl
 unfold getAttr? getAttrBy?
 repeat (any_goals (first | assumption | wp_step))
 refine zlA hh hx fun h' t' e k ty=>?_
 have su : isSubtype (.type "AttributeError") (.type "AttributeError") = pure true:=by rw [isSubtype_type]; kernel_rfl
 show wpAny (model prog w) A (getattributeRaised (.ref a) (.str "keys" t) (.type "list") (.ref e) none false false) _ _ _
 unfold getattributeRaised
 refine wpAny_bind (wpAny_isInstance ty su ?_)
 rw [if_pos rfl]
 refine wpAny_bind (?_ : wpAny _ _ (typeLookup (.type "list") "__getattr__") _ _ _)
 rw [f5]
 refine wpAny_pure ?_
 show wpAny _ _ (throw (Value.ref e)) _ _ _
 refine wpAny_throw ?_
 show wpAny _ _ (do let b ← isInstance (.ref e) (.type "AttributeError"); if b = true then pure none else throw (Value.ref e)) _ _ _
 refine wpAny_bind (wpAny_isInstance ty su ?_)
 exact wpAny_pure (q h' t' k)
end
end DictP
namespace DictP
open PySem PySem.Spec PyProof.Rows L2
set_option autoImplicit false
set_option maxRecDepth 100000
theorem zhC : entryFor table "dict.update.loop" = some Builtin.«dict.update.loop»:=entryFor_of_tree (by kernel_rfl)
theorem zeb : plainId "dict.update.loop" = true:=by decide +kernel
theorem zjJ {K : Type} [DecidableEq K] {kvs : List (K×Value)} {k : K} {v : Value} (h : k∉kvs.map (·.1)) : stored kvs k v = kvs ++ [(k,v)]:=by
 unfold stored
 rw [if_neg fun z=>?_]
 obtain ⟨kv,h1,h2⟩:=List.any_eq_true.mp z
 exact h (List.mem_map.mpr ⟨kv,h1,of_decide_eq_true h2⟩)
section
variable {prog : Program} {w : World} {A : Around} {R : Result→Shared→Prop} {I : Addr} {fp wr : List Addr} {G : Array GenState→Array GenState→Prop} {n : Nat} {P : Nat→Value→Prop} {St : Nat→Shared→Prop}
theorem zjN {h0 : Heap} (W : WalksS prog w A.in1 I fp wr G n P St) (d : Addr) (hdf : d∉fp) (res : Value) (kvs : List (Key×Value)) (hn : n = kvs.length) (hnd : (kvs.map (·.1)).Nodup)
  (hP : ∀ i v,P i v→∃ tp key k val,v = .ref tp∧tp≠d∧tp∉wr∧h0.IsTuple tp #[key,val]∧(zaD prog w).is k key = true∧kvs[i]? = some (k,val)) (hz : kvs.length≤sizeLine) :
  ∀ (j i : Nat) (s : Shared) (tk : Tok),n - i = j→i≤n→St i s→(∀ b o,b≠d→b∉wr→h0.get? b = some o→s.heap.get? b = some o)→s.heap.DictOf (zaD prog w) d (kvs.take i)→
   (∀ s',Moved (d :: wr) G s s'→s'.heap.DictOf (zaD prog w) d kvs→R (.ok (.ret res)) s')→codeAny (model prog w) A (.builtin "dict.update.loop" ⟨[.ref d,.ref I,.int i tk,res],[]⟩) R s:=by
 have hdw : d∉wr:=fun h=>hdf (W.sub _ h)
 have up : ∀ b∈wr,b∈d :: wr:=fun b hb=>List.mem_cons_of_mem _ hb
 intro j
 induction j with
 | zero=>
  intro i s tk hj hi st hk hd q
  have e : i = n:=by omega
  subst e
  refine codeAny_builtin zhC ?_
  rw [Around.under_plainId zeb _]
  show wpAny _ A.in1 (pyNext (.ref I) >>= _) _ _ s
  refine wpAny_bind (W.done s _ _ st fun s' hm=>?_)
  refine wpAny_bind (?_ : wpAny _ A.in1 (Builtin.Dict.addKeywords d []) _ _ s')
  refine wpAny_pure (wpAny_pure (q s' (hm.mono up) ?_))
  obtain ⟨o,es,ep,ho,r⟩:=hd
  rw [hn,List.take_length] at r
  exact ⟨o,es,ep,hm.heap d o hdw ho,r⟩
 | succ j ih=>
  intro i s tk hj hi st hk hd q
  have hlt : i < n:=by omega
  refine codeAny_builtin zhC ?_
  rw [Around.under_plainId zeb _]
  show wpAny _ A.in1 (pyNext (.ref I) >>= _) _ _ s
  refine wpAny_bind (W.item i s _ _ hlt st fun v s' hPi st' hm=>?_)
  obtain ⟨tp,key,k,val,rfl,ntd,ntw,ht,hkey,hkv⟩:=hP i v hPi
  obtain ⟨ot,o1,o2,nt,o3⟩:=ht
  have g1:=hm.heap tp ot ntw (hk tp ot ntd ntw o1)
  have hd' : s'.heap.DictOf (zaD prog w) d (kvs.take i):=by
   obtain ⟨o,es,ep,ho,r⟩:=hd
   exact ⟨o,es,ep,hm.heap d o hdw ho,r⟩
  obtain ⟨hik,hek⟩:=List.getElem?_eq_some_iff.mp hkv
  have hnew : k∉(kvs.take i).map (·.1):=fun z=>by
   rw [List.map_take] at z
   obtain ⟨m,hm1,hm2⟩:=List.mem_take_iff_getElem.mp z
   have h2 : m < (kvs.map (·.1)).length:=by omega
   have h3 : i < (kvs.map (·.1)).length:=by rw [List.length_map]; exact hik
   have:=List.pairwise_iff_getElem.mp hnd m i h2 h3 (by omega)
   apply this
   rw [hm2,List.getElem_map,hek]
  refine wpAny_bind (wpAny_holding (wpAny_bind (wpAny_tryCatch ?_)))
  unfold Builtin.Dict.pairItems
  refine wpAny_bind (wpAny_typeOf (T := "tuple") ⟨_,g1,o2⟩ ?_)
  rw [if_pos (by decide)]
  unfold seqItems?
  refine wpAny_bind (wpAny_bind (wpAny_load g1 ?_))
  rw [o3]
  refine wpAny_pure (wpAny_pure ?_)
  show wpAny _ A.in1 (holding [key,val] (dictSet d key val)) _ _ s'
  refine wpAny_holding (wpAny_dictSet_pairs hkey hd' (fun h' hd2 sb=>?_) (by rw [List.length_take]; omega))
  rw [zjJ hnew] at hd2
  have tk1 : kvs.take (i + 1) = kvs.take i ++ [(k,val)]:=by
   rw [List.take_succ_eq_append_getElem hik,hek]
  rw [← tk1] at hd2
  refine wpAny_pure ⟨plainId_quiet zeb _,ih (i + 1) _ 0 (by omega) hlt (W.frame _ s' _ _ st' (Nat.le_succ _) fun b hb o e=>?_) (fun b o n1 n2 e=>?_) hd2 fun s'' hm'' x3=>?_⟩
  ·rw [sb.2 b (fun h : b = d=>hdf (by rw [← h]; exact hb))]
   exact e
  ·rw [sb.2 b n1]
   exact hm.heap b o n2 (hk b o n1 n2 e)
  ·refine q s'' (Moved.trans W.gtrans ((hm.mono up).then_heap (Nat.le_succ _) fun b o hb e=>?_) hm'') x3
   rw [sb.2 b (fun h : b = d=>hb (by rw [h]; exact List.mem_cons_self))]
   exact e
end
end DictP
namespace DictP
open PySem PySem.Spec PyProof.Rows L2
set_option autoImplicit false
set_option maxRecDepth 100000
section
variable {prog : Program} {w : World} {A : Around} {E : Value→Shared→Prop} {s : Shared}
theorem of_pairs {l : Addr} {items : Array Value} {nl : Nat} {sl : Array (Option Value)} {kvs : List (Key×Value)} {Q : Value→Shared→Prop} (hh : A.handled = none) (hl : s.heap.get? l = some { cls:=.type "list",dict:=none,data:=.seq items nl,slots:=sl })
  (hnd : (kvs.map (·.1)).Nodup) (hlen : items.size = kvs.length) (hz : kvs.length≤sizeLine)
  (hit : ∀ (i : Nat) v,items[i]? = some v→∃ tp key k val,v = .ref tp∧s.heap.IsTuple tp #[key,val]∧(zaD prog w).is k key = true∧kvs[i]? = some (k,val))
  (q : ∀ h' tk,h'.DictOf (zaD prog w) s.heap.objs.size kvs→(∀ b o,s.heap.get? b = some o→h'.get? b = some o)→Q (.ref s.heap.objs.size) { s with heap:=h',toks:=tk }) :
  wpAny (model prog w) A (call (.type "dict") [.ref l]) Q E s:=by
 refine callType_codes (Q₁:=fun obj s₁=>obj = .ref s.heap.objs.size∧s₁ = { s with heap:=s.heap.push { cls:=.type "dict",data:=.dict #[] } }) F.kt_called_dict (F.kt_typeCall_dict_1 _) F.entry_dict_init (kt_code_dict_new _ ⟨rfl,rfl⟩) ?_
 rintro obj s₁ ⟨rfl,rfl⟩
 have hnew : (s.heap.push { cls:=.type "dict",data:=.dict #[] }).DictOf (zaD prog w) s.heap.objs.size []:=Heap.DictOf.new s.heap
 have hl1:=Heap.get?_push_of_some { cls:=.type "dict",data:=.dict #[] } hl
 have hkp : ∀ b o,s.heap.get? b = some o→(s.heap.push { cls:=.type "dict",data:=.dict #[] }).get? b = some o:=fun b o e=>Heap.get?_push_of_some _ e
 have hds : s.heap.objs.size < (s.heap.push { cls:=.type "dict",data:=.dict #[] }).objs.size:=by
  rw [Heap.size_push]
  exact Nat.lt_succ_self _
 have hlS : l < s.heap.objs.size:=Heap.lt_size hl
 refine ⟨hnew.typeIs,F.args_dict_init_2 _ _,?_⟩
 generalize s.heap.push { cls:=.type "dict",data:=.dict #[] } = h1 at hnew hl1 hkp hds ⊢
 unfold Builtin.«dict.__init__»
 refine wpAny_bind ?_
 unfold Builtin.Dict.selfAndRest
 refine wpAny_bind (wpAny_notOrdered_dict hnew.typeIs ?_)
 show wpAny _ _ (pure (s.heap.objs.size,[Value.ref l])) _ _ _
 refine wpAny_pure ?_
 show wpAny _ _ (Builtin.Dict.updateFrom "dict.__init__" s.heap.objs.size (.ref l) [] .none) _ _ _
 unfold Builtin.Dict.updateFrom
 refine wpAny_bind (wpAny_typeOf (T := "list") ⟨_,hl1,rfl⟩ ?_)
 rw [if_pos (by decide)]
 refine wpAny_bind (zly (A:=_) hh hl1 fun h2 t2 k2=>?_)
 rw [if_pos (show (none : Option Value).isNone = true from rfl)]
 refine wpAny_bind (wpAny_rule (wpAny_bind ?_))
 have hl2:=k2 _ _ hl1
 have hL2 : h2.IsList l items:=⟨_,hl2,rfl,nl,rfl⟩
 refine wpAny_pyIter_list (s:=⟨h2,s.gens,s.drawn,t2,s.os⟩) hL2 ?_
 refine wpAny_pure ⟨plainId_quiet zeb _,?_⟩
 have hd2 : h2.DictOf (zaD prog w) s.heap.objs.size []:=by
  obtain ⟨o,es,ep,ho,r⟩:=hnew
  exact ⟨o,es,ep,k2 _ _ ho,r⟩
 have hdlt : s.heap.objs.size < h2.objs.size:=by
  obtain ⟨o,es,ep,ho,r⟩:=hd2
  exact Heap.lt_size ho
 have hne : l≠h2.objs.size:=Nat.ne_of_lt (Nat.lt_trans hlS hdlt)
 have h3 : A.in1.in1.handled = none:=by simp [hh]
 refine zjN (h0:=s.heap) ((Walks.list h3 _ l hne items).toS) s.heap.objs.size (fun z=>?_) .none kvs hlen hnd (fun i v hv=>?_) hz items.size 0 _ 0 (by omega) (Nat.zero_le _) ⟨⟨_,Heap.get?_push_size _ rfl,rfl,rfl⟩,hL2.push _⟩ (fun b o n1 n2 e=>Heap.get?_push_of_some _ (k2 _ _ (hkp _ _ e))) ?_ fun s' hm hd'=>?_
 ·simp only [List.mem_cons,List.not_mem_nil,or_false] at z
  rcases z with z | z
  ·exact absurd hdlt (by rw [← z]; exact Nat.lt_irrefl _)
  ·exact absurd hlS (by rw [← z]; exact Nat.lt_irrefl _)
 ·obtain ⟨tp,key,k,val,e1,e2,e3,e4⟩:=hit i v hv
  have htp : tp < s.heap.objs.size:=by
   obtain ⟨ot,o1,_⟩:=e2
   exact Heap.lt_size o1
  refine ⟨tp,key,k,val,e1,Nat.ne_of_lt htp,fun z=>?_,e2,e3,e4⟩
  rw [List.mem_singleton.mp z] at htp
  exact absurd (Nat.lt_trans htp hdlt) (Nat.lt_irrefl _)
 ·rw [List.take_zero]
  exact hd2.push _
 ·refine ⟨rfl,?_⟩
  rw [Moved.eq_with hm]
  refine q s'.heap s'.toks hd' fun b o e=>hm.heap b o (fun z=>?_) (Heap.get?_push_of_some _ (k2 _ _ (hkp _ _ e)))
  have hb:=Heap.lt_size e
  simp only [List.mem_cons,List.not_mem_nil,or_false] at z
  rcases z with z | z
  ·rw [z] at hb
   exact absurd hb (Nat.lt_irrefl _)
  ·rw [z] at hb
   exact absurd (Nat.lt_trans hb hdlt) (Nat.lt_irrefl _)
end
end DictP
namespace L2
open PySem PySem.Spec PyProof.Rows
def rDictP (K : PySem.W.Frag) : List V→Hp→VK→Prop:=fun xs H Q=>∃ (p : Addr) (zs : List V) (kvs : List (Key×V)),xs = [.ref p]∧SqL K H p zs∧Paired (fun (z : V) (kv : Key×V)=>∃ b,z = .ref b∧H b = some (.tup [kV kv.1,kv.2])) zs kvs∧(kvs.map (·.1)).Nodup∧
 ∀ d,H d = none→Q (.ref d) (upd H d (.dK kvs))
section
variable {X : Cx}
theorem zi7 {pins : List (Addr×Obj)} {σ : St} {H : Hp} {s : Shared} (I : Inv X pins σ H s) : ∀ {zs : List V} {kvs : List (Key×V)} {us : List Value},Paired (fun (z : V) (kv : Key×V)=>∃ b,z = .ref b∧H b = some (.tup [kV kv.1,kv.2])) zs kvs→Vals zs us→
  ∃ ks : List (Key×Value),KV kvs ks∧∀ (i : Nat) v,us[i]? = some v→∃ tp key k val,v = .ref tp∧s.heap.IsTuple tp #[key,val]∧(zaD X.prog X.w).is k key = true∧ks[i]? = some (k,val)
 | _,_,_,.nil,.nil=>⟨[],.nil,fun i v h=>by simp at h⟩
 | _ :: _,kv :: _,_ :: _,.cons ⟨b,e1,e2⟩ t,.cons r q=>by
  subst e1
  obtain ⟨ks,h1,h2⟩:=zi7 I t q
  cases r
  obtain ⟨its,rv,p,_⟩:=I.tuple (SqT.of e2)
  cases rv with
  | cons r1 rv=>
   cases rv with
   | cons r2 rv=>
    cases rv
    refine ⟨(kv.1,_) :: ks,.cons ⟨rfl,r2⟩ h1,fun i v hv=>?_⟩
    cases i with
    | zero=>
     simp only [List.getElem?_cons_zero,Option.some.injEq] at hv
     subst hv
     exact ⟨b,_,kv.1,_,rfl,p,zj2 r1,rfl⟩
    | succ i=>
     rw [List.getElem?_cons_succ] at hv ⊢
     exact h2 i v hv
theorem zlv : ∀ {kvs : List (Key×V)} {ks : List (Key×Value)},KV kvs ks→ks.map (·.1) = kvs.map (·.1)
 | _,_,.nil=>rfl
 | _,_,.cons r t=>by
  rw [List.map_cons,List.map_cons,zlv t,r.1]
theorem zkf (hc : X.calm = true) : zdS X (.type "dict") (rDictP X.K):=by
 intro pins s σ H xs us Q I r h
 obtain ⟨p,zs,kvs,rfl,hq,hp,hn,q⟩:=h
 obtain ⟨u,rfl,rx⟩:=zgX r
 cases rx
 obtain ⟨its,rv,pl,hz⟩:=I.list hq
 obtain ⟨ks,hk,hit⟩:=zi7 I hp rv
 have l1:=Paired.length hp
 have l2:=rv.length
 have l3:=Paired.length hk
 obtain ⟨⟨oc,od,oda,osl⟩,n,e,e1,e2,e3⟩:=pl
 simp only at e1 e2 e3
 subst e1 e2 e3
 refine DictP.of_pairs (kvs:=ks) (I.ok.hd hc) e (by rw [zlv hk]; exact hn) (by rw [List.size_toArray]; omega) (by omega) (fun i v hv=>hit i v (by simpa using hv)) fun h' tk hd k=>?_
 exact ⟨.ref s.heap.objs.size,_,I.laid (a:=s.heap.objs.size) (o:=.dK kvs) (t':=tk) k (Nat.le_refl _) ⟨by omega,beq_eq_false_iff_ne.mpr (Ne.symm (Nat.ne_of_lt I.big)),ks,hk,hd⟩,rfl,q _ (I.hok.fresh (Nat.le_refl _))⟩
end
end L2
namespace L2
open PySem PySem.Spec PyProof.Rows
theorem ziW : Manifest.owners.lookup (String.ofList ['d','e','s','r','e','v','e','r'].reverse) = some Manifest.sig_reversed:=by kernel_rfl
theorem zff : Slot "reversed" "__next__" "reversed.__next__":=
 .of (owner := "reversed") (n := "__next__") (by rw [typeLookup_type,builtinLookup_eq_fast]; kernel_rfl) (by decide +kernel) (by decide +kernel) (by decide +kernel)
  (by first | exact .inl (by decide +kernel) | exact .inr (by decide +kernel)) (by rw [isSubtype_type]; kernel_rfl)
theorem zkT : Slot "reversed" "__iter__" "reversed.__iter__":=
 .of (owner := "reversed") (n := "__iter__") (by rw [typeLookup_type,builtinLookup_eq_fast]; kernel_rfl) (by decide +kernel) (by decide +kernel) (by decide +kernel)
  (by first | exact .inl (by decide +kernel) | exact .inr (by decide +kernel)) (by rw [isSubtype_type]; kernel_rfl)
theorem zoe : Slot "reversed" "__init__" "object.__init__":=
 .of (owner := "object") (n := "__init__") (by rw [typeLookup_type,builtinLookup_eq_fast]; kernel_rfl) (by decide +kernel) (by decide +kernel) (by decide +kernel)
  (by first | exact .inl (by decide +kernel) | exact .inr (by decide +kernel)) (by rw [isSubtype_type]; kernel_rfl)
theorem zg8 : entryFor table "reversed.__next__" = some Builtin.«reversed.__next__»:=entryFor_of_tree (by kernel_rfl)
theorem zg9 (a : Value) : argsOk "reversed.__next__" ⟨[a],[]⟩:=by
 unfold argsOk; rw [signature?_of (id := "reversed.__next__") (n:=['_','_','t','x','e','n','_','_']) (o:=['d','e','s','r','e','v','e','r']) (by kernel_rfl) ziW]; kernel_rfl
theorem zkV (a : Value) : argsOk "reversed.__iter__" ⟨[a],[]⟩:=by
 unfold argsOk; rw [signature?_of (id := "reversed.__iter__") (n:=['_','_','r','e','t','i','_','_']) (o:=['d','e','s','r','e','v','e','r']) (by kernel_rfl) ziW]; kernel_rfl
theorem zkU : entryFor table "reversed.__iter__" = some Builtin.«dict_keyiterator.__iter__»:=
 entryFor_alias (id' := "dict_keyiterator.__iter__") (by kernel_rfl) (by first | rfl | decide +kernel | (unfold String.splitOn; simp +decide [String.splitOnAux])) (by decide +kernel) (by kernel_rfl)
theorem zfg : TypeCalled "reversed" "reversed.__new__" "object.__init__":=
 ⟨by decide +kernel,by decide +kernel,⟨_,_,F.mro_reversed⟩,F.made_reversed,by decide +kernel,F.sub_reversed_self,zoe⟩
theorem zoc : typeLookup (.type "tuple") "__reversed__" = pure none:=by rw [typeLookup_type,builtinLookup_eq_fast]; kernel_rfl
theorem zof : isSubtype (.type "tuple") (.type "dict") = pure false:=by rw [isSubtype_type]; kernel_rfl
def zg6 (l : Addr) (i : Int) : Obj:={ cls:=.type "reversed",data:=.fields #[.ref l,rawInt i] }
def zfG (h : Heap) (a l : Addr) (i : Int) : Prop:=∃ o,h.get? a = some o∧o.cls = .type "reversed"∧o.data = .fields #[.ref l,rawInt i]
section
variable {prog : Program} {w : World} {A : Around} {E : Value→Shared→Prop} {s : Shared}
theorem zfG.typeIs {a l : Addr} {i : Int} (x : zfG s.heap a l i) : s.TypeIs (.ref a) "reversed":=let ⟨o,ho,hc,_⟩:=x; ⟨o,ho,hc⟩
theorem zfG.at {h h' : Heap} {a l : Addr} {i : Int} (x : zfG h a l i) (e : ∀ o,h.get? a = some o→h'.get? a = some o) : zfG h' a l i:=let ⟨o,ho,r⟩:=x; ⟨o,e _ ho,r⟩
theorem zg7 {it l : Addr} {i : Int} {Q : Value→Shared→Prop} (hit : zfG s.heap it l i) (h : Q (.ref it) s) : wpAny (model prog w) A (pyIter (.ref it)) Q E s:=by
 refine wpAny_pyIter_slot hit.typeIs zkT (wpAny_call_entry zkT hit.typeIs zkU ?_ (zkV _))
 show wpAny _ _ (ret (.ref it)) _ _ s
 exact wpAny_pure ⟨_,rfl,"reversed",_,hit.typeIs,zff.lookup,h⟩
theorem rt_new {l : Addr} {items : Array Value} {Q₁ : Value→Shared→Prop} (hl : IsTup s.heap l items) (hfit : (items.size : Int) < 2 ^ 63)
  (h : Q₁ (.ref s.heap.objs.size) { s with heap:=s.heap.push (zg6 l ((items.size : Int) - 1)),toks:=s.toks + 1 + 1 }) :
  codeAny (model prog w) A (.call (.builtin "reversed.__new__") ⟨[.type "reversed",.ref l],[]⟩) (wants Q₁ E) s:=by
 refine codeAny_of_tree ?_
 show wpAny _ A.in1 (do checkBuiltinCall "reversed.__new__" ⟨[.type "reversed",.ref l],[]⟩; again (.builtin "reversed.__new__" ⟨[.type "reversed",.ref l],[]⟩)) _ _ s
 refine wpAny_bind (wpAny_of_eq (F.newCall_reversed_1 _) (wpAny_pure ⟨plainId_quiet F.plain_reversed_new _,codeAny_builtin F.entry_reversed_new ?_⟩))
 rw [Around.under_plainId F.plain_reversed_new _]
 unfold Builtin.«reversed.__new__»
 refine wpAny_bind (wpAny_of_eq (newClass_reversed _) ?_)
 try dsimp only
 refine wpAny_bind (wpAny_of_eq (a:=()) (by first | rfl | kernel_rfl) ?_)
 refine wpAny_bind (wpAny_of_eq (a:=()) (by first | rfl | kernel_rfl) ?_)
 try dsimp only
 refine wpAny_bind (wpAny_specialOf hl.typeIs zoc ?_)
 try dsimp only
 refine wpAny_bind (wpAny_bind (wpAny_isInstance hl.typeIs zof ?_))
 try dsimp only
 rw [if_neg (by decide)]
 refine wpAny_bind (wpAny_specialOf hl.typeIs slot_tuple_getitem.lookup ?_)
 try dsimp only
 rw [if_pos (by decide)]
 refine wpAny_pure ?_
 rw [if_neg (by decide)]
 refine wpAny_bind (len_tuple hl hfit ?_)
 refine wpAny_bind (wpAny_of_eq (a:=some (items.size : Int)) rfl ?_)
 try dsimp only
 show wpAny _ _ (newObj (.type "reversed") (.fields #[.ref l,rawInt ((items.size : Int) - 1)]) >>= _) _ _ _
 exact wpAny_bind (wpAny_newObj_type (wpAny_pure h))
theorem zog {l : Addr} {items : Array Value} {Q : Value→Shared→Prop} (hl : IsTup s.heap l items) (hfit : (items.size : Int) < 2 ^ 63)
  (h : Q (.ref s.heap.objs.size) { s with heap:=s.heap.push (zg6 l ((items.size : Int) - 1)),toks:=s.toks + 1 + 1 }) : wpAny (model prog w) A (call (.type "reversed") [.ref l]) Q E s:=by
 refine callType_codes (Bi:=Builtin.«object.__init__») (Q₁:=fun obj s₁=>s₁.TypeIs obj "reversed"∧Q obj s₁) zfg (F.typeCall_reversed_1 _) F.entry_object_init (rt_new hl hfit ⟨⟨_,Heap.get?_push_size _ rfl,rfl⟩,h⟩) ?_
 intro obj s₁ h₁
 exact ⟨h₁.1,F.args_object_init_2 obj _,object_init_meets zfg.init.lookup zfg.made (by decide) prog w A.in1 _ s₁ ⟨h₁.1,rfl,h₁.2⟩⟩
theorem zod {it l : Addr} {i : Nat} {items : Array Value} {x : Value} {Q : Option Value→Shared→Prop} (hit : zfG s.heap it l (i : Int)) (hl : IsTup s.heap l items) (hfit : (items.size : Int) < 2 ^ 63) (hx : items[i]? = some x)
  (hQ : ∀ h' tk,zfG h' it l ((i : Int) - 1)→Heap.SameBut it s.heap h'→Q (some x) { s with heap:=h',toks:=tk }) : wpAny (model prog w) A (pyNext (.ref it)) Q E s:=by
 obtain ⟨o,ho,hc,hd⟩:=id hit
 have hi : i < items.size:=(Array.getElem?_eq_some_iff.mp hx).1
 unfold pyNext
 refine wpAny_bind (wpAny_attempt (wpAny_callSpecial?_slot (name:=Str.ofString "__next__") hit.typeIs zff
  (wpAny_call_entry zff hit.typeIs zg8 ?_ (zg9 _))))
 unfold Builtin.«reversed.__next__»
 refine wpAny_bind (wpAny_of_eq (a:=(Value.ref it,[])) rfl ?_)
 try dsimp only
 refine wpAny_bind (wpAny_field ho hd (x:=.ref l) rfl ?_)
 refine wpAny_bind (wpAny_field ho hd (x:=rawInt (i : Int)) rfl ?_)
 show wpAny _ _ (if (i : Int) < 0 then _ else _) _ _ s
 rw [if_neg (by omega)]
 refine wpAny_bind (wpAny_specialOf hl.typeIs slot_tuple_getitem.lookup ?_)
 rw [if_neg (by simp)]
 refine wpAny_bind (wpAny_mkInt ?_)
 refine wpAny_bind (wpAny_attempt (getItem_tuple (s:={ s with toks:=s.toks + 1 }) hl (by omega) (by omega) (seqIndex_of (by omega) (by omega)) (by simpa using hx) ?_))
 try dsimp only
 refine wpAny_bind (wpAny_field (s:={ s with toks:=s.toks + 1 }) ho hd (x:=rawInt (i : Int)) rfl ?_)
 show wpAny _ _ (setField (.ref it) 1 (rawInt ((i : Int) - 1)) >>= _) _ _ _
 refine wpAny_bind (wpAny_setField (s:={ s with toks:=s.toks + 1 }) ho hd (by simp) ?_)
 refine wpAny_pure ⟨x,rfl,wpAny_pure (hQ _ _ ?_ (Heap.SameBut.update ..))⟩
 exact ⟨_,Heap.get?_update_self _ ho (Obj.isFreed_of_fields (Obj.data_mapFields hd _)),(Obj.cls_mapFields ..).trans hc,by
  rw [Obj.data_mapFields hd]; simp⟩
theorem rt_end {it l : Addr} {Q : Option Value→Shared→Prop} (hh : A.handled = none) (hit : zfG s.heap it l (-1))
  (hQ : ∀ h',Heap.ExtBut it s.heap h'→Q none { s with heap:=h' }) : wpAny (model prog w) A (pyNext (.ref it)) Q E s:=by
 obtain ⟨o,ho,hc,hd⟩:=id hit
 unfold pyNext
 refine wpAny_bind (wpAny_attempt (wpAny_callSpecial?_slot (name:=Str.ofString "__next__") hit.typeIs zff
  (wpAny_call_entry zff hit.typeIs zg8 ?_ (zg9 _))))
 unfold Builtin.«reversed.__next__»
 refine wpAny_bind (wpAny_of_eq (a:=(Value.ref it,[])) rfl ?_)
 try dsimp only
 refine wpAny_bind (wpAny_field ho hd (x:=.ref l) rfl ?_)
 refine wpAny_bind (wpAny_field ho hd (x:=rawInt (-1)) rfl ?_)
 show wpAny _ _ (if (-1 : Int) < 0 then _ else _) _ _ s
 rw [if_pos (by decide)]
 refine wpAny_bind (wpAny_rule ?_)
 refine wpAny_bind (show wpAny _ _ (do setField (.ref it) 1 (rawInt (-1)); setField (.ref it) 0 .none) _ _ _ from wpAny_bind (wpAny_setField ho hd (by simp) ?_))
 have ho2:=Heap.get?_update_self (Obj.mapFields (·.setIfInBounds 1 (rawInt (-1)))) ho (Obj.isFreed_of_fields (Obj.data_mapFields hd _))
 refine wpAny_setField (s:={ s with heap:=s.heap.update it (Obj.mapFields (·.setIfInBounds 1 (rawInt (-1)))) }) ho2 (Obj.data_mapFields hd _) (by simp) ?_
 have hx : Heap.ExtBut it s.heap ((s.heap.update it (Obj.mapFields (·.setIfInBounds 1 (rawInt (-1))))).update it (Obj.mapFields (·.setIfInBounds 0 Value.none))):=fun b o hb e=>((Heap.SameBut.update ..).2 b hb).trans (((Heap.SameBut.update ..).2 b hb).trans e)
 generalize ((s.heap.update it (Obj.mapFields (·.setIfInBounds 1 (rawInt (-1))))).update it (Obj.mapFields (·.setIfInBounds 0 Value.none))) = h2 at hx ⊢
 show wpAny _ _ ((newExc (.type "StopIteration") [] >>= _) >>= _) _ _ _
 refine wpAny_bind (wpAny_bind ?_)
 simp only [newExc,newTuple]
 refine wpAny_bind (wpAny_newObj_type ?_ (by size_fits))
 refine wpAny_bind (m:=firstArgMember _ _) (wpAny_of_eq (a:=Value.none) (by first | rfl | (simp only [firstArgMember]; rfl)) ?_)
 refine wpAny_newObj_type ?_ (by size_fits)
 simp only [raiseNew]
 refine wpAny_bind (wpAny_handled ?_)
 first | rw [show A.in1.handled = none from hh] | rw [hh]
 refine wpAny_bind (wpAny_pure (wpAny_throw ?_))
 refine wpAny_bind (wpAny_isInstance (T := "StopIteration") (b:=true) ⟨_,Heap.get?_push_size _ rfl,rfl⟩ isSubtype_stop ?_)
 exact wpAny_pure (hQ _ ((hx.push _).push _))
end
def Itw (K : PySem.W.Frag) (a : Addr) (n : Nat) : It:=
 ⟨fun i H=>i < n∧∃ xs,SqT K H a xs∧xs.length = n,fun i H x H'=>H' = H∧∀ xs,SqT K H a xs→xs.length = n→xs.reverse[i]? = some x,fun i _=>i = n⟩
theorem zmp {P : Program} {w : World} {K : PySem.W.Frag} {tg : Expr} (a it : Addr) (n : Nat) : Turn P w K tg (Itw K a n) [it] it (fun i h=>zfG h it a ((n : Int) - 1 - (i : Int))) where
 mem:=by simp
 obj:=fun i h st b hb=>by
  have e : b = it:=by simpa using hb
  subst e
  obtain ⟨o,e,c,d⟩:=st
  exact ⟨o,e,fun v z=>by rw [d] at z; cases z⟩
 keep:=fun i h h' st k=>st.at fun o e=>k it (by simp) o e
 item:=by
  intro X hP hw hK hc i pins s σ H E I hf st hg
  subst hP hw hK
  obtain ⟨hi,xs,hq,hn⟩:=hg
  obtain ⟨its,rv,p,hz⟩:=I.tuple hq
  have hx : xs[n - 1 - i]? = some (xs[n - 1 - i]'(by omega)):=List.getElem?_eq_getElem (by omega)
  obtain ⟨u,hu,ru⟩:=rv.get hx
  obtain ⟨f0,f1,f2,f3,f4,f5⟩:=hf it (by simp)
  have e1 : (n : Int) - 1 - (i : Int) = ((n - 1 - i : Nat) : Int):=by omega
  rw [e1] at st
  have hfit : ((its.toArray.size : Nat) : Int) < 2 ^ 63:=by
   rw [List.size_toArray,← rv.length]
   have : sizeLine < 2 ^ 63:=by decide
   omega
  refine zod st p hfit (x:=u) (by simpa using hu) fun h' tk st' sb=>?_
  have e2 : ((n - 1 - i : Nat) : Int) - 1 = (n : Int) - 1 - ((i + 1 : Nat) : Int):=by omega
  rw [e2] at st'
  have I1 : Inv X pins σ H { s with heap:=h',toks:=tk }:=I.turned (t':=tk) (fun b o hb e=>(sb.2 b hb).trans e) f0 f1 f3 f4 f5
  obtain ⟨o,e,c,d⟩:=id st'
  refine ⟨u,rfl,zlM (s:={ s with heap:=h',toks:=tk }) e c d (by decide) ⟨xs[n - 1 - i]'(by omega),H,I1,ru,⟨rfl,fun ys hy hyn=>?_⟩,st',fun b hb=>(hf b hb).1⟩⟩
  rw [I.tuple_inj hy hq,List.getElem?_reverse (by omega),show xs.length - 1 - i = n - 1 - i by omega]
  exact hx
 done:=by
  intro X hP hw hK hc i pins s σ H E I hf st hg
  subst hP hw hK
  have hi : i = n:=hg
  subst hi
  obtain ⟨f0,f1,f2,f3,f4,f5⟩:=hf it (by simp)
  have e1 : (i : Int) - 1 - (i : Int) = -1:=by omega
  rw [e1] at st
  exact rt_end (I.ok.hd hc) st fun h' eb=>⟨rfl,I.turned (t':=s.toks) (fun b o hb e=>eb b o hb e) f0 f1 f3 f4 f5⟩
 self:=fun _ _ _ _ _ st h=>zg7 st h
def iRevT (K : PySem.W.Frag) (ta : TA) : TI:=fun σ H R=>ta σ H fun vs H1=>∃ a xs,vs = [.ref a]∧SqT K H1 a xs∧R (Itw K a xs.length) H1
section
variable {X : Cx}
theorem zhh {tg : Expr} {a : Expr} {ta : TA} {p pos : Pos} (hg : Gl X "reversed") (hm : X.mg "reversed" = none) (ha : PA X [a] ta) (hs : starEach [a] X.env = [(false,eval a X.env)]:=by rfl) : PI X tg (.Call (.Name "reversed" p) [a] [] pos) (iRevT X.K ta):=by
 intro pins s σ H R I h
 refine Call_ (zeh I hg hm boot_reversed (PyProof.Rows.callWith_type1 (thn (ha pos pins s σ H _ I h) fun us s1 ⟨vs,H1,I1,r1,q1⟩=>?_) hs rfl))
 obtain ⟨l,xs,e,hq,q⟩:=q1
 subst e
 cases r1 with
 | cons r rr=>
  cases rr
  cases r
  obtain ⟨its,rv,pl,hz⟩:=I1.tuple hq
  have hl:=rv.length
  have hfit : ((its.toArray.size : Nat) : Int) < 2 ^ 63:=by
   rw [List.size_toArray,← rv.length]
   have : sizeLine < 2 ^ 63:=by decide
   omega
  refine zog pl hfit ?_
  have I2 : Inv X pins σ H1 { s1 with heap:=s1.heap.push (zg6 l ((its.toArray.size : Int) - 1)),toks:=s1.toks + 1 + 1 }:=I1.kept (t':=s1.toks + 1 + 1) fun b o e=>Heap.get?_push_of_some _ e
  have hr : zfG (s1.heap.push (zg6 l ((its.toArray.size : Int) - 1))) s1.heap.objs.size l (((xs.length : Nat) : Int) - 1 - ((0 : Nat) : Int)):=by
   refine ⟨_,Heap.get?_push_size _ rfl,rfl,?_⟩
   have : (its.toArray.size : Int) - 1 = ((xs.length : Nat) : Int) - 1 - ((0 : Nat) : Int):=by
    rw [List.size_toArray,hl]
    omega
   rw [this]
   rfl
  refine zg7 (s:={ s1 with heap:=s1.heap.push (zg6 l ((its.toArray.size : Int) - 1)),toks:=s1.toks + 1 + 1 }) hr ⟨_,[s1.heap.objs.size],_,_,H1,rfl,I2,zmp l s1.heap.objs.size xs.length,hr,fun b hb=>?_,q⟩
  have e : b = s1.heap.objs.size:=by simpa using hb
  subst e
  exact I1.fpOk (Nat.le_refl _) (I1.hok.fresh (Nat.le_refl _))
end
theorem zl0 {K : PySem.W.Frag} {a D : Addr} {xs : List V} {g : TG} {ts : TT} {te : TE} {σ : St} {H : Hp} {Q : Hp→Prop} (Pv : Nat→St→Hp→Prop) (h0 : Pv 0 σ H) (hl : ∀ i σ H,i≤xs.length→Pv i σ H→SqT K H a xs)
  (hs : ∀ i m x σ H,xs.reverse[i]? = some x→i + m = xs.length→Pv i σ H→g x σ H fun σ2 H2=>ts σ2 H2 fun b H3=>if b = true then te σ2 H3 fun y H4=>∃ zs,H4 D = some (.lst zs)∧zs.length < sizeLine∧∃ m',m' < m∧(i + 1 + m' = xs.length∧Pv (i + 1) σ2 (upd H4 D (.lst (zs ++ [y])))) else ∃ m',m' < m∧(i + 1 + m' = xs.length∧Pv (i + 1) σ2 H3))
  (hd : ∀ σ H,Pv xs.length σ H→Q H) :
  ∃ W : Nat→Nat→St→Hp→Prop,(∃ m,W 0 m σ H)∧∀ i m σ H,W i m σ H→((Itw K a xs.length).stop i H∧Q H)∨((Itw K a xs.length).go i H∧∀ x H',(Itw K a xs.length).yld i H x H'→g x σ H' fun σ2 H2=>ts σ2 H2 fun b H3=>if b = true then te σ2 H3 fun y H4=>∃ xs,H4 D = some (.lst xs)∧xs.length < sizeLine∧∃ m',m' < m∧W (i + 1) m' σ2 (upd H4 D (.lst (xs ++ [y]))) else ∃ m',m' < m∧W (i + 1) m' σ2 H3):=by
 refine ⟨fun i m σ H=>i + m = xs.length∧Pv i σ H,⟨xs.length,by omega,h0⟩,fun i m σ H ⟨e,pv⟩=>?_⟩
 have hS:=hl i σ H (by omega) pv
 by_cases hi : i < xs.length
 ·refine .inr ⟨⟨hi,xs,hS,rfl⟩,fun x H' y=>?_⟩
  obtain ⟨e1,y⟩:=y
  subst e1
  exact hs i m x σ _ (y xs hS rfl) e pv
 ·have : i = xs.length:=by omega
  subst this
  exact .inl ⟨rfl,hd σ H pv⟩
section
variable {X : Cx}
end
end L2
namespace Kas
open PySem PySem.W PyProof.Rows
def run {α : Type} (f : Nat→Nat→Bool) : KasT α→α
 | .ret a=>a
 | .ask i j k=>run f (k (f i j))
theorem zdv {α β : Type} (f : Nat→Nat→Bool) (g : α→KasT β) : ∀ t : KasT α,run f (t.bind g) = run f (g (run f t))
 | .ret _=>rfl
 | .ask i j k=>zdv f g (k (f i j))
def Res {α : Type} (n : Nat) (P : α→Prop) : KasT α→Prop
 | .ret a=>P a
 | .ask i j k=>i < n∧j < n∧∀ b,Res n P (k b)
theorem Res.bind {α β : Type} {n : Nat} {P : α→Prop} {P' : β→Prop} {g : α→KasT β} (h2 : ∀ a,P a→Res n P' (g a)) : ∀ {t : KasT α},Res n P t→Res n P' (t.bind g)
 | .ret a,h=>h2 a h
 | .ask _ _ _,h=>⟨h.1,h.2.1,fun b=>Res.bind h2 (h.2.2 b)⟩
theorem Res.run {α : Type} {n : Nat} {P : α→Prop} (f : Nat→Nat→Bool) : ∀ {t : KasT α},Res n P t→P (Kas.run f t)
 | .ret _,h=>h
 | .ask i j k,h=>Res.run (t:=k (f i j)) f (h.2.2 (f i j))
theorem wp_of {α : Type} {n : Nat} {P : α→Prop} {f : Nat→Nat→Bool} {cmp : Nat→Nat→(Bool→Shared→Prop)→Shared→Prop} {Q : α→Shared→Prop} {s : Shared} (hc : ∀ i j C,i < n→j < n→C (f i j) s→cmp i j C s) : ∀ {t : KasT α},Res n P t→Q (Kas.run f t) s→t.kasWp cmp Q s
 | .ret _,_,q=>q
 | .ask i j _,h,q=>hc i j _ h.1 h.2.1 (wp_of hc (h.2.2 (f i j)) q)
def Good (n : Nat) (p : Array Nat) : Prop:=p.Perm (List.range n).toArray
theorem Good.size {n : Nat} {p : Array Nat} (h : Good n p) : p.size = n:=by
 have:=h.size_eq
 simpa using this
theorem Good.lt {n : Nat} {p : Array Nat} (h : Good n p) (hn : 0 < n) (k : Nat) : p.getD k 0 < n:=by
 by_cases c : k < p.size
 ·have e : p.getD k 0 = p[k]:=by simp [Array.getD,c]
  rw [e]
  have hm : p[k]∈(List.range n).toArray:=h.mem_iff.mp (Array.getElem_mem c)
  simpa using hm
 ·have e : p.getD k 0 = 0:=by simp [Array.getD,c]
  rw [e]
  exact hn
theorem Good.rev {n : Nat} {p : Array Nat} (h : Good n p) (i j : Nat) : Good n (kas_rev p i j):=(mirror_perm p i j _).trans h
theorem Good.bub {n : Nat} {p : Array Nat} (h : Good n p) (i j : Nat) : Good n (bubble p i j):=(bubble_perm p i j).trans h
section
variable {n : Nat} (hn : 0 < n)
include hn
theorem ziC {p : Array Nat} (h : Good n p) : ∀ (f m : Nat),Res n (fun _=>True) (kas_asc p f m)
 | 0,_=>trivial
 | f + 1,m=>⟨h.lt hn _,h.lt hn _,fun b=>by
  cases b with
  | true=>exact trivial
  | false=>exact ziC h f (m + 1)⟩
theorem ze9 : ∀ (f : Nat) {p : Array Nat} (m q : Nat),Good n p→Res n (fun r : Array Nat×Nat×Nat=>Good n r.1) (kas_desc f p m q)
 | 0,_,_,_,h=>h
 | f + 1,p,m,q,h=>⟨h.lt hn _,h.lt hn _,fun b=>by
  cases b with
  | true=>
   show Res n _ (if q > 0 then kas_desc f (kas_rev p (m - (q + 1)) m) (m + 1) 0 else kas_desc f p (m + 1) 0)
   split
   ·exact ze9 f _ _ (h.rev _ _)
   ·exact ze9 f _ _ h
  | false=>
   refine ⟨h.lt hn _,h.lt hn _,fun c=>?_⟩
   cases c with
   | true=>exact h
   | false=>exact ze9 f _ _ h⟩
theorem ziG {p : Array Nat} (h : Good n p) (m r : Nat) : Res n (fun x : Nat×Array Nat=>Good n x.2) (kas_tail3 m r p):=by
 refine Res.bind (fun a _=>?_) (ziC hn (h.rev 0 m) (r - m) m)
 exact h.rev _ _
theorem zeJ {p : Array Nat} (h : Good n p) (m r : Nat) : Res n (fun x : Nat×Array Nat=>Good n x.2) (kas_descPart m r p):=by
 refine Res.bind (fun a ha=>?_) (ze9 hn _ _ _ h)
 show Res n _ (if a.2.2 > 0 then _ else _)
 split
 ·exact ziG hn (Good.rev ha _ _) _ _
 ·exact ziG hn ha _ _
theorem zhE {p : Array Nat} (h : Good n p) (r : Nat) : Res n (fun x : Nat×Array Nat=>Good n x.2) (kas_count r p):=by
 refine Res.bind (fun a _=>?_) (ziC hn h _ _)
 show Res n _ (if (a == r) = true then _ else if a > 1 then _ else _)
 split
 ·exact h
 ·split
  ·refine ⟨h.lt hn _,h.lt hn _,fun b=>?_⟩
   cases b with
   | true=>exact h
   | false=>exact zeJ hn (h.rev _ _) _ _
  ·exact zeJ hn h _ _
theorem zfk {p : Array Nat} (h : Good n p) (k : Nat) : ∀ (f l r : Nat),Res n (fun _=>True) (kas_place p k f l r)
 | 0,_,_=>trivial
 | f + 1,l,r=>by
  show Res n _ (if l ≥ r then _ else _)
  split
  ·exact trivial
  ·refine ⟨h.lt hn _,h.lt hn _,fun b=>?_⟩
   cases b with
   | true=>exact zfk h k f _ _
   | false=>exact zfk h k f _ _
theorem zma : ∀ (f : Nat) {p : Array Nat} (k : Nat),Good n p→Res n (Good n) (kas_bin f p k)
 | 0,_,_,h=>h
 | f + 1,_,k,h=>Res.bind (fun _ _=>zma f _ (h.bub _ _)) (zfk hn h k _ _ _)
theorem sort_res : Res n (Good n) (kas_sort n):=by
 refine Res.bind (fun a ha=>?_) (zhE hn (p:=(List.range n).toArray) (Array.Perm.refl _) n)
 show Res n _ (if a.1 < n then _ else _)
 split
 ·exact zma hn _ _ ha
 ·exact ha
end
structure Ord (f : Nat→Nat→Bool) : Prop where
 irr : ∀ a,f a a = false
 tr : ∀ a b c,f a b = true→f b c = true→f a c = true
 neg : ∀ a b c,f a c = true→f a b = true∨f b c = true
def Up (f : Nat→Nat→Bool) (p : Array Nat) (k : Nat) : Prop:=∀ i j,i < j→j < k→f (p.getD j 0) (p.getD i 0) = false
def Down (f : Nat→Nat→Bool) (p : Array Nat) (k : Nat) : Prop:=∀ i j,i < j→j < k→f (p.getD i 0) (p.getD j 0) = false
section
variable {f : Nat→Nat→Bool} (O : Ord f)
include O
theorem not_lt {a b c : Nat} (h1 : f a b = false) (h2 : f b c = false) : f a c = false:=by
 cases e : f a c with
 | false=>rfl
 | true=>
  rcases O.neg a b c e with z | z
  ·rw [h1] at z
   cases z
  ·rw [h2] at z
   cases z
theorem asym {a b : Nat} (h : f a b = true) : f b a = false:=by
 cases e : f b a with
 | false=>rfl
 | true=>
  have:=O.tr a b a h e
  rw [O.irr] at this
  cases this
theorem znX {p : Array Nat} {m : Nat} (h1 : 1≤m) (h : Up f p m) (e : f (p.getD m 0) (p.getD (m - 1) 0) = false) : Up f p (m + 1):=fun i j hij hj=>by
 by_cases c : j < m
 ·exact h i j hij c
 ·have : j = m:=by omega
  subst this
  by_cases ci : i = j - 1
  ·rw [ci]
   exact e
  ·exact not_lt O e (h i (j - 1) (by omega) (by omega))
theorem ziB {p : Array Nat} : ∀ (fu m : Nat),1≤m→Up f p m→Up f p (run f (kas_asc p fu m))∧m≤run f (kas_asc p fu m)∧run f (kas_asc p fu m)≤m + fu∧(run f (kas_asc p fu m) < m + fu→f (p.getD (run f (kas_asc p fu m)) 0) (p.getD (run f (kas_asc p fu m) - 1) 0) = true)
 | 0,m,_,h=>⟨h,Nat.le_refl _,Nat.le_refl _,fun z=>absurd z (by show ¬ m < m + 0; omega)⟩
 | fu + 1,m,h1,h=>by
  have step : run f (kas_asc p (fu + 1) m) = if f (p.getD m 0) (p.getD (m - 1) 0) = true then m else run f (kas_asc p fu (m + 1)):=by
   show run f (if f (p.getD m 0) (p.getD (m - 1) 0) = true then .ret m else kas_asc p fu (m + 1)) = _
   split <;> rfl
  rw [step]
  cases e : f (p.getD m 0) (p.getD (m - 1) 0) with
  | true=>exact ⟨h,Nat.le_refl _,by rw [if_pos rfl]; omega,fun _=>e⟩
  | false=>
   rw [if_neg (by decide)]
   obtain ⟨a1,a2,a3,a4⟩:=ziB fu (m + 1) (by omega) (znX O h1 h e)
   exact ⟨a1,by omega,by omega,fun z=>a4 (by omega)⟩
theorem zfj {p : Array Nat} {k : Nat} (h : Up f p k) : ∀ (fu l r : Nat),l≤r→r≤k→r - l≤fu→(∀ i,i < l→f (p.getD k 0) (p.getD i 0) = false)→(∀ i,r≤i→i < k→f (p.getD k 0) (p.getD i 0) = true)→
  run f (kas_place p k fu l r)≤k∧(∀ i,i < run f (kas_place p k fu l r)→f (p.getD k 0) (p.getD i 0) = false)∧(∀ i,run f (kas_place p k fu l r)≤i→i < k→f (p.getD k 0) (p.getD i 0) = true)
 | 0,l,r,h1,h2,h3,h4,h5=>⟨by show l≤k; omega,h4,fun i hi=>h5 i (by have : l≤i:=hi; omega)⟩
 | fu + 1,l,r,h1,h2,h3,h4,h5=>by
  by_cases c : l ≥ r
  ·have e : run f (kas_place p k (fu + 1) l r) = l:=by
    show run f (if l ≥ r then _ else _) = l
    rw [if_pos c]
    rfl
   rw [e]
   exact ⟨by omega,h4,fun i hi=>h5 i (by omega)⟩
  ·have e : run f (kas_place p k (fu + 1) l r) = if f (p.getD k 0) (p.getD ((l + r) / 2) 0) = true then run f (kas_place p k fu l ((l + r) / 2)) else run f (kas_place p k fu ((l + r) / 2 + 1) r):=by
    show run f (if l ≥ r then _ else _) = _
    rw [if_neg c]
    show run f (if f (p.getD k 0) (p.getD ((l + r) / 2) 0) = true then _ else _) = _
    split <;> rfl
   rw [e]
   cases e2 : f (p.getD k 0) (p.getD ((l + r) / 2) 0) with
   | true=>
    rw [if_pos rfl]
    refine zfj h fu l _ (by omega) (by omega) (by omega) h4 fun i hi hk=>?_
    by_cases ci : i = (l + r) / 2
    ·rw [ci]
     exact e2
    ·rcases O.neg _ (p.getD i 0) _ e2 with z | z
     ·exact z
     ·rw [h _ i (by omega) hk] at z
      cases z
   | false=>
    rw [if_neg (by decide)]
    refine zfj h fu _ r (by omega) h2 (by omega) (fun i hi=>?_) h5
    by_cases ci : i = (l + r) / 2
    ·rw [ci]
     exact e2
    ·exact not_lt O e2 (h i _ (by omega) (by omega))
omit O in
theorem gd (q : Array Nat) (x : Nat) : q.getD x 0 = (q[x]?).getD 0:=by
 by_cases h : x < q.size
 ·simp [Array.getD,h]
 ·simp [Array.getD,h]
omit O in
theorem zlN {p : Array Nat} {k d : Nat} (hk : k < p.size) (hd : d≤k) (j : Nat) : (bubble p k d).getD j 0 = if j = k - d then p.getD k 0 else if k - d < j∧j≤k then p.getD (j - 1) 0 else p.getD j 0:=by
 rw [gd,getElem?_bubble hk d hd j,gd p k,gd p (j - 1),gd p j]
 split
 ·rfl
 ·split <;> rfl
theorem bub_up {p : Array Nat} {k l : Nat} (hk : k < p.size) (h : Up f p k) (hl : l≤k) (h1 : ∀ i,i < l→f (p.getD k 0) (p.getD i 0) = false) (h2 : ∀ i,l≤i→i < k→f (p.getD k 0) (p.getD i 0) = true) : Up f (bubble p k (k - l)) (k + 1):=fun i j hij hj=>by
 rw [zlN hk (by omega),zlN hk (by omega),show k - (k - l) = l by omega]
 by_cases cj : j = l
 ·rw [if_pos cj,if_neg (by omega),if_neg (by omega)]
  exact h1 i (by omega)
 ·rw [if_neg cj]
  by_cases cj2 : l < j∧j≤k
  ·rw [if_pos cj2]
   by_cases ci : i = l
   ·rw [if_pos ci]
    exact asym O (h2 (j - 1) (by omega) (by omega))
   ·rw [if_neg ci]
    by_cases ci2 : l < i∧i≤k
    ·rw [if_pos ci2]
     exact h (i - 1) (j - 1) (by omega) (by omega)
    ·rw [if_neg ci2]
     exact h i (j - 1) (by omega) (by omega)
  ·rw [if_neg cj2,if_neg (by omega),if_neg (by omega)]
   exact h i j hij (by omega)
theorem zl9 : ∀ (fu : Nat) {p : Array Nat} (k : Nat),k + fu≤p.size→Up f p k→Up f (run f (kas_bin fu p k)) (k + fu)
 | 0,_,_,_,h=>h
 | fu + 1,p,k,hz,h=>by
  have e : run f (kas_bin (fu + 1) p k) = run f (kas_bin fu (bubble p k (k - run f (kas_place p k k 0 k))) (k + 1)):=zdv f _ _
  rw [e]
  obtain ⟨a1,a2,a3⟩:=zfj O h k 0 k (Nat.zero_le _) (Nat.le_refl _) (by omega) (fun i hi=>absurd hi (Nat.not_lt_zero _)) (fun i hi hk=>absurd hk (by omega))
  have:=zl9 fu (k + 1) (by rw [bubble_size]; omega) (bub_up O (by omega) h a1 a2 a3)
  rw [show k + (fu + 1) = k + 1 + fu by omega]
  exact this
omit O in
theorem zdk {p : Array Nat} {i j : Nat} (hj : j≤p.size) (k : Nat) : (kas_rev p i j).getD k 0 = if i≤k∧k < j then p.getD (i + j - 1 - k) 0 else p.getD k 0:=by
 unfold kas_rev
 rw [gd,getElem?_mirror_all hj k,gd p (i + j - 1 - k),gd p k]
 split <;> rfl
omit O in
theorem zeZ (p : Array Nat) (i j : Nat) : (kas_rev p i j).size = p.size:=mirror_size _ _ _ _
omit O in
theorem rev_up {p : Array Nat} {m : Nat} (hm : m≤p.size) (h : Down f p m) : Up f (kas_rev p 0 m) m:=fun i j hij hj=>by
 rw [zdk hm,zdk hm,if_pos (by omega),if_pos (by omega)]
 exact h _ _ (by omega) (by omega)
def zml (f : Nat→Nat→Bool) (p : Array Nat) (m q : Nat) : Prop:=∀ i j,m - (q + 1)≤i→i < m→m - (q + 1)≤j→j < m→f (p.getD i 0) (p.getD j 0) = false
omit O in
theorem ziY {p : Array Nat} {m q : Nat} (hm : m≤p.size) (hq : q + 1≤m) (h : Down f p m) (hA : zml f p m q) : Down f (kas_rev p (m - (q + 1)) m) m:=fun i j hij hj=>by
 rw [zdk hm,zdk hm]
 by_cases ci : m - (q + 1)≤i∧i < m
 ·rw [if_pos ci,if_pos (by omega)]
  exact hA _ _ (by omega) (by omega) (by omega) (by omega)
 ·rw [if_neg ci]
  split
  ·exact h _ _ (by omega) (by omega)
  ·exact h _ _ (by omega) (by omega)
theorem zfw {p : Array Nat} {m : Nat} (h1 : 1≤m) (h : Down f p m) (e : f (p.getD (m - 1) 0) (p.getD m 0) = false) : Down f p (m + 1):=fun i j hij hj=>by
 by_cases c : j < m
 ·exact h i j hij c
 ·have : j = m:=by omega
  subst this
  by_cases ci : i = j - 1
  ·rw [ci]
   exact e
  ·exact not_lt O (h i (j - 1) (by omega) (by omega)) e
theorem ze8 : ∀ (fu : Nat) {p : Array Nat} (m q : Nat),q + 1≤m→m + fu≤p.size→Down f p m→zml f p m q→
  m≤(run f (kas_desc fu p m q)).2.1∧(run f (kas_desc fu p m q)).2.1≤m + fu∧(run f (kas_desc fu p m q)).2.2 + 1≤(run f (kas_desc fu p m q)).2.1∧(run f (kas_desc fu p m q)).1.size = p.size∧Down f (run f (kas_desc fu p m q)).1 (run f (kas_desc fu p m q)).2.1∧zml f (run f (kas_desc fu p m q)).1 (run f (kas_desc fu p m q)).2.1 (run f (kas_desc fu p m q)).2.2
 | 0,p,m,q,hq,hz,h,hA=>⟨Nat.le_refl _,Nat.le_refl _,hq,rfl,h,hA⟩
 | fu + 1,p,m,q,hq,hz,h,hA=>by
  have one : ∀ {p' : Array Nat},zml f p' (m + 1) 0:=fun {p'} i j a b c d=>by
   have : i = j:=by omega
   subst this
   exact O.irr _
  cases e : f (p.getD m 0) (p.getD (m - 1) 0) with
  | true=>
   have st : run f (kas_desc (fu + 1) p m q) = run f (if q > 0 then kas_desc fu (kas_rev p (m - (q + 1)) m) (m + 1) 0 else kas_desc fu p (m + 1) 0):=by
    show run f (if f (p.getD m 0) (p.getD (m - 1) 0) = true then _ else _) = _
    rw [e,if_pos rfl]
   rw [st]
   by_cases cq : q > 0
   ·rw [if_pos cq]
    have hD:=ziY (by omega) hq h hA
    have hl : f ((kas_rev p (m - (q + 1)) m).getD (m - 1) 0) ((kas_rev p (m - (q + 1)) m).getD m 0) = false:=by
     rw [zdk (by omega),zdk (by omega),if_pos (by omega),if_neg (by omega)]
     exact not_lt O (hA _ (m - 1) (by omega) (by omega) (by omega) (by omega)) (asym O e)
    obtain ⟨b1,b2,b3,b4,b5,b6⟩:=ze8 fu (p:=kas_rev p (m - (q + 1)) m) (m + 1) 0 (by omega) (by rw [zeZ]; omega) (zfw O (by omega) hD hl) one
    exact ⟨by omega,by omega,b3,by rw [b4,zeZ],b5,b6⟩
   ·rw [if_neg cq]
    obtain ⟨b1,b2,b3,b4,b5,b6⟩:=ze8 fu (p:=p) (m + 1) 0 (by omega) (by omega) (zfw O (by omega) h (asym O e)) one
    exact ⟨by omega,by omega,b3,b4,b5,b6⟩
  | false=>
   have st : run f (kas_desc (fu + 1) p m q) = if f (p.getD (m - 1) 0) (p.getD m 0) = true then (p,m,q) else run f (kas_desc fu p (m + 1) (q + 1)):=by
    show run f (if f (p.getD m 0) (p.getD (m - 1) 0) = true then _ else _) = _
    rw [e,if_neg (by decide)]
    show run f (if f (p.getD (m - 1) 0) (p.getD m 0) = true then _ else _) = _
    split <;> rfl
   rw [st]
   cases e2 : f (p.getD (m - 1) 0) (p.getD m 0) with
   | true=>
    rw [if_pos rfl]
    exact ⟨Nat.le_refl _,by show m≤_; omega,hq,rfl,h,hA⟩
   | false=>
    rw [if_neg (by decide)]
    have hA2 : zml f p (m + 1) (q + 1):=fun i j a b c d=>by
     by_cases ci : i = m
     ·by_cases cj : j = m
      ·rw [ci,cj]
       exact O.irr _
      ·rw [ci]
       exact not_lt O e (hA (m - 1) j (by omega) (by omega) (by omega) (by omega))
     ·by_cases cj : j = m
      ·rw [cj]
       exact not_lt O (hA i (m - 1) (by omega) (by omega) (by omega) (by omega)) e2
      ·exact hA i j (by omega) (by omega) (by omega) (by omega)
    obtain ⟨b1,b2,b3,b4,b5,b6⟩:=ze8 fu (p:=p) (m + 1) (q + 1) (by omega) (by omega) (zfw O (by omega) h e2) hA2
    exact ⟨by omega,by omega,b3,b4,b5,b6⟩
theorem ziF {p : Array Nat} {m r : Nat} (h1 : 1≤m) (hm : m≤r) (hr : r≤p.size) (h : Down f p m) : m≤(run f (kas_tail3 m r p)).1∧(run f (kas_tail3 m r p)).1≤r∧Up f (run f (kas_tail3 m r p)).2 (run f (kas_tail3 m r p)).1:=by
 have e : run f (kas_tail3 m r p) = (run f (kas_asc (kas_rev p 0 m) (r - m) m),kas_rev p 0 m):=zdv f _ _
 rw [e]
 obtain ⟨a1,a2,a3,_⟩:=ziB O (p:=kas_rev p 0 m) (r - m) m h1 (rev_up (by omega) h)
 exact ⟨a2,by show run f _≤r; omega,a1⟩
theorem zeI {p : Array Nat} {m r : Nat} (h1 : 1≤m) (hm : m + 1≤r) (hr : r≤p.size) (h : Down f p (m + 1)) : 1≤(run f (kas_descPart m r p)).1∧(run f (kas_descPart m r p)).1≤r∧Up f (run f (kas_descPart m r p)).2 (run f (kas_descPart m r p)).1:=by
 have e : run f (kas_descPart m r p) = run f (if (run f (kas_desc (r - (m + 1)) p (m + 1) 0)).2.2 > 0 then kas_tail3 (run f (kas_desc (r - (m + 1)) p (m + 1) 0)).2.1 r (kas_rev (run f (kas_desc (r - (m + 1)) p (m + 1) 0)).1 ((run f (kas_desc (r - (m + 1)) p (m + 1) 0)).2.1 - ((run f (kas_desc (r - (m + 1)) p (m + 1) 0)).2.2 + 1)) (run f (kas_desc (r - (m + 1)) p (m + 1) 0)).2.1) else kas_tail3 (run f (kas_desc (r - (m + 1)) p (m + 1) 0)).2.1 r (run f (kas_desc (r - (m + 1)) p (m + 1) 0)).1):=zdv f _ _
 rw [e]
 obtain ⟨b1,b2,b3,b4,b5,b6⟩:=ze8 O (r - (m + 1)) (p:=p) (m + 1) 0 (by omega) (by omega) h (fun i j a b c d=>by
  have : i = j:=by omega
  subst this
  exact O.irr _)
 generalize run f (kas_desc (r - (m + 1)) p (m + 1) 0) = t at b1 b2 b3 b4 b5 b6
 split
 ·obtain ⟨c1,c2,c3⟩:=ziF O (p:=kas_rev t.1 (t.2.1 - (t.2.2 + 1)) t.2.1) (m:=t.2.1) (r:=r) (by omega) (by omega) (by rw [zeZ,b4]; exact hr) (ziY (by rw [b4]; omega) b3 b5 b6)
  exact ⟨by omega,c2,c3⟩
 ·obtain ⟨c1,c2,c3⟩:=ziF O (p:=t.1) (m:=t.2.1) (r:=r) (by omega) (by omega) (by rw [b4]; exact hr) b5
  exact ⟨by omega,c2,c3⟩
theorem zlZ {p : Array Nat} {r : Nat} (h1 : 1≤r) (hr : r≤p.size) : 1≤(run f (kas_count r p)).1∧(run f (kas_count r p)).1≤r∧Up f (run f (kas_count r p)).2 (run f (kas_count r p)).1:=by
 obtain ⟨a1,a2,a3,a4⟩:=ziB O (p:=p) (r - 1) 1 (Nat.le_refl _) (fun i j hij hj=>absurd hj (by omega))
 have e : run f (kas_count r p) = run f (if (run f (kas_asc p (r - 1) 1) == r) = true then .ret (run f (kas_asc p (r - 1) 1),p) else if run f (kas_asc p (r - 1) 1) > 1 then .ask (p.getD 0 0) (p.getD (run f (kas_asc p (r - 1) 1) - 1) 0) fun c=>if c = true then .ret (run f (kas_asc p (r - 1) 1),p) else kas_descPart (run f (kas_asc p (r - 1) 1)) r (kas_rev p 0 (run f (kas_asc p (r - 1) 1))) else kas_descPart (run f (kas_asc p (r - 1) 1)) r p):=zdv f _ _
 rw [e]
 generalize run f (kas_asc p (r - 1) 1) = m at a1 a2 a3 a4
 by_cases c : m = r
 ·subst c
  rw [if_pos (by simp)]
  exact ⟨a2,Nat.le_refl _,a1⟩
 ·rw [if_neg (by simpa using c)]
  have hlt:=a4 (by omega)
  by_cases c1 : m > 1
  ·rw [if_pos c1]
   cases e2 : f (p.getD 0 0) (p.getD (m - 1) 0) with
   | true=>
    have st : run f (.ask (p.getD 0 0) (p.getD (m - 1) 0) fun c=>if c = true then .ret (m,p) else kas_descPart m r (kas_rev p 0 m)) = (m,p):=by
     show run f (if f (p.getD 0 0) (p.getD (m - 1) 0) = true then _ else _) = _
     rw [e2,if_pos rfl]
     rfl
    rw [st]
    exact ⟨a2,by show m≤r; omega,a1⟩
   | false=>
    have st : run f (.ask (p.getD 0 0) (p.getD (m - 1) 0) fun c=>if c = true then .ret (m,p) else kas_descPart m r (kas_rev p 0 m)) = run f (kas_descPart m r (kas_rev p 0 m)):=by
     show run f (if f (p.getD 0 0) (p.getD (m - 1) 0) = true then _ else _) = _
     rw [e2,if_neg (by decide)]
    rw [st]
    have low : ∀ i,i < m→f (p.getD i 0) (p.getD 0 0) = false:=fun i hi=>by
     by_cases ci : i = 0
     ·rw [ci]
      exact O.irr _
     ·exact a1 0 i (by omega) hi
    have high : ∀ j,j < m→f (p.getD (m - 1) 0) (p.getD j 0) = false:=fun j hj=>by
     by_cases cj : j = m - 1
     ·rw [cj]
      exact O.irr _
     ·exact a1 j (m - 1) (by omega) (by omega)
    have all : ∀ i j,i < m→j < m→f (p.getD i 0) (p.getD j 0) = false:=fun i j hi hj=>not_lt O (low i hi) (not_lt O e2 (high j hj))
    refine zeI O a2 (by omega) (by rw [zeZ]; exact hr) fun i j hij hj=>?_
    rw [zdk (by omega),zdk (by omega),if_pos (by omega)]
    by_cases cj : j < m
    ·rw [if_pos (by omega)]
     exact all _ _ (by omega) (by omega)
    ·rw [if_neg (by omega),show j = m by omega]
     exact not_lt O (all _ (m - 1) (by omega) (by omega)) (asym O hlt)
  ·rw [if_neg c1]
   have hm1 : m = 1:=by omega
   subst hm1
   refine zeI O (Nat.le_refl _) (by omega) hr fun i j hij hj=>?_
   rw [show i = 0 by omega,show j = 1 by omega]
   exact asym O hlt
theorem sort_run {n : Nat} (hn : 0 < n) : Up f (run f (kas_sort n)) n∧Good n (run f (kas_sort n)):=by
 refine ⟨?_,(sort_res hn).run f⟩
 obtain ⟨a1,a2,a3⟩:=zlZ O (p:=(List.range n).toArray) (r:=n) hn (by simp)
 have g:=(zhE hn (p:=(List.range n).toArray) (Array.Perm.refl _) n).run f
 have e : run f (kas_sort n) = run f (if (run f (kas_count n (List.range n).toArray)).1 < n then kas_bin (n - max (run f (kas_count n (List.range n).toArray)).1 1) (run f (kas_count n (List.range n).toArray)).2 (max (run f (kas_count n (List.range n).toArray)).1 1) else .ret (run f (kas_count n (List.range n).toArray)).2):=zdv f _ _
 rw [e]
 generalize run f (kas_count n (List.range n).toArray) = t at a1 a2 a3 g
 have hs:=Good.size g
 rw [Nat.max_eq_left a1]
 split
 ·have:=zl9 O (n - t.1) (p:=t.2) t.1 (by omega) a3
  rw [show t.1 + (n - t.1) = n by omega] at this
  exact this
 ·show Up f t.2 n
  rw [show n = t.1 by omega]
  exact a3
end
end Kas
namespace Tim
open PySem PySem.W PyProof.Rows
set_option autoImplicit false
section
variable {prog : Program} {w : World} {A : Around} {E : Value→Shared→Prop} {s : Shared} {κ : KeyKind} {kd : SortKind}
theorem zkl {vs : List Value} (keys : ∀ v∈vs,∃ k,κ.keyOf v = some k) (hO : LtG prog w A s κ kd) (h2 : 2≤vs.length) (h64 : vs.length < 64) :
  wpAny (model prog w) A (sortRuns'.run (SortSt.mk' kd (vs.toArray.zip vs.toArray) #[] 7 none)) (fun r s'=>s' = s∧(arrOf r.2).Perm (pairsOf vs)∧failedOf r.2 = none∧Up κ (arrOf r.2) 0 (pairsOf vs).size) E s:=by
 obtain ⟨f,hf⟩ : ∃ f : Nat→Nat→Bool,f = fun i j=>κ.blt (keyV κ (vs.getD i .none)) (keyV κ (vs.getD j .none)):=⟨_,rfl⟩
 have O : Kas.Ord f:=by
  subst hf
  exact ⟨fun a=>κ.irrefl _,fun a b c=>κ.trans _ _ _,fun a b c=>κ.negTrans _ _ _⟩
 have hn : 0 < vs.length:=by omega
 have hk : ∀ i,i < vs.length→κ.keyOf (vs.getD i .none) = some (keyV κ (vs.getD i .none)):=fun i hi=>by
  have e : vs.getD i .none = vs[i]:=by rw [List.getD_eq_getElem?_getD,List.getElem?_eq_getElem hi]; rfl
  obtain ⟨k,hk⟩:=keys _ (List.getElem_mem hi)
  rw [e]
  unfold keyV
  rw [hk]
  rfl
 refine kat_run (ks:=vs) rfl h2 h64 (Q:=fun st' s'=>s' = s∧(arrOf st').Perm (pairsOf vs)∧failedOf st' = none∧Up κ (arrOf st') 0 (pairsOf vs).size) (G:=fun p s'=>s' = s∧Kas.Up f p vs.length∧Kas.Good vs.length p) (fun p st' s' hp har hfl hG=>⟨hG.1,?_,hfl,?_⟩) (Kas.wp_of (n:=vs.length) (f:=f) (fun i j C hi hj hC=>?_) (Kas.sort_res hn) ⟨rfl,Kas.sort_run O hn⟩)
 ·rw [har]
  have hm : (p.map (kas_item (vs.toArray.zip vs.toArray))).Perm ((List.range vs.length).toArray.map (kas_item (vs.toArray.zip vs.toArray))):=by
   have h1:=(Array.perm_iff_toList_perm.mp hG.2.2).map (kas_item (vs.toArray.zip vs.toArray))
   refine Array.perm_iff_toList_perm.mpr ?_
   rw [Array.toList_map,Array.toList_map]
   exact h1
  have hr:=kas_range (vs.toArray.zip vs.toArray)
  rw [show (vs.toArray.zip vs.toArray).size = vs.length by simp] at hr
  rw [hr] at hm
  exact hm
 ·intro i j _ hij hj
  rw [pairsOf_size] at hj
  have hat : ∀ x,x < vs.length→kAt κ (arrOf st') x = keyV κ (vs.getD (p.getD x 0) .none):=fun x hx=>by
   have hxp : x < p.size:=by omega
   rw [zih (by rw [har,Array.size_map]; exact hxp)]
   have e : (arrOf st')[x]'(by rw [har,Array.size_map]; exact hxp) = (vs.getD (p.getD x 0) .none,vs.getD (p.getD x 0) .none):=by
    have e1 : (arrOf st')[x]? = some (kas_item (vs.toArray.zip vs.toArray) (p.getD x 0)):=by
     rw [har,Array.getElem?_map,Array.getElem?_eq_getElem hxp]
     show some (kas_item _ p[x]) = _
     have : p.getD x 0 = p[x]:=by simp [Array.getD,hxp]
     rw [this]
    rw [kat_item rfl] at e1
    exact (Array.getElem?_eq_some_iff.mp e1).2
   rw [e]
   rfl
  rw [hat i (by omega),hat j hj]
  by_cases c : i = j
  ·subst c
   exact KeyOrd.kle_refl _
  ·have:=hG.2.1 i j (by omega) hj
   subst hf
   exact this
 ·unfold kas_ask
  subst hf
  exact hO _ _ _ _ _ _ (hk i hi) (hk j hj) hC
theorem zmv {a : Addr} {vs : List Value} {n : Nat} {P : Fin→Shared→Prop} (ho : s.heap.get? a = some (seqObj "list" vs.toArray n)) (hz : vs.length≤sizeLine) (h64 : vs.length < 64) (keys : ∀ v∈vs,∃ k,κ.keyOf v = some k)
  (hlt : ∀ h',zfH a s.heap h'→LtG prog w A { s with heap:=h' } κ kd)
  (hkd : ∀ (h' : Heap) (E : Value→Shared→Prop) (Q : SortKind→Shared→Prop),zfH a s.heap h'→2≤vs.length→Q kd { s with heap:=h' }→wpAny (model prog w) A (keyKind' vs.toArray) Q E { s with heap:=h' })
  (h : ∀ out : List Value,out.Perm vs→out.Pairwise (fun x y=>κ.kle (keyV κ x) (keyV κ y))→P (.done (.ret .none)) { s with heap:=sortedHeap s.heap a vs out.toArray }) :
  wpAny (model prog w) A (Builtin.«list.sort» ⟨[.ref a],[]⟩) P E s:=by
 rw [list_sort_plain]
 have hlt0 : a < s.heap.objs.size:=Heap.lt_size ho
 refine wpAny_bind (listItems_at ho rfl ?_)
 refine wpAny_bind (listUpdate_at ho rfl ?_ (by simpa using hz) (Nat.zero_le _))
 obtain ⟨m,ho1⟩ : ∃ m,(s.heap.update a (Obj.mapSeq fun _=>#[])).get? a = some (seqObj "list" #[] m):=⟨_,get?_update_seq ho (fun _=>#[])⟩
 refine wpAny_bind (seqEpoch_at ho1 rfl ?_)
 refine wpAny_bind (wpAny_newTuple ?_ (by simpa using hz))
 refine wpAny_bind (wpAny_newList ?_)
 refine wpAny_holding ?_
 have z1 : (s.heap.update a (Obj.mapSeq fun _=>#[])).objs.size = s.heap.objs.size:=by rw [Heap.size_update]
 have hk : zfH a s.heap (((s.heap.update a (Obj.mapSeq fun _=>#[])).push (seqObj "tuple" vs.toArray 0)).push (seqObj "list" #[] 0)):=fun b o hb e=>
  Heap.get?_push_of_some _ (Heap.get?_push_of_some _ ((Heap.get?_update_other _ _ (Ne.symm hb)).trans e))
 have ho6 : (((s.heap.update a (Obj.mapSeq fun _=>#[])).push (seqObj "tuple" vs.toArray 0)).push (seqObj "list" #[] 0)).get? a = some (seqObj "list" #[] m):=Heap.get?_push_of_some _ (Heap.get?_push_of_some _ ho1)
 show wpAny (model prog w) A _ P E { s with heap:=((s.heap.update a (Obj.mapSeq fun _=>#[])).push (seqObj "tuple" vs.toArray 0)).push (seqObj "list" #[] 0) }
 dsimp only
 have fin : ∀ st' : SortSt,(arrOf st').Perm (pairsOf vs)→failedOf st' = none→Up κ (arrOf st') 0 (pairsOf vs).size→wpAny (model prog w) A (do
   let touched:=(← seqEpoch a) != m
   Builtin.List.listUpdate (.ref a) fun _=>(arrOf st').map (·.2)
   if let some e:=failedOf st' then rule "list.sort.comparison-raised"; throw e
   if touched then rule "list.sort.modified"; raiseError "ValueError" "list modified during sort"
   ret .none) P E { s with heap:=((s.heap.update a (Obj.mapSeq fun _=>#[])).push (seqObj "tuple" vs.toArray 0)).push (seqObj "list" #[] 0) }:=fun st' hp hf hU=>by
  refine wpAny_bind (seqEpoch_at ho6 rfl ?_)
  refine wpAny_bind (listUpdate_at ho6 rfl ?_ (Nat.zero_le _) (by
   refine Nat.le_trans (Nat.le_of_eq ((Array.size_map ..).trans (hp.size_eq.trans (pairsOf_size _)))) ?_
   omega))
  rw [hf]
  simp only [bne_self_eq_false,Bool.false_eq_true,if_false]
  obtain ⟨o1,o2⟩:=out_of hp hU
  have:=h _ o1 o2
  have e : ((arrOf st').toList.map (·.2)).toArray = (arrOf st').map (·.2):=by rw [← Array.toList_map,Array.toArray_toList]
  rw [e] at this
  exact wpAny_pure this
 by_cases h2 : vs.toArray.size < 2
 ·rw [if_pos h2,if_pos h2]
  refine wpAny_bind (wpAny_pure ?_)
  rw [StateT.run_pure]
  refine wpAny_bind (wpAny_pure ?_)
  refine fin (SortSt.mk' general' (vs.toArray.zip vs.toArray) #[] 7 none) (Array.Perm.refl _) rfl ?_
  intro i j q1 q2 q3
  have : i = j:=by
   rw [pairsOf_size] at q3
   simp at h2
   omega
  subst this
  exact KeyOrd.kle_refl _
 ·rw [if_neg h2,if_neg h2]
  have h2' : 2≤vs.length:=by
   simp at h2
   omega
  refine wpAny_bind (hkd _ _ _ hk h2' ?_)
  refine wpAny_bind (wpAny_mono (zkl keys (hlt _ hk) h2' h64) ?_ fun _ _ e=>e)
  rintro ⟨⟨⟩,st'⟩ s' ⟨rfl,hp,hf,hs⟩
  exact fin st' hp hf hs
theorem zjK {l : Addr} {vs : List Value} {Q : Value→Shared→Prop} (hl : s.heap.IsList l vs.toArray) (hz : vs.length≤sizeLine) (h64 : vs.length < 64) (keys : ∀ v∈vs,∃ k,κ.keyOf v = some k)
  (hlt : ∀ h',(∀ b o,s.heap.get? b = some o→h'.get? b = some o)→LtG prog w A.in1.in1 { s with heap:=h' } κ kd)
  (hkd : ∀ (h' : Heap) (E : Value→Shared→Prop) (Q : SortKind→Shared→Prop),(∀ b o,s.heap.get? b = some o→h'.get? b = some o)→2≤vs.length→Q kd { s with heap:=h' }→wpAny (model prog w) A.in1.in1 (keyKind' vs.toArray) Q E { s with heap:=h' })
  (h : ∀ (out : List Value) (h' : Heap) (c : Nat),out.Perm vs→out.Pairwise (fun x y=>κ.kle (keyV κ x) (keyV κ y))→(∀ b o,s.heap.get? b = some o→h'.get? b = some o)→
   h'.get? (s.heap.objs.size + 1) = some (seqObj "list" out.toArray c)→Q (.ref (s.heap.objs.size + 1)) { s with heap:=h' }) :
  wpAny (model prog w) A (call (.builtin "sorted") [.ref l]) Q E s:=by
 refine Calls.call_function_entry kind_sorted plain_sorted entry_sorted (args_sorted1 _) ?_
 unfold Builtin.«sorted»
 refine wpAny_bind (m:=checkCount "sorted" 1 1 _) (wpAny_pure ?_)
 refine wpAny_bind (collect_list hl ?_ hz)
 refine wpAny_bind (wpAny_newList ?_ (by simpa using hz))
 have z1 : ((s.heap.push (seqObj "list" #[] 0)).update s.heap.objs.size (Obj.mapSeq (· ++ vs.toArray))).objs.size = s.heap.objs.size + 1:=by
  rw [Heap.size_update,size_push']
 have hn : (((s.heap.push (seqObj "list" #[] 0)).update s.heap.objs.size (Obj.mapSeq (· ++ vs.toArray))).push (seqObj "list" vs.toArray 0)).get? (s.heap.objs.size + 1) = some (seqObj "list" vs.toArray 0):=by
  rw [← z1]
  exact Heap.get?_push_size _ rfl
 have hk : ∀ b o,s.heap.get? b = some o→(((s.heap.push (seqObj "list" #[] 0)).update s.heap.objs.size (Obj.mapSeq (· ++ vs.toArray))).push (seqObj "list" vs.toArray 0)).get? b = some o:=fun b o e=>
  Heap.get?_push_of_some _ ((Heap.get?_update_other _ _ (Nat.ne_of_gt (Heap.lt_size e))).trans (Heap.get?_push_of_some _ e))
 show wpAny _ _ _ _ _ { s with heap:=((s.heap.push (seqObj "list" #[] 0)).update s.heap.objs.size (Obj.mapSeq (· ++ vs.toArray))).push (seqObj "list" vs.toArray 0) }
 rw [z1]
 generalize ((s.heap.push (seqObj "list" #[] 0)).update s.heap.objs.size (Obj.mapSeq (· ++ vs.toArray))).push (seqObj "list" vs.toArray 0) = h1 at hn hk ⊢
 have up : ∀ h',zfH (s.heap.objs.size + 1) h1 h'→∀ b o,s.heap.get? b = some o→h'.get? b = some o:=fun h' kb b o e=>kb b o (fun z=>by
  have:=Heap.lt_size e
  rw [z] at this
  exact absurd this (Nat.not_lt.mpr (Nat.le_succ _))) (hk b o e)
 refine wpAny_bind (wpAny_holding (wpAny_call_entry slot_list_sort ⟨_,hn,rfl⟩ entry_list_sort (zmv (s:={ s with heap:=h1 }) hn hz h64 keys (fun h' kb=>hlt h' (up h' kb)) (fun h' E Q kb h2 q=>hkd h' E Q (up h' kb) h2 q) fun out p1 p2=>⟨_,rfl,?_⟩) (args_list_sort _)))
 obtain ⟨kb,c,hc⟩:=zig (out:=out) hn
 exact wpAny_pure ⟨_,rfl,h out _ c p1 p2 (up _ kb) hc⟩
end
end Tim
namespace L2
open PySem PySem.Spec PyProof.Rows
def zmx (α : Type) [Rep α] [Srt α] (K : PySem.W.Frag) : List V→Hp→VK→Prop:=fun xs H Q=>∃ (p : Addr) (vs : List V) (as : List α),xs = [.ref p]∧SqL K H p vs∧zak K H as vs∧as.length < 64∧
 ∀ l ws,H l = none→zak K H (zdB as) ws→Q (.ref l) (upd H l (.lst ws))
section
variable {X : Cx}
theorem zeK (α : Type) [Rep α] [Srt α] : zdS X (.builtin "sorted") (zmx α X.K):=by
 intro pins s σ H xs us Q I r h
 obtain ⟨p,vs,as,rfl,hq,ha,h64,q⟩:=h
 obtain ⟨u,rfl,rx⟩:=zgX r
 cases rx
 obtain ⟨its,rv,pl,hz⟩:=I.list hq
 have hlen:=rv.length
 obtain ⟨km,kk⟩:=zlx I ha rv
 refine Tim.zjK (κ:=srtKind α X.K H) (kd:=Srt.kd α) pl.isList (by omega) (by have:=ha.length; omega) (fun v hv=>?_) (fun h' k E x y a b Q hx hy q=>?_) (fun h' E Q k h2 q=>Srt.kind (Inv.kept (t':=s.toks) I k) ha rv h2 q) fun out h' c p1 p2 k hc=>?_
 ·obtain ⟨a,_,_,_,e⟩:=kk v hv
  exact ⟨a,e⟩
 ·obtain ⟨x1,r1,e1⟩:=zf1 hx
  obtain ⟨y1,r2,e2⟩:=zf1 hy
  exact Srt.lt (Inv.kept (t':=s.toks) I k) e1 e2 r1 r2 q
 ·obtain ⟨ws,bs,w1,w2,w3⟩:=zhu (α:=α) (K:=X.K) (H:=H) (out:=out) fun v hv=>kk v (p1.mem_iff.mp hv)
  have eb : bs = zdB as:=by
   refine zmw ?_ ?_
   ·rw [w3,← km]
    exact p1.map _
   ·rw [w3]
    exact List.pairwise_map.mpr p2
  rw [eb] at w2
  have hw : ws.length≤sizeLine:=by
   have:=w1.length
   have:=p1.length_eq
   omega
  exact ⟨.ref (s.heap.objs.size + 1),_,I.laid (a:=s.heap.objs.size + 1) (o:=.lst ws) (t':=s.toks) k (Nat.le_succ _) ⟨hw,out,c,w1,hc⟩,rfl,q _ ws (I.hok.fresh (Nat.le_succ _)) w2⟩
end
end L2
set_option maxHeartbeats 4000000
namespace My
open PySem PySem.Spec PyProof.Rows L2
local macro_rules | `(tactic| walk_at "side")=>`(tactic| first | omega | (dsimp only; omega) | (simp only [CDiv,CDivB,CPow,CMul]; omega) | decide)
local macro_rules | `(tactic| walk_at "rd")=>`(tactic| repeat (first | (refine ⟨_,rfl,?_⟩) | (refine ⟨_,_,rfl,rfl,?_⟩) | (refine ⟨rfl,?_⟩) | (refine ⟨(by walk_at "side"),?_⟩)))
def top (i : Nat) : Stmt:=PySem.Challenge.pw_bridgefind_k75_whole_searches_carried_al.main.body.getD i (.Pass ⟨0,0,0,0⟩)
abbrev zdt : Stmt:=top 5
abbrev zeX : Stmt:=top 6
abbrev zds : Stmt:=top 7
abbrev ziV : Stmt:=top 8
abbrev zbj : Stmt:=top 9
abbrev zcL : Stmt:=top 10
abbrev zbp : Stmt:=top 13
abbrev zeQ : Stmt:=top 14
abbrev zeT : Stmt:=top 15
abbrev zce : Stmt:=top 17
abbrev zcf : Stmt:=top 18
abbrev zd1 : Stmt:=top 19
abbrev zgf : Stmt:=top 20
abbrev zeY : Stmt:=top 21
abbrev zdu : Stmt:=top 23
abbrev zd3 : Stmt:=top 24
abbrev zdq : Stmt:=top 26
abbrev zbT : Stmt:=top 27
abbrev zaZ : Stmt:=top 28
abbrev zcM : Stmt:=top 29
abbrev zdW : Stmt:=top 31
abbrev zcJ : Stmt:=top 32
abbrev zci : Stmt:=top 33
abbrev zd2 : Stmt:=top 34
abbrev zaN : Stmt:=top 37
abbrev zdr : Stmt:=top 38
abbrev zcd : Stmt:=top 39
abbrev zeR : Stmt:=top 40
abbrev zcN : Stmt:=top 42
abbrev zcc : Stmt:=top 43
abbrev zeS : Stmt:=top 44
abbrev zcK : Stmt:=top 45
abbrev zbC : Stmt:=top 46
abbrev zd0 : Stmt:=top 48
abbrev zdZ : Stmt:=top 49
abbrev zeV : Stmt:=top 50
abbrev zgi : Stmt:=top 51
abbrev zeU : Stmt:=top 52
abbrev zgh : Stmt:=top 53
abbrev zeW : Stmt:=top 54
abbrev zch : Stmt:=top 55
abbrev zgg : Stmt:=top 56
abbrev zdX : Stmt:=top 57
abbrev zdY : Stmt:=top 58
abbrev zcg : Stmt:=top 59
abbrev zbq : Stmt:=top 60
abbrev zhW : Stmt:=top 61
theorem sc_is_whole : zan ["thing"] ["thing"] (zai zdt):=⟨rfl,rfl,rfl,by decide +kernel,rfl,by decide +kernel,by decide +kernel⟩
theorem sc_is_key : zan ["thing"] ["thing"] (zai zeX):=⟨rfl,rfl,rfl,by decide +kernel,rfl,by decide +kernel,by decide +kernel⟩
theorem sc_need_key : zan ["thing"] ["thing"] (zai zds):=⟨rfl,rfl,rfl,by decide +kernel,rfl,by decide +kernel,by decide +kernel⟩
theorem sc_code : zan ["entry","key","z"] ["entry"] (zai ziV):=⟨rfl,rfl,rfl,by decide +kernel,rfl,by decide +kernel,by decide +kernel⟩
theorem sc_how_many_below : zan ["length","is_below","low","high","middle"] ["length","is_below"] (zai zbj):=⟨rfl,rfl,rfl,by decide +kernel,rfl,by decide +kernel,by decide +kernel⟩
theorem sc_joined_up : zan ["lists","together","entries"] ["lists"] (zai zcL):=⟨rfl,rfl,rfl,by decide +kernel,rfl,by decide +kernel,by decide +kernel⟩
theorem sc_lowest_unlike : zan ["one","other","unlike"] ["one","other"] (zai zbp):=⟨rfl,rfl,rfl,by decide +kernel,rfl,by decide +kernel,by decide +kernel⟩
theorem sc_turned : zan ["numbers","told","at","number","figure"] ["numbers"] (zai zeQ):=⟨rfl,rfl,rfl,by decide +kernel,rfl,by decide +kernel,by decide +kernel⟩
theorem sc_labels : zan ["entries","numbers","turn"] ["entries"] (zai zeT):=⟨rfl,rfl,rfl,by decide +kernel,rfl,by decide +kernel,by decide +kernel⟩
theorem sc_neighbours : zan ["things","at"] ["things","at"] (zai zce):=⟨rfl,rfl,rfl,by decide +kernel,rfl,by decide +kernel,by decide +kernel⟩
theorem sc_least_free : zan ["taken"] ["taken"] (zai zcf):=⟨rfl,rfl,rfl,by decide +kernel,rfl,by decide +kernel,by decide +kernel⟩
theorem sc_colours : zan ["numbers","told","label","at"] ["numbers"] (zai zd1):=⟨rfl,rfl,rfl,by decide +kernel,rfl,by decide +kernel,by decide +kernel⟩
theorem sc_marks : zan ["entries","tints","told","colour","at"] ["entries"] (zai zgf):=⟨rfl,rfl,rfl,by decide +kernel,rfl,by decide +kernel,by decide +kernel⟩
theorem sc_handed : zan ["entries"] ["entries"] (zai zeY):=⟨rfl,rfl,rfl,by decide +kernel,rfl,by decide +kernel,by decide +kernel⟩
theorem sc_children : zan ["tree","knot"] ["tree","knot"] (zai zdu):=⟨rfl,rfl,rfl,by decide +kernel,rfl,by decide +kernel,by decide +kernel⟩
theorem sc_beneath : zan ["tree","knot","told","other"] ["tree","knot"] (zai zd3):=⟨rfl,rfl,rfl,by decide +kernel,rfl,by decide +kernel,by decide +kernel⟩
theorem sc_with_row : zan ["stand","knot","row","rows"] ["stand","knot","row"] (zai zdq):=⟨rfl,rfl,rfl,by decide +kernel,rfl,by decide +kernel,by decide +kernel⟩
theorem sc_own_entries : zan ["stand","knot"] ["stand","knot"] (zai zbT):=⟨rfl,rfl,rfl,by decide +kernel,rfl,by decide +kernel,by decide +kernel⟩
theorem sc_full_rows_beneath : zan ["stand","knot","tree","told","at","parts"] ["stand","knot"] (zai zaZ):=⟨rfl,rfl,rfl,by decide +kernel,rfl,by decide +kernel,by decide +kernel⟩
theorem sc_full_rows : zan ["stand","told"] ["stand"] (zai zcM):=⟨rfl,rfl,rfl,by decide +kernel,rfl,by decide +kernel,by decide +kernel⟩
theorem sc_owns_of : zan ["full","knot","told","entry"] ["full","knot"] (zai zdW):=⟨rfl,rfl,rfl,by decide +kernel,rfl,by decide +kernel,by decide +kernel⟩
theorem sc_starts_of : zan ["full","child_full","behind","at","entry","told"] ["full","child_full"] (zai zcJ):=⟨rfl,rfl,rfl,by decide +kernel,rfl,by decide +kernel,by decide +kernel⟩
theorem sc_bridges_of : zan ["tree","fulls","told","knot","full","jumps"] ["tree","fulls"] (zai zci):=⟨rfl,rfl,rfl,by decide +kernel,rfl,by decide +kernel,by decide +kernel⟩
theorem sc_bridges : zan ["stand"] ["stand"] (zai zd2):=⟨rfl,rfl,rfl,by decide +kernel,rfl,by decide +kernel,by decide +kernel⟩
theorem sc_first_place : zan ["bridges","knot","is_below"] ["bridges","knot","is_below"] (zai zaN):=⟨rfl,rfl,rfl,by decide +kernel,rfl,by decide +kernel,by decide +kernel⟩
theorem sc_start_in : zan ["bridges","knot","at","child"] ["bridges","knot","at","child"] (zai zdr):=⟨rfl,rfl,rfl,by decide +kernel,rfl,by decide +kernel,by decide +kernel⟩
theorem sc_next_place : zan ["bridges","knot","start","is_below","beyond","at"] ["bridges","knot","start","is_below"] (zai zcd):=⟨rfl,rfl,rfl,by decide +kernel,rfl,by decide +kernel,by decide +kernel⟩
theorem sc_search : zan ["bridges","way","is_below","at","told","parent","knot"] ["bridges","way","is_below"] (zai zeR):=⟨rfl,rfl,rfl,by decide +kernel,rfl,by decide +kernel,by decide +kernel⟩
theorem sc_exchanged : zan ["stand","one","other","rows"] ["stand","one","other"] (zai zcN):=⟨rfl,rfl,rfl,by decide +kernel,rfl,by decide +kernel,by decide +kernel⟩
theorem sc_raised_row : zan ["row","by","told","key"] ["row","by"] (zai zcc):=⟨rfl,rfl,rfl,by decide +kernel,rfl,by decide +kernel,by decide +kernel⟩
theorem sc_raised : zan ["stand","by"] ["stand","by"] (zai zeS):=⟨rfl,rfl,rfl,by decide +kernel,rfl,by decide +kernel,by decide +kernel⟩
theorem sc_row_about : zan ["row"] ["row"] (zai zcK):=⟨rfl,rfl,rfl,by decide +kernel,rfl,by decide +kernel,by decide +kernel⟩
theorem sc_turned_about : zan ["stand"] ["stand"] (zai zbC):=⟨rfl,rfl,rfl,by decide +kernel,rfl,by decide +kernel,by decide +kernel⟩
theorem sc_l_begin : zan ["_law_script"] ["_law_script"] (zai zd0):=⟨rfl,rfl,rfl,by decide +kernel,rfl,by decide +kernel,by decide +kernel⟩
theorem sc_l_mixed : zan ["_law_cell","_law_k","_law_one","_law_two"] ["_law_cell","_law_k"] (zai zdZ):=⟨rfl,rfl,rfl,by decide +kernel,rfl,by decide +kernel,by decide +kernel⟩
theorem sc_l_take : zan ["_law_state","_law_most","_law_k","_law_script","_law_cell","_law_found"] ["_law_state","_law_most"] (zai zeV):=⟨rfl,rfl,rfl,by decide +kernel,rfl,by decide +kernel,by decide +kernel⟩
theorem sc_l_key : zan ["_law_state","_law_way_here"] ["_law_state"] (zai zgi):=⟨rfl,rfl,rfl,by decide +kernel,rfl,by decide +kernel,by decide +kernel⟩
theorem sc_l_tree : zan ["_law_state","_law_most","_law_way_here","_law_parents","_law_k"] ["_law_state","_law_most"] (zai zeU):=⟨rfl,rfl,rfl,by decide +kernel,rfl,by decide +kernel,by decide +kernel⟩
theorem sc_l_row : zan ["_law_state","_law_most","_law_found","_law_k"] ["_law_state","_law_most"] (zai zgh):=⟨rfl,rfl,rfl,by decide +kernel,rfl,by decide +kernel,by decide +kernel⟩
theorem sc_l_rows : zan ["_law_state","_law_many","_law_most","_law_rows_here","_law_k","_law_row_here"] ["_law_state","_law_many","_law_most"] (zai zeW):=⟨rfl,rfl,rfl,by decide +kernel,rfl,by decide +kernel,by decide +kernel⟩
theorem sc_l_children : zan ["_law_tree_here","_law_knot"] ["_law_tree_here","_law_knot"] (zai zch):=⟨rfl,rfl,rfl,by decide +kernel,rfl,by decide +kernel,by decide +kernel⟩
theorem sc_l_way : zan ["_law_state","_law_tree_here","_law_way_here","_law_some"] ["_law_state","_law_tree_here"] (zai zgg):=⟨rfl,rfl,rfl,by decide +kernel,rfl,by decide +kernel,by decide +kernel⟩
theorem sc_l_stand : zan ["_law_state","_law_most","_law_keys","_law_tree_here"] ["_law_state","_law_most","_law_keys"] (zai zdX):=⟨rfl,rfl,rfl,by decide +kernel,rfl,by decide +kernel,by decide +kernel⟩
theorem sc_l_small : zan ["_law_stand_here"] ["_law_stand_here"] (zai zdY):=⟨rfl,rfl,rfl,by decide +kernel,rfl,by decide +kernel,by decide +kernel⟩
theorem sc_l_owns : zan ["_law_stand_here","_law_way_here","_law_key_here","_law_fulls","_law_found"] ["_law_stand_here","_law_way_here","_law_key_here"] (zai zcg):=⟨rfl,rfl,rfl,by decide +kernel,rfl,by decide +kernel,by decide +kernel⟩
theorem sc_l_moved_right : zan ["_law_state","_law_stand_here","_law_way_here","_law_key_here","_law_tree_here","_law_rows_here","_law_by","_law_one","_law_other","_law_lower","_law_changed","_law_now","_law_due","_law_upper"] ["_law_state","_law_stand_here","_law_way_here","_law_key_here"] (zai zbq):=⟨rfl,rfl,rfl,by decide +kernel,rfl,by decide +kernel,by decide +kernel⟩
theorem sc_law : zan ["_law_script","_law_state","_law_stand_here","_law_turn","_law_way_here","_law_key_here","_law_some"] ["_law_script"] (zai zhW):=⟨rfl,rfl,rfl,by decide +kernel,rfl,by decide +kernel,by decide +kernel⟩
abbrev zb1 : List Str:=["thing"]
abbrev zdc : List Str:=["thing"]
abbrev zb0 : List Str:=["thing"]
abbrev zfi : List Str:=["entry"]
abbrev zaU : List Str:=["length","is_below"]
abbrev zbI : List Str:=["lists"]
abbrev za1 : List Str:=["one","other"]
abbrev zc6 : List Str:=["numbers"]
abbrev zc9 : List Str:=["entries"]
abbrev zbd : List Str:=["things","at"]
abbrev zbt : List Str:=["taken"]
abbrev zcz : List Str:=["numbers"]
abbrev zd7 : List Str:=["entries"]
abbrev zdd : List Str:=["entries"]
abbrev zbA : List Str:=["tree","knot"]
abbrev zcB : List Str:=["tree","knot"]
abbrev zbY : List Str:=["stand","knot","row"]
abbrev zbg : List Str:=["stand","knot"]
abbrev zaI : List Str:=["stand","knot"]
abbrev zbm : List Str:=["stand"]
abbrev zcs : List Str:=["full","knot"]
abbrev zbG : List Str:=["full","child_full"]
abbrev zbw : List Str:=["tree","fulls"]
abbrev zcA : List Str:=["stand"]
abbrev za4 : List Str:=["bridges","knot","is_below"]
abbrev zbZ : List Str:=["bridges","knot","at","child"]
abbrev zbs : List Str:=["bridges","knot","start","is_below"]
abbrev zc7 : List Str:=["bridges","way","is_below"]
abbrev zbJ : List Str:=["stand","one","other"]
abbrev zbr : List Str:=["row","by"]
abbrev zc8 : List Str:=["stand","by"]
abbrev zbH : List Str:=["row"]
abbrev za8 : List Str:=["stand"]
abbrev zcx : List Str:=["_law_script"]
abbrev zcw : List Str:=["_law_cell","_law_k"]
abbrev za9 : List Str:=["_law_state","_law_most"]
abbrev zea : List Str:=["_law_state"]
abbrev zda : List Str:=["_law_state","_law_most"]
abbrev zd9 : List Str:=["_law_state","_law_most"]
abbrev zdb : List Str:=["_law_state","_law_many","_law_most"]
abbrev zbu : List Str:=["_law_tree_here","_law_knot"]
abbrev zd8 : List Str:=["_law_state","_law_tree_here"]
abbrev zct : List Str:=["_law_state","_law_most","_law_keys"]
abbrev zcu : List Str:=["_law_stand_here"]
abbrev zcv : List Str:=["_law_stand_here","_law_way_here","_law_key_here"]
abbrev za2 : List Str:=["_law_state","_law_stand_here","_law_way_here","_law_key_here"]
abbrev zhf : List Str:=["_law_script"]
structure Txt (K : PySem.W.Frag) (mg : Str→Option Value) : Prop where
 m_abs : mg "abs" = none
 m_bool : mg "bool" = none
 m_dict : mg "dict" = none
 m_enumerate : mg "enumerate" = none
 m_int : mg "int" = none
 m_isinstance : mg "isinstance" = none
 m_len : mg "len" = none
 m_list : mg "list" = none
 m_max : mg "max" = none
 m_min : mg "min" = none
 m_range : mg "range" = none
 m_reversed : mg "reversed" = none
 m_sorted : mg "sorted" = none
 m_tuple : mg "tuple" = none
 m_zip : mg "zip" = none
 g_KNOT_NUMBERS : ∃ t,mg "KNOT_NUMBERS" = some (.int 64 t)
 g_TURNS : ∃ t,mg "TURNS" = some (.int 5 t)
 g_MOST_BEHIND_START : ∃ t,mg "MOST_BEHIND_START" = some (.int 2 t)
theorem zib (m n i j : Nat) (hi : i < 2) (hj : j < 2) : (2*m+i) &&& (2*n+j) = 2*(m &&& n) + (i &&& j):=by
 apply Nat.eq_of_testBit_eq
 intro k
 cases k with
 | zero=>
  have h1 : i = 0∨i = 1:=by omega
  have h2 : j = 0∨j = 1:=by omega
  rcases h1 with rfl | rfl <;> rcases h2 with rfl | rfl <;> simp [Nat.testBit_zero] <;> omega
 | succ k=>
  have h1 : i = 0∨i = 1:=by omega
  have h2 : j = 0∨j = 1:=by omega
  have e1 : (2*m+i)/2 = m:=by omega
  have e2 : (2*n+j)/2 = n:=by omega
  have e3 : (2*(m &&& n) + (i &&& j))/2 = m &&& n:=by
   rcases h1 with rfl | rfl <;> rcases h2 with rfl | rfl <;> simp <;> omega
  rw [Nat.testBit_and,Nat.testBit_succ,Nat.testBit_succ,Nat.testBit_succ,e1,e2,e3,Nat.testBit_and]
theorem lor_tt (m n i j : Nat) (hi : i < 2) (hj : j < 2) : (2*m+i) ||| (2*n+j) = 2*(m ||| n) + (i ||| j):=by
 apply Nat.eq_of_testBit_eq
 intro k
 cases k with
 | zero=>
  have h1 : i = 0∨i = 1:=by omega
  have h2 : j = 0∨j = 1:=by omega
  rcases h1 with rfl | rfl <;> rcases h2 with rfl | rfl <;> simp [Nat.testBit_zero] <;> omega
 | succ k=>
  have h1 : i = 0∨i = 1:=by omega
  have h2 : j = 0∨j = 1:=by omega
  have e1 : (2*m+i)/2 = m:=by omega
  have e2 : (2*n+j)/2 = n:=by omega
  have e3 : (2*(m ||| n) + (i ||| j))/2 = m ||| n:=by
   rcases h1 with rfl | rfl <;> rcases h2 with rfl | rfl <;> simp <;> omega
  rw [Nat.testBit_or,Nat.testBit_succ,Nat.testBit_succ,Nat.testBit_succ,e1,e2,e3,Nat.testBit_or]
def lu (a b : Nat) : Nat:=if a = b then 0 else if a % 2 = b % 2 then lu (a / 2) (b / 2) + 1 else 0
termination_by a + b
decreasing_by omega
theorem zia {a b : Nat} (hab : a≠b) (h : a % 2 = b % 2) : lu a b = lu (a / 2) (b / 2) + 1:=by
 rw [lu,if_neg hab,if_pos h]
theorem zlq {a b : Nat} (h : a % 2≠b % 2) : lu a b = 0:=by
 rw [lu]; split
 ·rfl
 ·rfl
def xr (a b : Nat) : Nat:=(a ||| b) - (a &&& b)
def zeF (n : Nat) : Nat:=n - (n &&& (n - 1))
theorem zhO (a b : Nat) : a &&& b≤a ||| b:=Nat.le_trans Nat.and_le_left Nat.left_le_or
theorem xr_tt (m n i j : Nat) (hi : i < 2) (hj : j < 2) : xr (2*m+i) (2*n+j) = 2 * xr m n + (if i = j then 0 else 1):=by
 unfold xr
 rw [lor_tt m n i j hi hj,zib m n i j hi hj]
 have q:=zhO m n
 have h1 : i = 0∨i = 1:=by omega
 have h2 : j = 0∨j = 1:=by omega
 rcases h1 with rfl | rfl <;> rcases h2 with rfl | rfl <;> simp <;> omega
theorem zkj (a b : Nat) : xr a b = 2 * xr (a / 2) (b / 2) + (if a % 2 = b % 2 then 0 else 1):=by
 have e1 : 2 * (a / 2) + a % 2 = a:=by omega
 have e2 : 2 * (b / 2) + b % 2 = b:=by omega
 have q:=xr_tt (a / 2) (b / 2) (a % 2) (b % 2) (by omega) (by omega)
 rw [e1,e2] at q
 exact q
theorem zno : ∀ (n a b : Nat),a + b≤n→a≠b→0 < xr a b:=by
 intro n
 induction n with
 | zero=>intro a b h1 h2; omega
 | succ n ih=>
  intro a b h1 h2
  rw [zkj]
  by_cases h : a % 2 = b % 2
  ·have:=ih (a / 2) (b / 2) (by omega) (by omega)
   omega
  ·rw [if_neg h]; omega
theorem zoD (m : Nat) : zeF (2 * m + 1) = 1:=by
 unfold zeF
 have q:=zib m m 1 0 (by omega) (by omega)
 have e : 2 * m + 1 - 1 = 2 * m + 0:=by omega
 rw [e,q]
 simp
theorem zm2 (m : Nat) (h : 0 < m) : zeF (2 * m) = 2 * zeF m:=by
 unfold zeF
 have q:=zib m (m - 1) 0 1 (by omega) (by omega)
 have e : 2 * m - 1 = 2 * (m - 1) + 1:=by omega
 have e' : 2 * m = 2 * m + 0:=by omega
 rw [e]
 have : (2 * m &&& 2 * (m - 1) + 1) = 2 * (m &&& m - 1) + (0 &&& 1):=q
 rw [this]
 have z : m &&& (m - 1)≤m:=Nat.and_le_left
 simp
 omega
theorem low_xr : ∀ (n a b : Nat),a + b≤n→a≠b→zeF (xr a b) = 2 ^ lu a b:=by
 intro n
 induction n with
 | zero=>intro a b h1 h2; omega
 | succ n ih=>
  intro a b h1 h2
  rw [zkj]
  by_cases h : a % 2 = b % 2
  ·rw [if_pos h,zia h2 h,Nat.add_zero,zm2 _ (zno n _ _ (by omega) (by omega)),ih _ _ (by omega) (by omega),Nat.pow_succ]
   omega
  ·rw [if_neg h,zlq h,zoD,Nat.pow_zero]
theorem zoC : ∀ (n a b : Nat),a + b≤n→a≠b→a % 2 ^ lu a b = b % 2 ^ lu a b∧a % 2 ^ (lu a b + 1)≠b % 2 ^ (lu a b + 1):=by
 intro n
 induction n with
 | zero=>intro a b h1 h2; omega
 | succ n ih=>
  intro a b h1 h2
  by_cases h : a % 2 = b % 2
  ·rw [zia h2 h]
   obtain ⟨q1,q2⟩:=ih (a / 2) (b / 2) (by omega) (by omega)
   have s : ∀ x k : Nat,x % 2 ^ (k + 1) = 2 * (x / 2 % 2 ^ k) + x % 2:=by
    intro x k
    rw [Nat.pow_succ,Nat.mul_comm,Nat.mod_mul]
    omega
   rw [s a,s b,s a,s b]
   constructor
   ·omega
   ·omega
  ·rw [zlq h]
   simp [Nat.mod_one]
   omega
theorem lu_lt : ∀ (k a b : Nat),a≠b→a < 2 ^ k→b < 2 ^ k→lu a b < k:=by
 intro k
 induction k with
 | zero=>intro a b h1 h2 h3; simp at h2 h3; omega
 | succ k ih=>
  intro a b h1 h2 h3
  by_cases h : a % 2 = b % 2
  ·rw [zia h1 h]
   have:=ih (a / 2) (b / 2) (by omega) (by rw [Nat.pow_succ] at h2; omega) (by rw [Nat.pow_succ] at h3; omega)
   omega
  ·rw [zlq h]; omega
def fig (a b : Nat) : Nat:=2 * lu a b + b / 2 ^ lu a b % 2
theorem zgI (a b : Nat) : fig a b / 2 = lu a b:=by
 unfold fig
 have:=Nat.mod_lt (b / 2 ^ lu a b) (by decide : 0 < 2)
 omega
theorem zin (a b : Nat) : fig a b % 2 = b / 2 ^ lu a b % 2:=by
 unfold fig
 have:=Nat.mod_lt (b / 2 ^ lu a b) (by decide : 0 < 2)
 omega
theorem zeC (x k : Nat) : x % 2 ^ (k + 1) = x % 2 ^ k + 2 ^ k * (x / 2 ^ k % 2):=by
 rw [Nat.pow_succ,Nat.mod_mul]
theorem znN {a b : Nat} (h : a≠b) : a / 2 ^ lu a b % 2≠b / 2 ^ lu a b % 2:=by
 obtain ⟨h1,h2⟩:=zoC _ a b (Nat.le_refl _) h
 intro e
 apply h2
 rw [zeC,zeC,h1,e]
theorem fig_ne {a b c : Nat} (h2 : b≠c) : fig a b≠fig b c:=by
 intro e
 have e1 : lu a b = lu b c:=by rw [← zgI,e,zgI]
 have e2 : b / 2 ^ lu a b % 2 = c / 2 ^ lu b c % 2:=by rw [← zin,e,zin]
 rw [e1] at e2
 exact znN h2 e2
theorem fig_ne0 {a b : Nat} (h : a≠b) : a % 2≠fig a b:=by
 intro e
 have l : a % 2 < 2:=Nat.mod_lt _ (by decide)
 have e1 : lu a b = 0:=by
  have:=zgI a b
  omega
 have e2:=zin a b
 have e3:=znN h
 rw [e1] at e2 e3
 simp at e2 e3
 omega
theorem fig_lt {a b k : Nat} (h : a≠b) (ha : a < 2 ^ k) (hb : b < 2 ^ k) : fig a b < 2 * k:=by
 have:=lu_lt k a b h ha hb
 have:=Nat.mod_lt (b / 2 ^ lu a b) (by decide : 0 < 2)
 unfold fig
 omega
def zdE (xs : List Nat) (i : Nat) : Nat:=if i = 0 then xs.getD 0 0 % 2 else fig (xs.getD (i - 1) 0) (xs.getD i 0)
def zcn (xs : List Nat) : List Nat:=(List.range xs.length).map (zdE xs)
theorem za7 (xs : List Nat) : (zcn xs).length = xs.length:=by unfold zcn; rw [List.length_map,List.length_range]
theorem zfc {xs : List Nat} {i : Nat} (h : i < xs.length) : (zcn xs)[i]? = some (zdE xs i):=by
 unfold zcn
 rw [List.getElem?_map,List.getElem?_range h]
 rfl
theorem zek {xs : List Nat} {i : Nat} (h : i < xs.length) : (zcn xs).getD i 0 = zdE xs i:=by
 rw [List.getD_eq_getElem?_getD,zfc h]; rfl
theorem zjF {xs : List Nat} {i : Nat} (h : i < xs.length) : (zcn xs).take (i + 1) = (zcn xs).take i ++ [zdE xs i]:=by
 have h' : i < (zcn xs).length:=by rw [za7]; exact h
 rw [List.take_succ_eq_append_getElem h']
 have:=zfc h
 rw [List.getElem?_eq_getElem h'] at this
 rw [Option.some.inj this]
def Unl (xs : List Nat) : Prop:=∀ i,i + 1 < xs.length→xs.getD i 0≠xs.getD (i + 1) 0
theorem zkr {xs : List Nat} (h : Unl xs) : Unl (zcn xs):=by
 intro i hi
 rw [za7] at hi
 rw [zek (by omega),zek hi]
 unfold zdE
 rw [if_neg (by omega : ¬ i + 1 = 0),Nat.add_sub_cancel]
 by_cases h0 : i = 0
 ·subst h0
  rw [if_pos rfl]
  exact fig_ne0 (h 0 hi)
 ·rw [if_neg h0]
  exact fig_ne (h i hi)
def zc2 (m : Nat) (xs : List Nat) : Prop:=∀ i,i < xs.length→xs.getD i 0 < m
theorem zbX {xs : List Nat} {k : Nat} (hk : 1≤k) (h : Unl xs) (hb : zc2 (2 ^ k) xs) : zc2 (2 * k) (zcn xs):=by
 intro i hi
 rw [za7] at hi
 rw [zek hi]
 unfold zdE
 split
 ·have : xs.getD 0 0 % 2 < 2:=Nat.mod_lt _ (by decide)
  omega
 ·have:=h (i - 1) (by omega)
  rw [show i - 1 + 1 = i by omega] at this
  exact fig_lt this (hb _ (by omega)) (hb _ hi)
theorem znV (a b : Nat) : Builtin.bitXor (a : Int) (b : Int) = ((xr a b : Nat) : Int):=by
 have h1 : Builtin.bitAnd (a : Int) (b : Int) = ((a &&& b : Nat) : Int):=by
  unfold Builtin.bitAnd
  rw [decide_eq_true (Int.natCast_nonneg a),decide_eq_true (Int.natCast_nonneg b)]
  rfl
 have n1 : ¬ (0 : Int)≤Builtin.bitNot (a : Int):=by unfold Builtin.bitNot; omega
 have n2 : ¬ (0 : Int)≤Builtin.bitNot (b : Int):=by unfold Builtin.bitNot; omega
 have h2 : Builtin.bitOr (a : Int) (b : Int) = ((a ||| b : Nat) : Int):=by
  unfold Builtin.bitOr Builtin.bitAnd
  rw [decide_eq_false n1,decide_eq_false n2]
  have e : ∀ x : Int,Builtin.bitNot (Builtin.bitNot x) = x:=fun x=>by unfold Builtin.bitNot; omega
  show Builtin.bitNot (Builtin.bitNot _) = _
  rw [e,e,e]
  rfl
 unfold Builtin.bitXor xr
 rw [h1,h2]
 have:=zhO a b
 omega
theorem and_neg (n : Nat) (h : 0 < n) : Builtin.bitAnd (n : Int) (-(n : Int)) = ((zeF n : Nat) : Int):=by
 have n2 : ¬ (0 : Int)≤-(n : Int):=by omega
 have e : (Builtin.bitNot (-(n : Int))).toNat = n - 1:=by unfold Builtin.bitNot; omega
 unfold Builtin.bitAnd zeF
 rw [decide_eq_true (Int.natCast_nonneg n),decide_eq_false n2]
 show (n : Int) - (((n : Int).toNat &&& (Builtin.bitNot (-(n : Int))).toNat : Nat) : Int) = _
 rw [e,Int.toNat_natCast]
 have : n &&& (n - 1)≤n:=Nat.and_le_left
 omega
theorem low_is (a b : Nat) (h : a≠b) : ((Builtin.Int.intBits (Builtin.bitAnd (Builtin.bitXor (a : Int) (b : Int)) (-(Builtin.bitXor (a : Int) (b : Int)))) : Nat) : Int) - 1 = ((lu a b : Nat) : Int):=by
 rw [znV,and_neg _ (zno _ a b (Nat.le_refl _) h),low_xr _ a b (Nat.le_refl _) h]
 unfold Builtin.Int.intBits
 have p : 0 < 2 ^ lu a b:=Nat.two_pow_pos _
 rw [if_neg (by
  intro z
  have z':=eq_of_beq z
  omega),Int.natAbs_natCast,Nat.log2_two_pow]
 omega
def atZ {α : Type} (l : List α) (i : Int) : Option α:=if 0≤i then l[i.toNat]? else none
theorem zcX {α : Type} (l : List α) (i : Nat) : atZ l (i : Int) = l[i]?:=by
 unfold atZ
 rw [if_pos (Int.natCast_nonneg i),Int.toNat_natCast]
theorem zgO {α : Type} {l : List α} {i : Int} (h : i < 0) : atZ l i = none:=by
 unfold atZ
 rw [if_neg (by omega)]
theorem zgN {α : Type} {l : List α} {i : Int} {x : α} (h : atZ l i = some x) : 0≤i∧i < l.length:=by
 unfold atZ at h
 split at h
 ·have:=(List.getElem?_eq_some_iff.mp h).1
  omega
 ·cases h
theorem znU {α : Type} {l : List α} {i : Int} (h0 : 0≤i) (h : i < l.length) : ∃ x,atZ l i = some x:=by
 unfold atZ
 rw [if_pos h0]
 exact ⟨_,List.getElem?_eq_getElem (by omega)⟩
def zjZ {α β : Type} (f : Option α→α→Option α→β) : Option α→List α→List β
 | _,[]=>[]
 | p,x :: l=>f p x l.head? :: zjZ f (some x) l
def mapW {α β : Type} (f : Option α→α→Option α→β) (l : List α) : List β:=zjZ f none l
theorem zcC {α β : Type} (f : Option α→α→Option α→β) : ∀ (l : List α) (p : Option α) (k : Nat),(zjZ f p l)[k]? = l[k]?.map fun x=>f (if k = 0 then p else l[k - 1]?) x l[k + 1]?
 | [],_,_=>rfl
 | x :: l,p,0=>by
  show some (f p x l.head?) = some (f p x l[0]?)
  rw [List.head?_eq_getElem?]
 | x :: l,p,k + 1=>by
  show (zjZ f (some x) l)[k]? = l[k]?.map fun y=>f (x :: l)[k]? y l[k + 1]?
  rw [zcC f l (some x) k]
  cases k with
  | zero=>rfl
  | succ k=>rfl
theorem zeE {α β : Type} (f : Option α→α→Option α→β) : ∀ (l : List α) (p : Option α),(zjZ f p l).length = l.length
 | [],_=>rfl
 | x :: l,p=>by
  show (zjZ f (some x) l).length + 1 = l.length + 1
  rw [zeE f l]
theorem zbB {α β : Type} (f : Option α→α→Option α→β) (l : List α) : (mapW f l).length = l.length:=zeE f l none
theorem zcO {α β : Type} (f : Option α→α→Option α→β) (l : List α) (i : Int) : atZ (mapW f l) i = (atZ l i).map fun x=>f (atZ l (i - 1)) x (atZ l (i + 1)):=by
 by_cases h : 0≤i
 ·obtain ⟨k,rfl⟩ : ∃ k : Nat,i = (k : Int):=⟨i.toNat,by omega⟩
  rw [zcX,zcX,mapW,zcC,show ((k : Int) + 1) = ((k + 1 : Nat) : Int) by omega,zcX]
  have e : atZ l ((k : Int) - 1) = if k = 0 then none else l[k - 1]?:=by
   split
   ·rw [zgO (by omega)]
   ·rw [show ((k : Int) - 1) = ((k - 1 : Nat) : Int) by omega,zcX]
  rw [e]
 ·rw [zgO (l:=mapW f l) (by omega),zgO (l:=l) (i:=i) (by omega)]
  rfl
def Near {α : Type} (a b : Int) (l m : List α) (i j : Int) : Prop:=∀ d : Int,a≤d→d≤b→atZ l (i + d) = atZ m (j + d)
theorem Near.mapW {α β : Type} {f : Option α→α→Option α→β} {a b : Int} {l m : List α} {i j : Int} (h : Near (a - 1) (b + 1) l m i j) : Near a b (mapW f l) (mapW f m) i j:=by
 intro d h1 h2
 rw [zcO,zcO,h d (by omega) (by omega)]
 have e1:=h (d - 1) (by omega) (by omega)
 have e2:=h (d + 1) (by omega) (by omega)
 rw [show i + d - 1 = i + (d - 1) by omega,show j + d - 1 = j + (d - 1) by omega,show i + d + 1 = i + (d + 1) by omega,show j + d + 1 = j + (d + 1) by omega,e1,e2]
theorem Near.mono {α : Type} {a b a' b' : Int} {l m : List α} {i j : Int} (h : Near a b l m i j) (h1 : a≤a') (h2 : b'≤b) : Near a' b' l m i j:=fun d x y=>h d (by omega) (by omega)
theorem Near.map {α β : Type} {f : α→β} {a b : Int} {l m : List α} {i j : Int} (h : Near a b l m i j) : Near a b (l.map f) (m.map f) i j:=by
 have e : ∀ (l : List α) (i : Int),atZ (l.map f) i = (atZ l i).map f:=fun l i=>by
  unfold atZ
  split
  ·rw [List.getElem?_map]
  ·rfl
 intro d h1 h2
 rw [e,e,h d h1 h2]
def turnF (p : Option Nat) (x : Nat) (_ : Option Nat) : Nat:=match p with
 | none=>x % 2
 | some y=>fig y x
theorem zfQ (xs : List Nat) : zcn xs = mapW turnF xs:=by
 apply List.ext_getElem?
 intro k
 by_cases h : k < xs.length
 ·rw [zfc h,mapW,zcC,List.getElem?_eq_getElem h]
  unfold zdE turnF
  cases k with
  | zero=>simp [List.getD_eq_getElem?_getD,List.getElem?_eq_getElem h]
  | succ k=>simp [List.getD_eq_getElem?_getD,List.getElem?_eq_getElem h,List.getElem?_eq_getElem (show k < xs.length by omega)]
 ·rw [List.getElem?_eq_none (by rw [za7]; omega),List.getElem?_eq_none (by rw [zbB]; omega)]
theorem Near.turn {a b : Int} {l m : List Nat} {i j : Int} (h : Near (a - 1) b l m i j) : Near a b (zcn l) (zcn m) i j:=by
 rw [zfQ,zfQ]
 intro d h1 h2
 rw [zcO,zcO,h d (by omega) (by omega)]
 have e1:=h (d - 1) (by omega) (by omega)
 rw [show i + d - 1 = i + (d - 1) by omega,show j + d - 1 = j + (d - 1) by omega,e1]
 cases atZ m (j + d) <;> rfl
def UnlZ (xs : List Nat) : Prop:=∀ (i : Int) (x y : Nat),atZ xs i = some x→atZ xs (i + 1) = some y→x≠y
theorem unlZ {xs : List Nat} (h : Unl xs) : UnlZ xs:=by
 intro i x y hx hy
 obtain ⟨a,b⟩:=zgN hx
 obtain ⟨_,c⟩:=zgN hy
 obtain ⟨k,rfl⟩ : ∃ k : Nat,i = (k : Int):=⟨i.toNat,by omega⟩
 rw [zcX] at hx
 rw [show ((k : Int) + 1) = ((k + 1 : Nat) : Int) by omega,zcX] at hy
 have:=h k (by omega)
 rw [List.getD_eq_getElem?_getD,List.getD_eq_getElem?_getD,hx,hy] at this
 exact this
theorem znq {xs : List Nat} (h : UnlZ xs) : Unl xs:=by
 intro k hk
 have:=h k xs[k] xs[k + 1] (by rw [zcX]; exact List.getElem?_eq_getElem (by omega)) (by rw [show ((k : Int) + 1) = ((k + 1 : Nat) : Int) by omega,zcX]; exact List.getElem?_eq_getElem hk)
 rw [List.getD_eq_getElem?_getD,List.getD_eq_getElem?_getD,List.getElem?_eq_getElem (show k < xs.length by omega),List.getElem?_eq_getElem hk]
 exact this
def zeN (p n : Option Nat) : Nat:=if p≠some 0∧n≠some 0 then 0 else if p≠some 1∧n≠some 1 then 1 else 2
theorem zjs (p n : Option Nat) : zeN p n≤2:=by
 unfold zeN
 split
 ·omega
 ·split <;> omega
theorem zeo {p n : Option Nat} {x : Nat} (h : p = some x) : zeN p n≠x:=by
 subst h
 unfold zeN
 split
 ·rename_i c
  intro z
  exact c.1 (by rw [← z])
 ·split
  ·rename_i c
   intro z
   exact c.1 (by rw [← z])
  ·rename_i c d
   intro z
   subst z
   have c1 : n = some 0:=Decidable.byContradiction fun q=>c ⟨by decide,q⟩
   have d1 : n = some 1:=Decidable.byContradiction fun q=>d ⟨by decide,q⟩
   rw [c1] at d1
   cases d1
theorem zj7 (p n : Option Nat) : zeN p n = zeN n p:=by
 unfold zeN
 simp only [And.comm]
theorem zf6 {p n : Option Nat} {x : Nat} (h : n = some x) : zeN p n≠x:=by
 rw [zj7]
 exact zeo h
def recF (v : Nat) (p : Option Nat) (x : Nat) (n : Option Nat) : Nat:=if x = v then zeN p n else x
def recL (v : Nat) (xs : List Nat) : List Nat:=mapW (recF v) xs
theorem za0 (v : Nat) (xs : List Nat) : (recL v xs).length = xs.length:=zbB _ _
theorem ze0 {v : Nat} {xs : List Nat} (h : UnlZ xs) : UnlZ (recL v xs):=by
 intro i x y hx hy
 unfold recL at hx hy
 rw [zcO] at hx hy
 cases ex : atZ xs i with
 | none=>rw [ex] at hx; cases hx
 | some x0=>
  cases ey : atZ xs (i + 1) with
  | none=>rw [ey] at hy; cases hy
  | some y0=>
   rw [ex] at hx
   rw [ey] at hy
   have hx : x = recF v (atZ xs (i - 1)) x0 (atZ xs (i + 1)):=(Option.some.inj hx).symm
   have hy : y = recF v (atZ xs (i + 1 - 1)) y0 (atZ xs (i + 1 + 1)):=(Option.some.inj hy).symm
   have n0:=h i x0 y0 ex ey
   have e1 : i + 1 - 1 = i:=by omega
   unfold recF at hx hy
   rw [e1,ex] at hy
   rw [ey] at hx
   split at hx
   ·rename_i c
    split at hy
    ·rename_i c'
     omega
    ·rw [hx,hy]
     exact zf6 rfl
   ·split at hy
    ·rw [hx,hy]
     exact (zeo rfl).symm
    ·omega
theorem zgk {v : Nat} {P : Nat→Prop} {xs : List Nat} (hP : ∀ x,x≤2→P x) (h : ∀ i x,atZ xs i = some x→x = v∨P x) : ∀ i x,atZ (recL v xs) i = some x→P x:=by
 intro i x hx
 unfold recL at hx
 rw [zcO] at hx
 cases ex : atZ xs i with
 | none=>rw [ex] at hx; cases hx
 | some x0=>
  rw [ex] at hx
  have hx : x = recF v (atZ xs (i - 1)) x0 (atZ xs (i + 1)):=(Option.some.inj hx).symm
  unfold recF at hx
  split at hx
  ·rw [hx]
   exact hP _ (zjs _ _)
  ·rw [hx]
   rcases h i x0 ex with q | q
   ·exact absurd q (by assumption)
   ·exact q
def colL (xs : List Nat) : List Nat:=recL 5 (recL 4 (recL 3 xs))
theorem zfz (xs : List Nat) : (colL xs).length = xs.length:=by
 unfold colL
 rw [za0,za0,za0]
theorem zjv {xs : List Nat} (h : UnlZ xs) : UnlZ (colL xs):=ze0 (ze0 (ze0 h))
theorem colL_le {xs : List Nat} (h : ∀ i x,atZ xs i = some x→x≤5) : ∀ i x,atZ (colL xs) i = some x→x≤2:=by
 refine zgk (P:=fun x=>x≤2) (fun x h=>h) ?_
 refine zgk (P:=fun x=>x = 5∨x≤2) (fun x h=>.inr h) ?_
 refine zgk (P:=fun x=>x = 4∨x = 5∨x≤2) (fun x h=>.inr (.inr h)) ?_
 intro i x e
 have:=h i x e
 omega
theorem Near.col {a b : Int} {l m : List Nat} {i j : Int} (h : Near (a - 3) (b + 3) l m i j) : Near a b (colL l) (colL m) i j:=
 Near.mapW (Near.mapW (Near.mapW (h.mono (by omega) (by omega))))
def zm1 (sh : Nat) (p : Option (Nat×Bool)) (x : Nat×Bool) (n : Option (Nat×Bool)) : Nat×Bool:=
 (x.1,x.2 || (decide (x.1 = sh) && p.isSome && !(p.map (·.2)).getD false && !(n.map (·.2)).getD false))
def zb9 (sh : Nat) (l : List (Nat×Bool)) : List (Nat×Bool):=mapW (zm1 sh) l
def zcq (c : List Nat) : List (Nat×Bool):=c.map fun x=>(x,false)
def marked (c : List Nat) : List (Nat×Bool):=zb9 0 (zb9 1 (zb9 2 (zcq c)))
def zdi (c : List Nat) : List Bool:=(marked c).map (·.2)
theorem zgz (c : List Nat) : (marked c).length = c.length:=by
 unfold marked zb9 zcq
 rw [zbB,zbB,zbB,List.length_map]
theorem zef (c : List Nat) : (zdi c).length = c.length:=by
 unfold zdi
 rw [List.length_map,zgz]
theorem zdV (c : List Nat) (i : Int) : atZ (zcq c) i = (atZ c i).map fun x=>(x,false):=by
 unfold zcq atZ
 split
 ·rw [List.getElem?_map]
 ·rfl
theorem zhb (c : List Nat) (i : Int) : atZ (zb9 2 (zcq c)) i = (atZ c i).map fun x=>(x,decide (x = 2) && (atZ c (i - 1)).isSome):=by
 unfold zb9
 rw [zcO,zdV,zdV,zdV]
 cases atZ c i with
 | none=>rfl
 | some x=>
  show some _ = some _
  unfold zm1
  cases atZ c (i - 1) <;> cases atZ c (i + 1) <;> simp
theorem Near.marks {a b : Int} {l m : List Nat} {i j : Int} (h : Near (a - 2) (b + 2) l m i j) (hs : (atZ l (i + (a - 3))).isSome = (atZ m (j + (a - 3))).isSome) : Near a b (zdi l) (zdi m) i j:=by
 refine Near.map ?_
 refine Near.mapW (Near.mapW ?_)
 intro d h1 h2
 have e:=h d (by omega) (by omega)
 rw [zhb,zhb,e]
 have e' : (atZ l (i + d - 1)).isSome = (atZ m (j + d - 1)).isSome:=by
  by_cases c : d = a - 2
  ·subst c
   rw [show i + (a - 2) - 1 = i + (a - 3) by omega,show j + (a - 2) - 1 = j + (a - 3) by omega]
   exact hs
  ·rw [show i + d - 1 = i + (d - 1) by omega,show j + d - 1 = j + (d - 1) by omega,h (d - 1) (by omega) (by omega)]
 rw [e']
def mkZ (l : List (Nat×Bool)) (i : Int) : Bool:=((atZ l i).map (·.2)).getD false
def clZ (l : List (Nat×Bool)) (i : Int) : Option Nat:=(atZ l i).map (·.1)
theorem zoB (sh : Nat) (l : List (Nat×Bool)) (i : Int) : clZ (zb9 sh l) i = clZ l i:=by
 unfold clZ zb9
 rw [zcO]
 cases atZ l i <;> rfl
theorem zgA (sh : Nat) (l : List (Nat×Bool)) (i : Int) : mkZ (zb9 sh l) i = (mkZ l i || (decide (clZ l i = some sh) && (clZ l (i - 1)).isSome && !mkZ l (i - 1) && !mkZ l (i + 1))):=by
 unfold mkZ clZ zb9
 rw [zcO]
 cases atZ l i with
 | none=>simp
 | some x=>
  unfold zm1
  cases atZ l (i - 1) <;> cases atZ l (i + 1) <;> simp
structure MkOk (c : List Nat) (l : List (Nat×Bool)) : Prop where
 cl : ∀ i,clZ l i = atZ c i
 ind : ∀ i,mkZ l i = true→mkZ l (i + 1) = true→False
 fst : ∀ i,mkZ l i = true→(atZ c (i - 1)).isSome = true∧(atZ c i).isSome = true
theorem zeO (c : List Nat) : MkOk c (zcq c):=by
 have e : ∀ i,mkZ (zcq c) i = false:=fun i=>by
  unfold mkZ
  rw [zdV]
  cases atZ c i <;> rfl
 refine ⟨fun i=>?_,fun i h=>?_,fun i h=>?_⟩
 ·unfold clZ
  rw [zdV]
  cases atZ c i <;> rfl
 ·rw [e] at h
  cases h
 ·rw [e] at h
  cases h
theorem zen {c : List Nat} {l : List (Nat×Bool)} {sh : Nat} (hu : UnlZ c) (h : MkOk c l) : MkOk c (zb9 sh l):=by
 refine ⟨fun i=>by rw [zoB,h.cl],fun i h1 h2=>?_,fun i h1=>?_⟩
 ·rw [zgA] at h1 h2
  simp only [Bool.or_eq_true,Bool.and_eq_true,decide_eq_true_eq,Bool.not_eq_true'] at h1 h2
  rw [show i + 1 - 1 = i by omega] at h2
  rcases h1 with h1 | h1 <;> rcases h2 with h2 | h2
  ·exact h.ind i h1 h2
  ·rw [h1] at h2
   exact absurd h2.1.2 (by decide)
  ·rw [h2] at h1
   exact absurd h1.2 (by decide)
  ·have a:=h1.1.1.1
   have b:=h2.1.1.1
   rw [h.cl] at a b
   exact hu i sh sh a b rfl
 ·rw [zgA] at h1
  simp only [Bool.or_eq_true,Bool.and_eq_true,decide_eq_true_eq,Bool.not_eq_true'] at h1
  rcases h1 with h1 | h1
  ·exact h.fst i h1
  ·refine ⟨?_,?_⟩
   ·rw [← h.cl]
    exact h1.1.1.2
   ·rw [← h.cl,h1.1.1.1]
    rfl
theorem zba {sh : Nat} {l : List (Nat×Bool)} {i : Int} (h : mkZ l i = true) : mkZ (zb9 sh l) i = true:=by
 rw [zgA,h]
 rfl
theorem zgB {c : List Nat} {l : List (Nat×Bool)} {sh : Nat} {i : Int} (h : MkOk c l) (hc : atZ c i = some sh) (hp : (atZ c (i - 1)).isSome = true) : mkZ (zb9 sh l) (i - 1) = true∨mkZ (zb9 sh l) i = true∨mkZ (zb9 sh l) (i + 1) = true:=by
 by_cases a : mkZ l (i - 1) = true
 ·exact .inl (zba a)
 ·by_cases b : mkZ l (i + 1) = true
  ·exact .inr (.inr (zba b))
  ·refine .inr (.inl ?_)
   rw [zgA,h.cl,h.cl,hc,hp,Bool.eq_false_iff.mpr a,Bool.eq_false_iff.mpr b]
   simp
theorem zhr {c : List Nat} (hu : UnlZ c) : MkOk c (marked c):=zen hu (zen hu (zen hu (zeO c)))
theorem zjY {c : List Nat} (hu : UnlZ c) (hc : ∀ i x,atZ c i = some x→x≤2) {i : Int} (h1 : (atZ c (i - 1)).isSome = true) (h2 : (atZ c i).isSome = true) : mkZ (marked c) (i - 1) = true∨mkZ (marked c) i = true∨mkZ (marked c) (i + 1) = true:=by
 obtain ⟨x,hx⟩:=Option.isSome_iff_exists.mp h2
 have hle:=hc i x hx
 have z : x = 2∨x = 1∨x = 0:=by omega
 rcases z with rfl | rfl | rfl
 ·rcases zgB (zeO c) hx h1 with q | q | q
  ·exact .inl (zba (zba q))
  ·exact .inr (.inl (zba (zba q)))
  ·exact .inr (.inr (zba (zba q)))
 ·rcases zgB (zen (sh:=2) hu (zeO c)) hx h1 with q | q | q
  ·exact .inl (zba q)
  ·exact .inr (.inl (zba q))
  ·exact .inr (.inr (zba q))
 ·exact zgB (zen (sh:=1) hu (zen (sh:=2) hu (zeO c))) hx h1
structure zdo (ms : List Bool) : Prop where
 fst : ms.getD 0 false = false
 ind : ∀ i,ms.getD i false = true→ms.getD (i + 1) false = true→False
 dom : ∀ i,1≤i→i < ms.length→ms.getD (i - 1) false = true∨ms.getD i false = true∨ms.getD (i + 1) false = true
theorem zb5 (c : List Nat) (i : Nat) : (zdi c).getD i false = mkZ (marked c) (i : Int):=by
 unfold mkZ zdi
 rw [zcX,List.getD_eq_getElem?_getD,List.getElem?_map]
theorem zlo {c : List Nat} (hu : UnlZ c) (hc : ∀ i x,atZ c i = some x→x≤2) : zdo (zdi c):=by
 refine ⟨?_,fun i h1 h2=>?_,fun i h1 h2=>?_⟩
 ·rw [zb5]
  cases e : mkZ (marked c) ((0 : Nat) : Int) with
  | false=>rfl
  | true=>
   have:=((zhr hu).fst _ e).1
   rw [zgO (by omega)] at this
   cases this
 ·rw [zb5] at h1 h2
  exact (zhr hu).ind i h1 h2
 ·rw [zef] at h2
  have a : (atZ c ((i : Int) - 1)).isSome = true:=by
   obtain ⟨x,hx⟩:=znU (l:=c) (i:=(i : Int) - 1) (by omega) (by omega)
   rw [hx]
   rfl
  have b : (atZ c (i : Int)).isSome = true:=by
   obtain ⟨x,hx⟩:=znU (l:=c) (i:=(i : Int)) (by omega) (by omega)
   rw [hx]
   rfl
  rcases zjY hu hc a b with q | q | q
  ·refine .inl ?_
   rw [zb5,show ((i - 1 : Nat) : Int) = (i : Int) - 1 by omega]
   exact q
  ·refine .inr (.inl ?_)
   rw [zb5]
   exact q
  ·refine .inr (.inr ?_)
   rw [zb5]
   exact q
theorem zik {p n : Option Nat} {y : Nat} (h : y < zeN p n) : p = some y∨n = some y:=by
 unfold zeN at h
 split at h
 ·omega
 ·rename_i c
  have c0 : p = some 0∨n = some 0:=Decidable.byContradiction fun q=>c ⟨fun z=>q (.inl z),fun z=>q (.inr z)⟩
  split at h
  ·have : y = 0:=by omega
   subst this
   exact c0
  ·rename_i d
   have d0 : p = some 1∨n = some 1:=Decidable.byContradiction fun q=>d ⟨fun z=>q (.inl z),fun z=>q (.inr z)⟩
   have : y = 0∨y = 1:=by omega
   rcases this with rfl | rfl
   ·exact c0
   ·exact d0
def zaS (xs : List Nat) (k : Nat) : List Nat:=(if k = 0 then none else xs[k - 1]?).toList ++ xs[k + 1]?.toList
theorem zfE {xs : List Nat} {k y : Nat} : y∈zaS xs k↔(if k = 0 then none else xs[k - 1]?) = some y∨xs[k + 1]? = some y:=by
 unfold zaS
 rw [List.mem_append,Option.mem_toList,Option.mem_toList]
def zdJ (xs : List Nat) (k : Nat) : Nat:=zeN (if k = 0 then none else xs[k - 1]?) xs[k + 1]?
theorem zj6 {xs : List Nat} {k : Nat} : zdJ xs k∉zaS xs k:=fun h=>by
 rcases zfE.mp h with q | q
 ·exact zeo q rfl
 ·exact zf6 q rfl
theorem zhz {xs : List Nat} {k y : Nat} (h : y < zdJ xs k) : y∈zaS xs k:=zfE.mpr (zik h)
theorem zlP (xs : List Nat) (k : Nat) : zdJ xs k≤2:=zjs _ _
theorem zgj {v : Nat} {xs : List Nat} {k : Nat} (h : k < xs.length) : (recL v xs)[k]? = some (if xs.getD k 0 = v then zdJ xs k else xs.getD k 0):=by
 unfold recL mapW
 rw [zcC,List.getD_eq_getElem?_getD,List.getElem?_eq_getElem h]
 rfl
def mixL (v : Nat) (xs : List Nat) (k : Nat) : List Nat:=(recL v xs).take k ++ xs.drop k
theorem zm0 {v : Nat} {xs : List Nat} {k : Nat} (h : xs.length≤k) : mixL v xs k = recL v xs:=by
 unfold mixL
 rw [List.take_of_length_le (by rw [za0]; exact h),List.drop_eq_nil_of_le h,List.append_nil]
theorem zfq (v : Nat) (xs : List Nat) (k : Nat) : (mixL v xs k).length = xs.length:=by
 unfold mixL
 rw [List.length_append,List.length_take,List.length_drop,za0]
 omega
theorem zdx (v : Nat) (xs : List Nat) (k j : Nat) : (mixL v xs k)[j]? = if j < k then (recL v xs)[j]? else xs[j]?:=by
 unfold mixL
 by_cases hk : k≤xs.length
 ·rw [List.getElem?_append,List.length_take,za0,Nat.min_eq_left hk]
  split
  ·rw [List.getElem?_take]
   rw [if_pos (by assumption)]
  ·rw [List.getElem?_drop]
   congr 1
   omega
 ·rw [List.drop_eq_nil_of_le (by omega),List.append_nil,List.take_of_length_le (by rw [za0]; omega)]
  split
  ·rfl
  ·rw [List.getElem?_eq_none (by rw [za0]; omega),List.getElem?_eq_none (by omega)]
theorem zln {v : Nat} {xs : List Nat} {k j : Nat} (h : k≤j) : (mixL v xs k)[j]? = xs[j]?:=by
 rw [zdx,if_neg (by omega)]
theorem zll {v : Nat} {xs : List Nat} {k : Nat} (h : k < xs.length) (hv : xs.getD k 0≠v) : mixL v xs (k + 1) = mixL v xs k:=by
 apply List.ext_getElem?
 intro j
 rw [zdx,zdx]
 by_cases c : j < k
 ·rw [if_pos c,if_pos (by omega)]
 ·rw [if_neg c]
  split
  ·have : j = k:=by omega
   subst this
   rw [zgj h,if_neg hv,List.getD_eq_getElem?_getD,List.getElem?_eq_getElem h]
   rfl
  ·rfl
theorem zlm {v : Nat} {xs : List Nat} {k : Nat} (hu : Unl xs) (h : k < xs.length) (hv : xs.getD k 0 = v) : (if k = 0 then none else (mixL v xs k)[k - 1]?) = if k = 0 then none else xs[k - 1]?:=by
 cases k with
 | zero=>rfl
 | succ k=>
  show (mixL v xs (k + 1))[k]? = xs[k]?
  rw [zdx,if_pos (by omega),zgj (by omega)]
  have:=hu k h
  rw [hv] at this
  rw [if_neg this,List.getD_eq_getElem?_getD,List.getElem?_eq_getElem (show k < xs.length by omega)]
  rfl
theorem zh7 {v : Nat} {xs : List Nat} {k : Nat} (hu : Unl xs) (h : k < xs.length) (hv : xs.getD k 0 = v) : zaS (mixL v xs k) k = zaS xs k:=by
 unfold zaS
 rw [zlm hu h hv,zln (j:=k + 1) (by omega)]
theorem zmZ {v : Nat} {xs : List Nat} {k : Nat} (h : k < xs.length) (hv : xs.getD k 0 = v) : mixL v xs (k + 1) = (mixL v xs k).set k (zdJ xs k):=by
 apply List.ext_getElem?
 intro j
 rw [List.getElem?_set,zfq,zdx,zdx]
 by_cases c : k = j
 ·subst c
  rw [if_pos rfl,if_pos h,if_pos (by omega),zgj h,if_pos hv]
 ·rw [if_neg c]
  by_cases c2 : j < k
  ·rw [if_pos c2,if_pos (by omega)]
  ·rw [if_neg c2,if_neg (by omega)]
def zb3 (sh : Nat) (cs : List Nat) (ms : List Bool) : List Bool:=(zb9 sh (cs.zip ms)).map (·.2)
theorem zaP {sh : Nat} {cs : List Nat} {ms : List Bool} (h : cs.length = ms.length) : (zb3 sh cs ms).length = ms.length:=by
 unfold zb3 zb9
 rw [List.length_map,zbB,List.length_zip]
 omega
theorem zhR {cs : List Nat} : ∀ {ms : List Bool},cs.length = ms.length→(cs.zip ms).map (·.1) = cs:=by
 induction cs with
 | nil=>intro ms _; rfl
 | cons c cs ih=>
  intro ms h
  cases ms with
  | nil=>cases h
  | cons m ms=>
   show c :: (cs.zip ms).map (·.1) = c :: cs
   rw [ih (Nat.succ.inj h)]
theorem ziD : ∀ (l : List (Nat×Bool)),(l.map (·.1)).zip (l.map (·.2)) = l
 | []=>rfl
 | x :: l=>by
  show x :: (l.map (·.1)).zip (l.map (·.2)) = x :: l
  rw [ziD l]
theorem zlp (sh : Nat) (l : List (Nat×Bool)) : (zb9 sh l).map (·.1) = l.map (·.1):=by
 apply List.ext_getElem?
 intro k
 unfold zb9 mapW
 rw [List.getElem?_map,List.getElem?_map,zcC]
 cases l[k]? <;> rfl
theorem zhs {sh : Nat} {cs : List Nat} {ms : List Bool} (h : cs.length = ms.length) : zb9 sh (cs.zip ms) = cs.zip (zb3 sh cs ms):=by
 have e:=ziD (zb9 sh (cs.zip ms))
 rw [zlp,zhR h] at e
 exact e.symm
theorem zkC (cs : List Nat) : zcq cs = cs.zip (cs.map fun _=>false):=by
 unfold zcq
 induction cs with
 | nil=>rfl
 | cons c cs ih=>
  show (c,false) :: cs.map (fun x=>(x,false)) = (c,false) :: cs.zip (cs.map fun _=>false)
  rw [ih]
theorem zhq (cs : List Nat) : zdi cs = zb3 0 cs (zb3 1 cs (zb3 2 cs (cs.map fun _=>false))):=by
 have l1 : cs.length = (cs.map fun _=>false).length:=by rw [List.length_map]
 have l2 : cs.length = (zb3 2 cs (cs.map fun _=>false)).length:=by rw [zaP l1,← l1]
 unfold zdi marked
 rw [zkC,zhs l1,zhs l2]
 rfl
theorem zdw {sh : Nat} {cs : List Nat} {ms : List Bool} (hl : cs.length = ms.length) {k : Nat} (h : k < cs.length) : (zb3 sh cs ms)[k]? = some (ms.getD k false || (decide (cs.getD k 0 = sh) && decide (1≤k) && !ms.getD (k - 1) false && !ms.getD (k + 1) false)):=by
 unfold zb3 zb9 mapW
 have gz : ∀ j,(cs.zip ms)[j]? = if h : j < cs.length then some (cs[j],ms[j]'(by omega)) else none:=fun j=>by
  split
  ·rename_i q
   rw [List.getElem?_eq_getElem (by rw [List.length_zip]; omega),List.getElem_zip]
  ·exact List.getElem?_eq_none (by rw [List.length_zip]; omega)
 have gm : ∀ j,ms.getD j false = (((cs.zip ms)[j]?).map (·.2)).getD false:=fun j=>by
  rw [gz]
  split
  ·rw [List.getD_eq_getElem?_getD,List.getElem?_eq_getElem (by omega)]
   rfl
  ·rw [List.getD_eq_getElem?_getD,List.getElem?_eq_none (by omega)]
   rfl
 rw [List.getElem?_map,zcC,gm k,gm (k + 1),gm (k - 1),List.getD_eq_getElem?_getD,List.getElem?_eq_getElem h]
 have e:=gz k
 rw [dif_pos h] at e
 rw [e]
 show some _ = some _
 unfold zm1
 cases k with
 | zero=>simp
 | succ k=>
  have e2:=gz k
  rw [dif_pos (by omega)] at e2
  simp [e2]
def mixM (sh : Nat) (cs : List Nat) (ms : List Bool) (k : Nat) : List Bool:=(zb3 sh cs ms).take k ++ ms.drop k
theorem zmY {sh : Nat} {cs : List Nat} {ms : List Bool} (hl : cs.length = ms.length) {k : Nat} (h : cs.length≤k) : mixM sh cs ms k = zb3 sh cs ms:=by
 unfold mixM
 rw [List.take_of_length_le (by rw [zaP hl]; omega),List.drop_eq_nil_of_le (by omega),List.append_nil]
theorem zfp {sh : Nat} {cs : List Nat} {ms : List Bool} (hl : cs.length = ms.length) (k : Nat) : (mixM sh cs ms k).length = cs.length:=by
 unfold mixM
 rw [List.length_append,List.length_take,List.length_drop,zaP hl]
 omega
theorem zck {sh : Nat} {cs : List Nat} {ms : List Bool} (hl : cs.length = ms.length) (k j : Nat) : (mixM sh cs ms k)[j]? = if j < k then (zb3 sh cs ms)[j]? else ms[j]?:=by
 unfold mixM
 by_cases hk : k≤ms.length
 ·rw [List.getElem?_append,List.length_take,zaP hl,Nat.min_eq_left hk]
  split
  ·rw [List.getElem?_take]
   rw [if_pos (by assumption)]
  ·rw [List.getElem?_drop]
   congr 1
   omega
 ·rw [List.drop_eq_nil_of_le (by omega),List.append_nil,List.take_of_length_le (by rw [zaP hl]; omega)]
  split
  ·rfl
  ·rw [List.getElem?_eq_none (by rw [zaP hl]; omega),List.getElem?_eq_none (by omega)]
def znT (ms : List Bool) (k : Nat) : Bool:=!ms.getD (k - 1) false && !ms.getD k false && !ms.getD (k + 1) false
theorem zlj {sh : Nat} {cs : List Nat} {ms : List Bool} (hl : cs.length = ms.length) {k : Nat} (h : k < cs.length) (hn : ¬ (1≤k∧cs.getD k 0 = sh∧znT ms k = true)) : mixM sh cs ms (k + 1) = mixM sh cs ms k:=by
 apply List.ext_getElem?
 intro j
 rw [zck hl,zck hl]
 by_cases c : j < k
 ·rw [if_pos c,if_pos (by omega)]
 ·rw [if_neg c]
  split
  ·have : j = k:=by omega
   subst this
   rw [zdw hl h]
   unfold znT at hn
   rw [List.getElem?_eq_getElem (by omega)]
   have e : ms.getD j false = ms[j]'(by omega):=by
    rw [List.getD_eq_getElem?_getD,List.getElem?_eq_getElem (by omega)]
    rfl
   rw [e] at hn ⊢
   congr 1
   generalize ms[j] = a at hn ⊢
   generalize ms.getD (j - 1) false = b at hn ⊢
   generalize ms.getD (j + 1) false = d at hn ⊢
   cases a <;> cases b <;> cases d <;> simp at hn ⊢
   intro q
   omega
  ·rfl
structure zdn (ms : List Bool) (sp : List Nat) : Prop where
 up : sp.Pairwise (· < ·)
 iff : ∀ j,j∈sp↔ms.getD j false = true
theorem zmt (ms : List Bool) : zdn ms ((List.range ms.length).filter fun k=>ms.getD k false):=by
 refine ⟨List.Pairwise.filter _ List.pairwise_lt_range,fun j=>?_⟩
 rw [List.mem_filter,List.mem_range]
 constructor
 ·exact fun h=>h.2
 ·intro h
  refine ⟨?_,h⟩
  rw [List.getD_eq_getElem?_getD] at h
  cases e : ms[j]? with
  | none=>rw [e] at h; cases h
  | some x=>exact (List.getElem?_eq_some_iff.mp e).1
theorem zdn.lt {ms : List Bool} {sp : List Nat} (S : zdn ms sp) {j : Nat} (h : j∈sp) : j < ms.length:=by
 have h:=(S.iff j).mp h
 rw [List.getD_eq_getElem?_getD] at h
 cases e : ms[j]? with
 | none=>rw [e] at h; cases h
 | some x=>exact (List.getElem?_eq_some_iff.mp e).1
theorem zdn.step {ms : List Bool} {sp : List Nat} (S : zdn ms sp) (M : zdo ms) {t : Nat} (h : t + 1 < sp.length) : sp[t] + 2≤sp[t + 1]∧sp[t + 1]≤sp[t] + 3:=by
 have up:=List.pairwise_iff_getElem.mp S.up
 have lt:=up t (t + 1) (by omega) h (by omega)
 have m0:=(S.iff _).mp (List.getElem_mem (show t < sp.length by omega))
 have m1:=(S.iff _).mp (List.getElem_mem h)
 have l1:=S.lt (List.getElem_mem h)
 have no : ∀ j,sp[t] < j→j < sp[t + 1]→ms.getD j false = false:=fun j a b=>by
  cases e : ms.getD j false with
  | false=>rfl
  | true=>
   obtain ⟨u,hu,q⟩:=List.getElem_of_mem ((S.iff j).mpr e)
   have c1 : ¬ u≤t:=fun z=>by
    by_cases z' : u = t
    ·subst z'; omega
    ·have:=up u t hu (by omega) (by omega)
     omega
   have c2 : ¬ t + 1≤u:=fun z=>by
    by_cases z' : u = t + 1
    ·subst z'; omega
    ·have:=up (t + 1) u h hu (by omega)
     omega
   omega
 refine ⟨?_,?_⟩
 ·by_cases c : sp[t + 1] = sp[t] + 1
  ·rw [c] at m1
   exact (M.ind _ m0 m1).elim
  ·omega
 ·refine Nat.le_of_not_lt fun c=>?_
  rcases M.dom (sp[t] + 2) (by omega) (by omega) with q | q | q
  ·rw [no (sp[t] + 2 - 1) (by omega) (by omega)] at q
   cases q
  ·rw [no (sp[t] + 2) (by omega) (by omega)] at q
   cases q
  ·rw [no (sp[t] + 2 + 1) (by omega) (by omega)] at q
   cases q
theorem zdn.first {ms : List Bool} {sp : List Nat} (S : zdn ms sp) (M : zdo ms) (h : 2≤ms.length) : ∃ hp : 0 < sp.length,1≤sp[0]∧sp[0]≤2:=by
 have ex : ∃ j,j≤2∧ms.getD j false = true:=by
  rcases M.dom 1 (by omega) (by omega) with q | q | q
  ·exact ⟨0,by omega,q⟩
  ·exact ⟨1,by omega,q⟩
  ·exact ⟨2,by omega,q⟩
 obtain ⟨j,hj,e⟩:=ex
 obtain ⟨u,hu,q⟩:=List.getElem_of_mem ((S.iff j).mpr e)
 refine ⟨by omega,?_,?_⟩
 ·have m0:=(S.iff _).mp (List.getElem_mem (show 0 < sp.length by omega))
  refine Nat.pos_of_ne_zero fun z=>?_
  rw [z,M.fst] at m0
  cases m0
 ·by_cases c : u = 0
  ·subst c; omega
  ·have:=List.pairwise_iff_getElem.mp S.up 0 u (by omega) hu (by omega)
   omega
theorem zdn.last {ms : List Bool} {sp : List Nat} (S : zdn ms sp) (M : zdo ms) (h : 2≤ms.length) (hp : 0 < sp.length) : ms.length≤sp[sp.length - 1] + 2:=by
 have ex : ∃ j,ms.length - 2≤j∧ms.getD j false = true:=by
  rcases M.dom (ms.length - 1) (by omega) (by omega) with q | q | q
  ·exact ⟨_,by omega,q⟩
  ·exact ⟨_,by omega,q⟩
  ·exact ⟨_,by omega,q⟩
 obtain ⟨j,hj,e⟩:=ex
 obtain ⟨u,hu,q⟩:=List.getElem_of_mem ((S.iff j).mpr e)
 by_cases c : u = sp.length - 1
 ·subst c; omega
 ·have:=List.pairwise_iff_getElem.mp S.up u (sp.length - 1) hu (by omega) (by omega)
  omega
theorem zdn.low {ms : List Bool} {sp : List Nat} (S : zdn ms sp) (M : zdo ms) : ∀ (t : Nat) (h : t < sp.length),2 * t + 1≤sp[t]
 | 0,h=>by
  have m0:=(S.iff _).mp (List.getElem_mem h)
  refine Nat.pos_of_ne_zero fun z=>?_
  rw [z,M.fst] at m0
  cases m0
 | t + 1,h=>by
  have a:=zdn.low S M t (by omega)
  have b:=(S.step M h).1
  omega
theorem zdn.half {ms : List Bool} {sp : List Nat} (S : zdn ms sp) (M : zdo ms) : 2 * sp.length≤ms.length:=by
 by_cases c : sp.length = 0
 ·omega
 ·have a:=S.low M (sp.length - 1) (by omega)
  have b:=S.lt (List.getElem_mem (show sp.length - 1 < sp.length by omega))
  omega
theorem zdn.none {ms : List Bool} {sp : List Nat} (S : zdn ms sp) (M : zdo ms) (h : ms.length < 2) : sp = []:=by
 have:=S.half M
 exact List.eq_nil_of_length_eq_zero (by omega)
def zcS {α : Type} (es : List α) (ms : List Bool) : List α:=((es.zip ms).filter (·.2)).map (·.1)
structure Ats (P : Nat→Bool) (n : Nat) (l : List Nat) : Prop where
 up : l.Pairwise (· < ·)
 iff : ∀ j,j∈l↔j < n∧P j = true
theorem Ats.get {P : Nat→Bool} {n : Nat} {l : List Nat} (A : Ats P n l) {j : Nat} (h : j < l.length) : l[j] < n∧P l[j] = true:=(A.iff _).mp (List.getElem_mem h)
theorem Ats.first {P : Nat→Bool} {n : Nat} {l : List Nat} (A : Ats P n l) {i : Nat} (h : i < l.getD 0 n) (hn : i < n) : P i = false:=by
 cases e : P i with
 | false=>rfl
 | true=>
  obtain ⟨u,hu,q⟩:=List.getElem_of_mem ((A.iff i).mpr ⟨hn,e⟩)
  have h0 : l.getD 0 n = l[0]'(by omega):=by
   rw [List.getD_eq_getElem?_getD,List.getElem?_eq_getElem (by omega)]
   rfl
  rw [h0] at h
  by_cases c : u = 0
  ·subst c; omega
  ·have:=List.pairwise_iff_getElem.mp A.up 0 u (by omega) hu (by omega)
   omega
theorem Ats.next {P : Nat→Bool} {n : Nat} {l : List Nat} (A : Ats P n l) {j : Nat} (hj : j < l.length) {i : Nat} (h1 : l[j] < i) (h : i < l.getD (j + 1) n) (hn : i < n) : P i = false:=by
 cases e : P i with
 | false=>rfl
 | true=>
  obtain ⟨u,hu,q⟩:=List.getElem_of_mem ((A.iff i).mpr ⟨hn,e⟩)
  have up:=List.pairwise_iff_getElem.mp A.up
  have c1 : j < u:=by
   refine Nat.lt_of_not_le fun z=>?_
   by_cases c : u = j
   ·subst c; omega
   ·have:=up u j hu hj (by omega)
    omega
  have h0 : l.getD (j + 1) n = l[j + 1]'(by omega):=by
   rw [List.getD_eq_getElem?_getD,List.getElem?_eq_getElem (by omega)]
   rfl
  rw [h0] at h
  by_cases c : u = j + 1
  ·subst c; omega
  ·have:=up (j + 1) u (by omega) hu (by omega)
   omega
theorem Ats.le {P : Nat→Bool} {n : Nat} {l : List Nat} (A : Ats P n l) (j : Nat) : l.getD j n≤n:=by
 rw [List.getD_eq_getElem?_getD]
 by_cases h : j < l.length
 ·rw [List.getElem?_eq_getElem h]
  exact Nat.le_of_lt (A.get h).1
 ·rw [List.getElem?_eq_none (by omega)]
  exact Nat.le_refl _
def atsL (v : Nat) (xs : List Nat) : List Nat:=(List.range xs.length).filter fun k=>decide (xs.getD k 0 = v)
def colN (xs : List Nat) : Nat→List Nat
 | 0=>xs
 | i + 1=>recL (3 + i) (colN xs i)
theorem zis (xs : List Nat) (i : Nat) : (colN xs i).length = xs.length:=by
 induction i with
 | zero=>rfl
 | succ i ih=>rw [colN,za0,ih]
theorem znj {xs : List Nat} (h : Unl xs) (i : Nat) : Unl (colN xs i):=by
 induction i with
 | zero=>exact h
 | succ i ih=>exact znq (ze0 (unlZ ih))
def mkN (cs : List Nat) : Nat→List Bool
 | 0=>cs.map fun _=>false
 | i + 1=>zb3 (2 - i) cs (mkN cs i)
theorem zli (cs : List Nat) : mkN cs 3 = zdi cs:=(zhq cs).symm
theorem zjW (cs : List Nat) (i : Nat) : cs.length = (mkN cs i).length:=by
 induction i with
 | zero=>rw [mkN,List.length_map]
 | succ i ih=>rw [mkN,zaP ih,ih]
theorem zmX {sh : Nat} {cs : List Nat} {ms : List Bool} (hl : cs.length = ms.length) : mixM sh cs ms 1 = ms:=by
 by_cases h : 0 < cs.length
 ·rw [zlj hl h (fun z=>by omega)]
  rfl
 ·have : ms = []:=List.eq_nil_of_length_eq_zero (by omega)
  subst this
  unfold mixM
  rw [List.eq_nil_of_length_eq_zero (show (zb3 sh cs []).length = 0 by rw [zaP hl]; rfl)]
  rfl
def zaB (ps : List Nat) : Prop:=∀ i (h : i < ps.length),ps[i]≤i
def par (ps : List Nat) : Nat→Option Nat
 | 0=>none
 | k + 1=>ps[k]?
theorem zaV {ps : List Nat} (T : zaB ps) {k p : Nat} (h : par ps k = some p) : p < k∧k < ps.length + 1:=by
 cases k with
 | zero=>cases h
 | succ k=>
  obtain ⟨h1,rfl⟩:=List.getElem?_eq_some_iff.mp (show ps[k]? = some p from h)
  have:=T k h1
  omega
theorem zi6 {ps : List Nat} {k : Nat} (h1 : 1≤k) (h2 : k < ps.length + 1) : ∃ p,par ps k = some p:=by
 cases k with
 | zero=>omega
 | succ k=>exact ⟨_,List.getElem?_eq_getElem (show k < ps.length by omega)⟩
theorem zmE {ps : List Nat} {k : Nat} (h2 : k < ps.length + 1) (h : par ps k = none) : k = 0:=by
 cases k with
 | zero=>rfl
 | succ k=>
  have:=List.getElem?_eq_none_iff.mp (show ps[k]? = none from h)
  omega
def wayF (ps : List Nat) (one : Nat) : Nat→Nat→Option (List Nat)
 | 0,_=>none
 | f + 1,o=>if o = one then some [o] else match par ps o with
  | none=>none
  | some p=>(wayF ps one f p).map (· ++ [o])
theorem zgU {ps : List Nat} (T : zaB ps) {one : Nat} : ∀ f g o,o < f→o < g→wayF ps one f o = wayF ps one g o
 | 0,_,_,h,_=>absurd h (Nat.not_lt_zero _)
 | _,0,_,_,h=>absurd h (Nat.not_lt_zero _)
 | f + 1,g + 1,o,hf,hg=>by
  unfold wayF
  split
  ·rfl
  ·cases e : par ps o with
   | none=>rfl
   | some p=>
    have:=(zaV T e).1
    show (wayF ps one f p).map _ = (wayF ps one g p).map _
    rw [zgU T f g p (by omega) (by omega)]
def wayL (ps : List Nat) (one o : Nat) : Option (List Nat):=wayF ps one (o + 1) o
theorem zkm {ps : List Nat} {o : Nat} : wayL ps o o = some [o]:=by
 unfold wayL wayF
 rw [if_pos rfl]
theorem zdT {ps : List Nat} (T : zaB ps) {one o : Nat} (h : o≠one) : wayL ps one o = match par ps o with
  | none=>none
  | some p=>(wayL ps one p).map (· ++ [o]):=by
 unfold wayL
 rw [wayF,if_neg h]
 cases e : par ps o with
 | none=>rfl
 | some p=>
  show (wayF ps one o p).map _ = (wayF ps one (p + 1) p).map _
  rw [zgU T o (p + 1) p (zaV T e).1 (by omega)]
theorem zkn {ps : List Nat} (T : zaB ps) {one : Nat} : ∀ n o,o≤n→o < one→wayL ps one o = none
 | n,o,hn,h=>by
  rw [zdT T (by omega)]
  cases e : par ps o with
  | none=>rfl
  | some p=>
   have hp:=(zaV T e).1
   show (wayL ps one p).map _ = none
   cases n with
   | zero=>omega
   | succ n=>rw [zkn T n p (by omega) (by omega)]; rfl
def zkh (ps : List Nat) (w : List Nat) : Prop:=∀ t,t + 1 < w.length→par ps (w.getD (t + 1) 0) = some (w.getD t 0)
theorem zkd {ps : List Nat} {w : List Nat} {x : Nat} (h : zkh ps w) (hx : w≠[]→par ps x = some (w.getD (w.length - 1) 0)) : zkh ps (w ++ [x]):=by
 intro t ht
 rw [List.length_append,List.length_singleton] at ht
 have e0 : (w ++ [x]).getD t 0 = w.getD t 0:=by
  rw [List.getD_eq_getElem?_getD,List.getD_eq_getElem?_getD,List.getElem?_append_left (by omega)]
 rw [e0]
 by_cases c : t + 1 < w.length
 ·have e1 : (w ++ [x]).getD (t + 1) 0 = w.getD (t + 1) 0:=by
   rw [List.getD_eq_getElem?_getD,List.getD_eq_getElem?_getD,List.getElem?_append_left c]
  rw [e1]
  exact h t c
 ·have et : t + 1 = w.length:=by omega
  have e1 : (w ++ [x]).getD (t + 1) 0 = x:=by
   rw [List.getD_eq_getElem?_getD,et,List.getElem?_append_right (Nat.le_refl _),Nat.sub_self]
   rfl
  rw [e1]
  have:=hx (fun z=>by rw [z] at et; simp at et)
  rw [← et,Nat.add_sub_cancel] at this
  exact this
def isB (ps : List Nat) (k j : Nat) : Bool:=(wayL ps k j).isSome
def benL (ps : List Nat) (k n : Nat) : List Nat:=(List.range n).filter (isB ps k)
theorem zcR {ps : List Nat} {k : Nat} : isB ps k k = true:=by
 unfold isB
 rw [zkm]
 rfl
theorem zeG {ps : List Nat} (T : zaB ps) {k j : Nat} (h : j < k) : isB ps k j = false:=by
 unfold isB
 rw [zkn T j j (Nat.le_refl _) h]
 rfl
theorem zbE {ps : List Nat} (T : zaB ps) {k j p : Nat} (h : j≠k) (e : par ps j = some p) : isB ps k j = isB ps k p:=by
 unfold isB
 rw [zdT T h,e]
 show ((wayL ps k p).map _).isSome = _
 cases wayL ps k p <;> rfl
theorem znm {ps : List Nat} (T : zaB ps) (k : Nat) : benL ps k (k + 1) = [k]:=by
 unfold benL
 rw [List.range_succ,List.filter_append]
 have e1 : (List.range k).filter (isB ps k) = []:=by
  rw [List.filter_eq_nil_iff]
  intro j hj z
  rw [zeG T (List.mem_range.mp hj)] at z
  cases z
 rw [e1,List.nil_append,List.filter_cons_of_pos zcR]
 rfl
theorem zbU {ps : List Nat} {k n j : Nat} : j∈benL ps k n↔j < n∧isB ps k j = true:=by
 unfold benL
 rw [List.mem_filter,List.mem_range]
theorem zhN {ps : List Nat} {k n : Nat} : benL ps k (n + 1) = benL ps k n ++ (if isB ps k n = true then [n] else []):=by
 unfold benL
 rw [List.range_succ,List.filter_append]
 congr 1
 by_cases h : isB ps k n = true
 ·rw [if_pos h,List.filter_cons_of_pos h]
  rfl
 ·rw [if_neg h,List.filter_cons_of_neg h]
  rfl
theorem zjy (ps : List Nat) (k n : Nat) : (benL ps k n).length≤n:=by
 have:=List.length_filter_le (isB ps k) (List.range n)
 rw [List.length_range] at this
 exact this
theorem ziw (ps : List Nat) (k n : Nat) : (benL ps k n).Pairwise (· < ·):=List.Pairwise.filter _ List.pairwise_lt_range
theorem zjm {ps : List Nat} (T : zaB ps) : ∀ n j,j≤n→j < ps.length + 1→isB ps 0 j = true
 | n,j,hn,h=>by
  by_cases c : j = 0
  ·rw [c]
   exact zcR
  ·obtain ⟨p,e⟩:=zi6 (by omega) h
   have:=(zaV T e).1
   rw [zbE T c e]
   cases n with
   | zero=>omega
   | succ n=>exact zjm T n p (by omega) (by omega)
theorem zmc {ps : List Nat} (T : zaB ps) : benL ps 0 (ps.length + 1) = List.range (ps.length + 1):=by
 unfold benL
 rw [List.filter_eq_self]
 exact fun j hj=>zjm T j j (Nat.le_refl _) (List.mem_range.mp hj)
def zaL (ps : List Nat) (k n : Nat) : List Nat:=(List.range n).filter fun j=>decide (par ps j = some k)
theorem zaz {ps : List Nat} {k n j : Nat} : j∈zaL ps k n↔j < n∧par ps j = some k:=by
 unfold zaL
 rw [List.mem_filter,List.mem_range,decide_eq_true_eq]
theorem zcU {ps : List Nat} {k n : Nat} : zaL ps k (n + 1) = zaL ps k n ++ (if par ps n = some k then [n] else []):=by
 unfold zaL
 rw [List.range_succ,List.filter_append]
 congr 1
 by_cases h : par ps n = some k
 ·rw [if_pos h,List.filter_cons_of_pos (by exact decide_eq_true h)]
  rfl
 ·rw [if_neg h,List.filter_cons_of_neg (by rw [decide_eq_false h]; decide)]
  rfl
theorem zcG (ps : List Nat) (k n : Nat) : (zaL ps k n).length≤n:=by
 have:=List.length_filter_le (fun j=>decide (par ps j = some k)) (List.range n)
 rw [List.length_range] at this
 exact this
theorem zhH (ps : List Nat) (k n : Nat) : (zaL ps k n).Pairwise (· < ·):=List.Pairwise.filter _ List.pairwise_lt_range
theorem zei {ps : List Nat} (T : zaB ps) {k : Nat} : ∀ n j,j≤n→j < ps.length + 1→(isB ps k j = true↔j = k∨∃ c,par ps c = some k∧isB ps c j = true)
 | n,j,hn,h=>by
  by_cases c : j = k
  ·constructor
   ·exact fun _=>.inl c
   ·intro _
    rw [c]
    exact zcR
  ·cases e : par ps j with
   | none=>
    have j0:=zmE h e
    have no : ∀ m,j≠m→isB ps m j = false:=fun m hm=>by
     unfold isB
     rw [zdT T hm,e]
     rfl
    constructor
    ·intro z
     rw [no k c] at z
     cases z
    ·rintro (z | ⟨d,hd,z⟩)
     ·exact absurd z c
     ·by_cases y : j = d
      ·rw [← y,e] at hd
       cases hd
      ·rw [no d y] at z
       cases z
   | some p=>
    have hp:=(zaV T e).1
    cases n with
    | zero=>omega
    | succ n=>
     have ih:=zei T (k:=k) n p (by omega) (by omega)
     rw [zbE T c e,ih]
     constructor
     ·rintro (z | ⟨d,hd,z⟩)
      ·refine .inr ⟨j,?_,zcR⟩
       rw [e,z]
      ·by_cases y : j = d
       ·rw [← y] at z
        rw [zeG T hp] at z
        cases z
       ·exact .inr ⟨d,hd,by rw [zbE T y e]; exact z⟩
     ·rintro (z | ⟨d,hd,z⟩)
      ·exact absurd z c
      ·by_cases y : j = d
       ·subst y
        rw [e] at hd
        exact .inl (Option.some.inj hd)
       ·rw [zbE T y e] at z
        exact .inr ⟨d,hd,z⟩
theorem zej {ps : List Nat} (T : zaB ps) {k c d : Nat} (hc : par ps c = some k) (hd : par ps d = some k) (hcd : c≠d) : ∀ n j,j≤n→isB ps c j = true→isB ps d j = true→False
 | n,j,hn,h1,h2=>by
  by_cases e1 : j = c
  ·subst e1
   rw [zbE T hcd hc,zeG T (zaV T hd).1] at h2
   cases h2
  ·by_cases e2 : j = d
   ·subst e2
    rw [zbE T e1 hd,zeG T (zaV T hc).1] at h1
    cases h1
   ·cases e : par ps j with
    | none=>
     unfold isB at h1
     rw [zdT T e1,e] at h1
     cases h1
    | some p=>
     have hp:=(zaV T e).1
     rw [zbE T e1 e] at h1
     rw [zbE T e2 e] at h2
     cases n with
     | zero=>omega
     | succ n=>exact zej T hc hd hcd n p (by omega) h1 h2
theorem zjM {ps : List Nat} (T : zaB ps) {k : Nat} (hk : k < ps.length + 1) : (k :: ((zaL ps k (ps.length + 1)).map fun c=>benL ps c (ps.length + 1)).flatten).Perm (benL ps k (ps.length + 1)):=by
 have lt : ∀ {l : List Nat},l.Pairwise (· < ·)→l.Nodup:=fun h=>List.Pairwise.imp (fun {a b} (q : a < b)=>Nat.ne_of_lt q) h
 refine (List.perm_ext_iff_of_nodup ?_ (lt (ziw ps k _))).mpr fun j=>?_
 ·rw [List.nodup_cons]
  refine ⟨fun h=>?_,?_⟩
  ·obtain ⟨l,hl,hj⟩:=List.mem_flatten.mp h
   obtain ⟨c,hc,rfl⟩:=List.mem_map.mp hl
   have h1:=(zaz.mp hc).2
   have h2:=(zbU.mp hj).2
   rw [zeG T (zaV T h1).1] at h2
   cases h2
  ·show List.Pairwise _ _
   rw [List.pairwise_flatten]
   refine ⟨fun l hl=>?_,?_⟩
   ·obtain ⟨c,hc,rfl⟩:=List.mem_map.mp hl
    exact lt (ziw ps c _)
   ·rw [List.pairwise_map]
    refine List.Pairwise.imp_of_mem (fun {c d} hc hd hcd=>?_) (zhH ps k _)
    intro x hx y hy z
    subst z
    exact zej T (zaz.mp hc).2 (zaz.mp hd).2 (Nat.ne_of_lt hcd) x x (Nat.le_refl _) (zbU.mp hx).2 (zbU.mp hy).2
 ·rw [List.mem_cons,List.mem_flatten,zbU]
  constructor
  ·rintro (rfl | ⟨l,hl,hj⟩)
   ·exact ⟨hk,zcR⟩
   ·obtain ⟨c,hc,rfl⟩:=List.mem_map.mp hl
    obtain ⟨h1,h2⟩:=zbU.mp hj
    exact ⟨h1,(zei T j j (Nat.le_refl _) h1).mpr (.inr ⟨c,(zaz.mp hc).2,h2⟩)⟩
  ·rintro ⟨h1,h2⟩
   rcases (zei T j j (Nat.le_refl _) h1).mp h2 with q | ⟨c,hc,q⟩
   ·exact .inl q
   ·exact .inr ⟨_,List.mem_map.mpr ⟨c,zaz.mpr ⟨(zaV T hc).2,hc⟩,rfl⟩,zbU.mpr ⟨h1,q⟩⟩
seal PSs PS PE PT PW PA PI PG PO
section
variable {P : Program} {w : World} {K : PySem.W.Frag} {mg : Str→Option Value} {base : Heap}
theorem zmL (T : Txt K mg) (D_l_mixed : DF K mg "_law_mixed" zdZ zcw) : FC P w K mg base 1 "_law_mixed" zcw zkK:=by
 refine D_l_mixed.ok sc_l_mixed (fun vs H Q E h=>?_) (fun f cdv A outer s H vs Q E hr h=>?_)
 ·obtain ⟨c,k,rfl,_⟩:=h
  rfl
 obtain ⟨c,k,rfl,q⟩:=h
 refine ⟨_,(zaf (zap (i:=2) sc_l_mixed.nd rfl (Or.inl rfl) (zaq zeB (zaq zcj (zaq za6 (zaq za6 (zaq zeB (pv 0) zae) (zaq zcj zae (pv 1))) zae) zae) zae))
   (zaf (zap (i:=3) sc_l_mixed.nd rfl (Or.inl rfl) (zaq zeB (zaq za6 (zaq za6 (zaq zcj (pv 2) (pv 2)) (zaq zcj zae (pv 2))) (pv 1)) zae))
   (zah (zar (zaq zh4 (zaq zeB (zaq za6 (zaq za6 (zaq zcj (pv 3) (pv 3)) (zaq zcj zae (pv 3))) (zaq zcj zae (pv 1))) zae) zae))))),?_⟩
 walk_at "rd"
 exact q _
theorem zmT (T : Txt K mg) (D_l_begin : DF K mg "_law_begin" zd0 zcx) : FC P w K mg base 1 "_law_begin" zcx (zkO K):=by
 refine D_l_begin.ok sc_l_begin (fun vs H Q E h=>?_) (fun f cdv A outer s H vs Q E hr h=>?_)
 ·obtain ⟨L,ns,rfl,_⟩:=h
  rfl
 obtain ⟨L,ns,rfl,hS,q⟩:=h
 refine ⟨_,(zah (zar (zon (zgn zdg (pv 0) (zgn zdg zae (zgn zdg zae zol))) rfl rfl (by simp) (by decide)))),?_⟩
 intro p hp
 refine ⟨_,rfl,zac,[(.inr "script",.ref L),(.inr "at",.int 0),(.inr "left",.int 0)],rfl,(by show 3≤15; decide),?_⟩
 have e : upd (upd H p (.dK [])) p (.dK (zeD [] [(.inr "script",.ref L),(.inr "at",.int 0),(.inr "left",.int 0)])) = upd H p (zcQ L 0 0):=by
  rw [znW]
  have : zeD [] [((.inr "script" : Key),V.ref L),(.inr "at",.int 0),(.inr "left",.int 0)] = [(.inr "script",.ref L),(.inr "at",.int 0),(.inr "left",.int 0)]:=by
   have a1 : putK [] (.inr "script" : Key) (V.ref L) = [(.inr "script",.ref L)]:=zd6 (kvs:=[]) _ rfl
   have a2 : putK [((.inr "script" : Key),V.ref L)] (.inr "at") (.int 0) = [(.inr "script",.ref L),(.inr "at",.int 0)]:=by
    rw [zd6 _ (by rw [zbi (zdI (show ("script" : Str) ≠ "at" by decide +kernel))]; rfl)]
    rfl
   have a3 : putK [((.inr "script" : Key),V.ref L),(.inr "at",.int 0)] (.inr "left") (.int 0) = [(.inr "script",.ref L),(.inr "at",.int 0),(.inr "left",.int 0)]:=by
    rw [zd6 _ (by rw [zbi (zdI (show ("script" : Str) ≠ "left" by decide +kernel)),zbi (zdI (show ("at" : Str) ≠ "left" by decide +kernel))]; rfl)]
    rfl
   unfold zeD
   simp only [List.foldl_cons,List.foldl_nil]
   rw [a1,a2,a3]
  rw [this]
  rfl
 rw [e]
 exact q p _ hp (zaj hp _) ⟨ns,0,0,zac,(zaj hp _).seq hS⟩
theorem zor (T : Txt K mg) (D_l_take : DF K mg "_law_take" zeV za9) (F_l_mixed : FC P w K mg base 1 "_law_mixed" zcw zkK) : FC P w K mg base 2 "_law_take" za9 (zey K):=by
 refine D_l_take.ok sc_l_take (fun vs H Q E h=>?_) (fun f cdv A outer s H vs Q E hr h=>?_)
 ·obtain ⟨d,L,m,rfl,_⟩:=h
  rfl
 obtain ⟨d,L,m,rfl,⟨hm,hm'⟩,⟨ns,a,l,hd,hS⟩,q⟩:=h
 refine ⟨_,(zaf (zap (i:=2) sc_l_take.nd rfl (Or.inl rfl) (zdh (zdQ hr) (pv 0) zdg (fun _ _=>rfl)))
   (zaf (zap (i:=3) sc_l_take.nd rfl (Or.inl rfl) (zdh (zdQ hr) (pv 0) zdg (fun _ _=>rfl)))
   (zbc (zcy (zav zfo (zdh (zdQ hr) (pv 0) zdg (fun _ _=>rfl)) zae (zaF _)) (zaf (zem (zdQ hr) (pv 0) zdg (zaq za6 (pv 2) zae) rfl)
   (zaf (zap (i:=4) sc_l_take.nd rfl (Or.inl rfl) zae)
   (zbc (zcy (zav zk6 (zau zat rfl T.m_len boot_len (zaa (pv 3) zad)) zae (zaF _)) (zah (zap (i:=4) sc_l_take.nd rfl (Or.inl rfl) (zaA zaE (pv 3) (zaq zeB (pv 2) (zau zat rfl T.m_len boot_len (zaa (pv 3) zad))) (fun _ _=>rfl)))) za5)
   (zbc (zcy (PW.pt (zmy (zav op_ge (pv 2) (zau zat rfl T.m_len boot_len (zaa (pv 3) zad)) (zaF _)) (zi0 (zav zfL (zau zfb rfl T.m_abs boot_abs (zaa (pv 4) zad)) (zaq zed zae zae) (zaF _))))) (zah (zar (zaq zeB (zas F_l_mixed hr (zaa (pv 4) (zaa (pv 2) zad))) (pv 1)))) za5)
   (zah (zem (zdQ hr) (pv 0) zdg (zau zfb rfl T.m_abs boot_abs (zaa (pv 4) zad)) rfl)))))) za5)
   (zaf (zap (i:=5) sc_l_take.nd rfl (Or.inl rfl) (zaq zeB (zdh (zdQ hr) (pv 0) zdg (fun _ _=>rfl)) (pv 1)))
   (zaf (zem (zdQ hr) (pv 0) zdg (zaq zh4 (zdh (zdQ hr) (pv 0) zdg (fun _ _=>rfl)) (pv 1)) rfl)
   (zah (zar (pv 5)))))))),?_⟩
 refine ⟨_,rfl,_,_,rfl,get_at hd,_,rfl,_,_,rfl,zj4 hd,?_⟩
 refine ⟨fun σ' H'=>∃ (x2 x3 x4 x5 : Option V) (a' l' : Int),σ' = [some (.ref d),some (.int m),x2,x3,x4,x5]∧H' d = some (zcQ L a' l')∧Keep d H H',?_,?_⟩
 ·refine ⟨_,rfl,_,_,rfl,zgE hd,rfl,_,rfl,?_⟩
  refine ite2 (fun _=>?_) (fun _=>?_)
  ·refine ⟨_,rfl,_,_,rfl,rfl,_,rfl,_,_,rfl,put_at hd,?_⟩
   have hd1 : upd H d (zcQ L (a + 1) l) d = some (zcQ L (a + 1) l):=zac
   obtain ⟨-,k1⟩:=LS.set (a':=a + 1) (l':=l) hd hS
   have hS1:=zge hd k1 hS
   generalize upd H d (zcQ L (a + 1) l) = H1 at hd1 k1 hS1 ⊢
   refine ⟨fun σ' H'=>∃ c : Int,σ' = [some (.ref d),some (.int m),some (.int a),some (.ref L),some (.int c),none]∧H1 = H',?_,?_⟩
   ·refine ⟨_,rfl,_,_,rfl,.inl hS1,_,_,rfl,rfl,_,rfl,?_⟩
    refine ite2 (fun c=>?_) (fun c=>?_)
    ·have c' : (0 : Int) < (((ns.map V.int).length : Nat) : Int):=of_decide_eq_true c
     obtain ⟨v,hv⟩:=at_mod (ns:=ns) (k:=a) (by rw [List.length_map] at c'; omega)
     refine ⟨_,rfl,_,rfl,_,rfl,_,_,rfl,.inl hS1,_,_,rfl,rfl,c',_,_,_,_,rfl,rfl,hS1,hv,?_⟩
     exact ⟨v,rfl,rfl⟩
    ·exact ⟨0,rfl,rfl⟩
   rintro σ' H' ⟨c,rfl,rfl⟩
   refine ⟨fun σ' H'=>σ' = [some (.ref d),some (.int m),some (.int a),some (.ref L),some (.int c),none]∧H1 = H',?_,?_⟩
   ·refine ⟨_,rfl,_,rfl,_,_,rfl,.inl hS1,_,_,rfl,rfl,_,rfl,?_⟩
    refine ite2 (fun _=>?_) (fun _=>?_)
    ·refine iteT ?_
     refine ⟨_,rfl,_,rfl,c,a,rfl,fun v=>⟨_,rfl,_,_,rfl,rfl,hm,?_⟩⟩
     exact q _ _ (Int.emod_nonneg _ (by omega)) (Int.emod_lt_of_pos _ hm) k1 ⟨ns,a + 1,l,hd1,hS1⟩
    ·refine ⟨_,rfl,_,rfl,_,_,rfl,rfl,⟨by decide,by decide,by decide⟩,_,_,rfl,rfl,_,rfl,?_⟩
     refine ite2 (fun _=>?_) (fun _=>?_)
     ·refine ⟨_,rfl,_,rfl,c,a,rfl,fun v=>⟨_,rfl,_,_,rfl,rfl,hm,?_⟩⟩
      exact q _ _ (Int.emod_nonneg _ (by omega)) (Int.emod_lt_of_pos _ hm) k1 ⟨ns,a + 1,l,hd1,hS1⟩
     ·exact ⟨rfl,rfl⟩
   rintro σ' H' ⟨rfl,rfl⟩
   refine ⟨_,rfl,_,rfl,_,rfl,_,_,rfl,zi1 hd1,?_⟩
   obtain ⟨-,k2⟩:=LS.set (a':=a + 1) (l':=if c < 0 then -c else c) hd1 hS1
   exact ⟨_,_,_,_,_,_,rfl,zac,k1.trans k2⟩
  ·exact ⟨_,_,_,_,a,l,rfl,hd,Keep.refl _ _⟩
 rintro σ' H' ⟨x2,x3,x4,x5,a',l',rfl,hd',k'⟩
 have hS':=zge hd k' hS
 refine ⟨_,rfl,_,_,rfl,zgE hd',_,rfl,_,_,rfl,rfl,hm,?_⟩
 refine ⟨_,rfl,_,_,rfl,zgE hd',_,rfl,_,_,rfl,rfl,⟨hm,hm'⟩,_,rfl,_,_,rfl,zi1 hd',?_⟩
 obtain ⟨s1,k1⟩:=LS.set (a':=a') (l':=l' / m) hd' hS'
 refine ⟨_,rfl,?_⟩
 exact q _ _ (Int.emod_nonneg _ (by omega)) (Int.emod_lt_of_pos _ hm) (k'.trans k1) s1
def spLow : Sp:=fun vs H Q _=>∃ a b : Nat,vs = [.int a,.int b]∧a≠b∧Q (.int (lu a b : Nat)) H
theorem ok_low (T : Txt K mg) (D_lowest_unlike : DF K mg "lowest_unlike" zbp za1) : FC P w K mg base 1 "lowest_unlike" za1 spLow:=by
 refine D_lowest_unlike.ok sc_lowest_unlike (fun vs H Q E h=>?_) (fun f cdv A outer s H vs Q E hr h=>?_)
 ·obtain ⟨a,b,rfl,_⟩:=h
  rfl
 obtain ⟨a,b,rfl,hab,q⟩:=h
 refine ⟨_,(zaf (zap (i:=2) sc_lowest_unlike.nd rfl (Or.inl rfl) (zaq op_xor (pv 0) (pv 1)))
   (zah (zar (zaq zbM (pe_bm0 F.plainAttrs_int F.slot_int_bit_length F.type_int_bit_length zgy (zaq znL (pv 2) (zfK zdD (pv 2)))) zae)))),?_⟩
 refine ⟨_,rfl,_,rfl,_,_,rfl,rfl,_,rfl,_,rfl,_,rfl,_,_,rfl,rfl,rfl,_,rfl,rfl,_,_,rfl,rfl,?_⟩
 rw [← low_is a b hab] at q
 exact q
def spKey (K : PySem.W.Frag) : Sp:=fun vs H Q _=>∃ d L : Addr,vs = [.ref d]∧LS K L d H∧∀ (v : Int) (H' : Hp),-(10 ^ 60) < v→v < 10 ^ 60→Keep d H H'→LS K L d H'→Q (.int v) H'
theorem zm4 {x m : Int} (h1 : -999≤x) (h2 : x≤999) (h3 : 0 < m) (h4 : m≤10 ^ 57) : -(10 ^ 60) < x * m∧x * m < 10 ^ 60:=by
 have a:=Int.mul_le_mul_of_nonneg_right h2 (Int.le_of_lt h3)
 have b:=Int.mul_le_mul_of_nonneg_right h1 (Int.le_of_lt h3)
 omega
theorem ok_key (T : Txt K mg) (D_l_key : DF K mg "_law_key" zgi zea) (F_l_take : FC P w K mg base 2 "_law_take" za9 (zey K)) : FC P w K mg base 3 "_law_key" zea (spKey K):=by
 refine D_l_key.ok sc_l_key (fun vs H Q E h=>?_) (fun f cdv A outer s H vs Q E hr h=>?_)
 ·obtain ⟨d,L,rfl,_⟩:=h
  rfl
 obtain ⟨d,L,rfl,hs,q⟩:=h
 refine ⟨_,(zaf (zap (i:=1) sc_l_key.nd rfl (Or.inl rfl) (zas F_l_take hr (zaa (pv 0) (zaa zae zad))))
   (zbc (zcy (zav zfL (pv 1) zae (zaF _)) (zah (zar (zas F_l_take hr (zaa (pv 0) (zaa zae zad))))) za5)
   (zbc (zcy (zav zfL (pv 1) zae (zaF _)) (zah (zar (zaq zbM (zas F_l_take hr (zaa (pv 0) (zaa zae zad))) zae))) za5)
   (zbc (zcy (zav zfo (pv 1) zae (zaF _)) (zah (zar (zaq zcj (zaq zbM (zas F_l_take hr (zaa (pv 0) (zaa zae zad))) zae) (zaA zaE (zbR (zaa zae (zaa (zaq zed zae zae) (zaa (zaq zed zae zae) (zaa (zaq zed zae zae) zad))))) (zas F_l_take hr (zaa (pv 0) (zaa zae zad))) (fun _ _=>rfl))))) za5)
   (zah (zar (zaq zcj (zaA zaE (zbR (zaa zae (zaa (zfK zdD zae) zad))) (zas F_l_take hr (zaa (pv 0) (zaa zae zad))) (fun _ _=>rfl)) (zaq zbM (zaq zbM (zaq zed zae zae) zae) (zas F_l_take hr (zaa (pv 0) (zaa zae zad))))))))))),?_⟩
 refine ⟨_,rfl,d,L,8,rfl,by decide,hs,fun w1 H1 w0 w8 k1 s1=>?_⟩
 have nd : ∀ {H' : Hp} {p : Addr},LS K L d H'→H' p = none→p≠d:=fun s hp z=>by
  obtain ⟨_,_,_,e,_⟩:=s.ex
  rw [← z,hp] at e
  cases e
 refine ⟨fun σ' H'=>σ' = [some (.ref d),some (.int w1)]∧H1 = H',?_,?_⟩
 ·refine ⟨_,rfl,_,_,rfl,rfl,_,rfl,?_⟩
  refine ite2 (fun c=>?_) (fun c=>?_)
  ·refine ⟨_,rfl,d,L,10,rfl,by decide,s1,fun u H2 u0 u1 k2 s2=>?_⟩
   exact q u H2 (by omega) (by omega) (k1.trans k2) s2
  ·exact ⟨rfl,rfl⟩
 rintro σ' H' ⟨rfl,rfl⟩
 refine ⟨fun σ' H'=>σ' = [some (.ref d),some (.int w1)]∧H1 = H',?_,?_⟩
 ·refine ⟨_,rfl,_,_,rfl,rfl,_,rfl,?_⟩
  refine ite2 (fun c=>?_) (fun c=>?_)
  ·refine ⟨_,rfl,d,L,60,rfl,by decide,s1,fun u H2 u0 u1 k2 s2=>⟨_,_,rfl,rfl,?_⟩⟩
   exact q (u - 30) H2 (by omega) (by omega) (k1.trans k2) s2
  ·exact ⟨rfl,rfl⟩
 rintro σ' H' ⟨rfl,rfl⟩
 refine ⟨fun σ' H'=>σ' = [some (.ref d),some (.int w1)]∧H1 = H',?_,?_⟩
 ·refine ⟨_,rfl,rfl,_,rfl,?_⟩
  refine ite2 (fun c=>?_) (fun c=>?_)
  ·refine ⟨_,rfl,d,L,1999,rfl,by decide,s1,fun u H2 u0 u1 k2 s2=>⟨_,_,rfl,rfl,?_⟩⟩
   refine ⟨_,_,rfl,rfl,⟨by decide,by decide,by decide⟩,_,_,rfl,rfl,⟨by decide,by decide,by decide⟩,_,_,rfl,rfl,⟨by decide,by decide,by decide⟩,(by show 4≤sizeLine; decide),fun p hp=>?_⟩
   refine ⟨_,rfl,d,L,4,rfl,by decide,s2.of_new hp _,fun b H3 b0 b1 k3 s3=>?_⟩
   obtain ⟨m,hat,m0,m1⟩ : ∃ m : Int,atI [V.int 1,V.int (10 ^ (19 : Int).toNat),V.int (10 ^ (38 : Int).toNat),V.int (10 ^ (57 : Int).toNat)] b = some (.int m)∧0 < m∧m≤10 ^ 57:=by
    have z : b = 0∨b = 1∨b = 2∨b = 3:=by omega
    rcases z with rfl | rfl | rfl | rfl
    ·exact ⟨_,rfl,by decide +kernel,by decide +kernel⟩
    ·exact ⟨_,rfl,by decide +kernel,by decide +kernel⟩
    ·exact ⟨_,rfl,by decide +kernel,by decide +kernel⟩
    ·exact ⟨_,rfl,by decide +kernel,by decide +kernel⟩
   refine ⟨_,_,_,_,rfl,rfl,SqL.of (k3 p _ (nd s2 hp) zac),hat,_,_,rfl,rfl,.inl ⟨by omega,by omega⟩,?_⟩
   obtain ⟨f1,f2⟩:=zm4 (x:=u - 999) (m:=m) (by omega) (by omega) m0 m1
   exact q _ H3 f1 f2 ((k1.trans k2).trans ((zaj hp _).keep.trans k3)) s3
  ·exact ⟨rfl,rfl⟩
 rintro σ' H' ⟨rfl,rfl⟩
 refine ⟨_,rfl,(by show 2≤sizeLine; decide),fun p hp=>?_⟩
 refine ⟨_,rfl,d,L,2,rfl,by decide,s1.of_new hp _,fun b H2 b0 b1 k2 s2=>?_⟩
 obtain ⟨m,hat,hm⟩ : ∃ m : Int,atI [V.int 1,V.int (-1)] b = some (.int m)∧(m = 1∨m = -1):=by
  have z : b = 0∨b = 1:=by omega
  rcases z with rfl | rfl
  ·exact ⟨_,rfl,.inl rfl⟩
  ·exact ⟨_,rfl,.inr rfl⟩
 refine ⟨_,_,_,_,rfl,rfl,SqL.of (k2 p _ (nd s1 hp) zac),hat,_,_,rfl,rfl,⟨by decide,by decide,by decide⟩,_,_,rfl,rfl,_,rfl,d,L,3,rfl,by decide,s2,fun u H3 u0 u1 k3 s3=>⟨_,_,rfl,rfl,_,_,rfl,rfl,.inl ⟨by omega,by omega⟩,?_⟩⟩
 have e60 : (10 : Int) ^ (60 : Int).toNat = 10 ^ 60:=rfl
 rw [e60]
 have kk:=k1.trans ((zaj hp _).keep.trans (k2.trans k3))
 rcases hm with rfl | rfl
 ·exact q _ H3 (by omega) (by omega) kk s3
 ·exact q _ H3 (by omega) (by omega) kk s3
def Rise (es : List (Int×Int)) : Prop:=es.Pairwise fun a b=>pLt a b = true
def zdC (k : Int) (e : Int×Int) : Prop:=-(10 ^ 60) < e.1∧e.1 < 10 ^ 60∧0≤e.2∧e.2 < k
def toPair : List Key→Int×Int
 | [.inl a,.inl b]=>(a,b)
 | _=>(0,0)
def KeyOk (k : Int) (x : List Key) : Prop:=∃ a b : Int,x = [.inl a,.inl b]∧zdC k (a,b)
theorem zkZ {κ : Type} [DecidableEq κ] (kvs : List (κ×V)) (k : κ) (v : V) : (putK kvs k v).map (·.1) = if (kvs.any fun kv=>decide (kv.1 = k)) = true then kvs.map (·.1) else kvs.map (·.1) ++ [k]:=by
 unfold putK
 split
 ·rw [List.map_map]
  apply List.map_congr_left
  intro a ha
  show (if a.1 = k then (a.1,v) else a).1 = a.1
  split <;> rfl
 ·rw [List.map_append]
  rfl
def zhG (e : Int×Int) : Int:=64 * (if 0≤e.1 then 2 * e.1 else -2 * e.1 - 1) + e.2
def zfN (e : Int×Int) : Nat:=(zhG e).toNat
theorem zfa {e : Int×Int} (h : zdC 64 e) : ((zfN e : Nat) : Int) = zhG e:=by
 obtain ⟨h1,h2,h3,h4⟩:=h
 unfold zfN zhG
 split <;> omega
theorem znk {e : Int×Int} (h : zdC 64 e) : zfN e < 2 ^ 207:=by
 have z:=zfa h
 obtain ⟨h1,h2,h3,h4⟩:=h
 unfold zhG at z
 split at z <;> omega
theorem zl2 {e f : Int×Int} (h : zdC 64 e) (g : zdC 64 f) (z : zfN e = zfN f) : e = f:=by
 have z1:=zfa h
 have z2:=zfa g
 obtain ⟨h1,h2,h3,h4⟩:=h
 obtain ⟨g1,g2,g3,g4⟩:=g
 obtain ⟨a,b⟩:=e
 obtain ⟨c,d⟩:=f
 rw [z,z2] at z1
 unfold zhG at z1
 dsimp only at *
 have : a = c∧b = d:=by
  split at z1 <;> split at z1 <;> omega
 rw [this.1,this.2]
def znD (K : PySem.W.Frag) : Sp:=fun vs H Q _=>∃ (v : V) (e : Int×Int),vs = [v]∧Rep.has K H e v∧Q (.int (zhG e)) H
theorem zox (T : Txt K mg) (D_code : DF K mg "code" ziV zfi) : FC P w K mg base 1 "code" zfi (znD K):=by
 refine D_code.ok sc_code (fun vs H Q E h=>?_) (fun f cdv A outer s H vs Q E hr h=>?_)
 ·obtain ⟨v,e,rfl,_⟩:=h
  rfl
 obtain ⟨v,e,rfl,he,q⟩:=h
 obtain ⟨p,x1,x2,rfl,hT,e1,e2⟩:=(show hasP K H e v from he)
 have hT:=SqT.of (K:=K) hT
 have e1 : x1 = .int e.1:=e1
 have e2 : x2 = .int e.2:=e2
 subst e1 e2
 refine ⟨_,(zaf (zap (i:=1) sc_code.nd rfl (Or.inl rfl) (zaA zaM (pv 0) zae (fun _ _=>rfl)))
   (zaf (zap (i:=2) sc_code.nd rfl (Or.inl rfl) (zi4 (zav op_ge (pv 1) zae (zaF _)) (zaq zcj zae (pv 1)) (zaq zbM (zaq zcj (zfK zdD zae) (pv 1)) zae)))
   (zah (zar (zaq za6 (zaq zcj (zgp rfl T.g_KNOT_NUMBERS) (pv 2)) (zaA zaM (pv 0) zae (fun _ _=>rfl))))))),?_⟩
 refine ⟨_,rfl,_,_,_,_,rfl,rfl,hT,rfl,?_⟩
 refine ⟨_,rfl,_,_,rfl,rfl,_,rfl,?_⟩
 refine ite2 (fun c=>?_) (fun c=>?_)
 ·have c' : 0≤e.1:=of_decide_eq_true c
  refine ⟨_,rfl,_,_,rfl,rfl,.inl ⟨by decide,by decide⟩,?_⟩
  refine ⟨_,rfl,_,_,rfl,rfl,.inl ⟨by decide,by decide⟩,_,rfl,_,_,_,_,rfl,rfl,hT,rfl,_,_,rfl,rfl,?_⟩
  unfold zhG at q
  rw [if_pos c'] at q
  exact q
 ·have c' : ¬ 0≤e.1:=of_decide_eq_false (Bool.eq_false_iff.mpr c)
  refine ⟨_,rfl,_,rfl,_,_,rfl,rfl,.inl ⟨by decide,by decide⟩,_,_,rfl,rfl,?_⟩
  refine ⟨_,rfl,_,_,rfl,rfl,.inl ⟨by decide,by decide⟩,_,rfl,_,_,_,_,rfl,rfl,hT,rfl,_,_,rfl,rfl,?_⟩
  unfold zhG at q
  rw [if_neg c'] at q
  exact q
abbrev nV (n : Nat) : V:=.int (n : Int)
theorem zfZ {v : Int} (h : 0≤v) : ∃ n : Nat,v = (n : Int):=⟨v.toNat,by omega⟩
theorem zjz {xs : List Nat} {i : Nat} (h : i < xs.length) : atI (xs.map nV) (i : Int) = some (nV (xs.getD i 0)):=
 zaX (by rw [List.getElem?_map,List.getElem?_eq_getElem h,List.getD_eq_getElem?_getD,List.getElem?_eq_getElem h]; rfl)
theorem at_pred {xs : List Nat} {i : Nat} (h0 : i≠0) (h : i < xs.length) : atI (xs.map nV) ((i : Int) - 1) = some (nV (xs.getD (i - 1) 0)):=by
 have e : (i : Int) - 1 = ((i - 1 : Nat) : Int):=by omega
 rw [e]
 exact zjz (by omega)
theorem zjq {xs : List Nat} {i : Nat} {x : V} (h : (xs.map nV)[i]? = some x) : i < xs.length∧x = nV (xs.getD i 0):=by
 rw [List.getElem?_map] at h
 cases e : xs[i]? with
 | none=>rw [e] at h; cases h
 | some y=>
  rw [e] at h
  refine ⟨(List.getElem?_eq_some_iff.mp e).1,?_⟩
  rw [List.getD_eq_getElem?_getD,e]
  exact (Option.some.inj h).symm
theorem and_one (n : Nat) : Builtin.bitAnd (n : Int) 1 = ((n % 2 : Nat) : Int):=by
 unfold Builtin.bitAnd
 rw [decide_eq_true (Int.natCast_nonneg n),decide_eq_true (by decide : (0 : Int)≤1)]
 show ((n &&& 1 : Nat) : Int) = _
 rw [Nat.and_one_is_mod]
theorem fig_is (a b : Nat) : 2 * ((lu a b : Nat) : Int) + Builtin.bitAnd ((b : Int) / 2 ^ ((lu a b : Nat) : Int).toNat) 1 = ((fig a b : Nat) : Int):=by
 have e : (b : Int) / 2 ^ ((lu a b : Nat) : Int).toNat = ((b / 2 ^ lu a b : Nat) : Int):=by
  rw [Int.toNat_natCast,Int.natCast_ediv,Int.natCast_pow]
  rfl
 rw [e,and_one]
 unfold fig
 omega
theorem zmW {K : PySem.W.Frag} {H : Hp} {xs : List Nat} : zak K H (xs.map fun n : Nat=>(n : Int)) (xs.map nV):=by
 have e : xs.map nV = (xs.map fun n : Nat=>(n : Int)).map V.int:=by rw [List.map_map]; rfl
 rw [e]
 exact zak.ints
def But (p : Addr) (H H' : Hp) : Prop:=∀ b o,b≠p→H b = some o→H' b = some o
theorem But.sq {K : PySem.W.Frag} {p : Addr} {H H' : Hp} {a : Addr} {xs : List V} (k : But p H H') (h : SqL K H a xs) (n : H p = none) : SqL K H' a xs:=by
 rcases h with (h | ⟨o,h⟩) | h
 ·exact .inl (.inl (k _ _ (zab h n) h))
 ·exact .inl (.inr ⟨o,k _ _ (zab h n) h⟩)
 ·exact .inr h
theorem zlQ (xs : List Nat) : (xs.map nV).all zfM = true:=by
 rw [List.all_eq_true]
 intro x hx
 obtain ⟨n,_,rfl⟩:=List.mem_map.mp hx
 rfl
theorem znP (n : Nat) (xs : List Nat) : inV (.int (n : Int)) (xs.map nV) = decide (n∈xs):=by
 unfold inV
 induction xs with
 | nil=>rfl
 | cons x xs ih=>
  rw [List.map_cons,List.any_cons,ih]
  show ((x : Int) == (n : Int) || decide (n∈xs)) = decide (n∈x :: xs)
  by_cases h : x = n
  ·subst h
   simp
  ·have : ((x : Int) == (n : Int)) = false:=by
    rw [beq_eq_false_iff_ne]
    omega
   rw [this,Bool.false_or]
   have e : (n∈x :: xs) = (n∈xs):=propext (by simp [Ne.symm h])
   simp [Ne.symm h]
def ziM (K : PySem.W.Frag) : Sp:=fun vs H Q _=>∃ (a : Addr) (xs : List Nat),vs = [.ref a]∧SqL K H a (xs.map nV)∧Unl xs∧xs.length≤1000∧
 ∀ (p : Addr) (H' : Hp),H p = none→Same H H'→H' p = some (.lst ((zcn xs).map nV))→Q (.ref p) H'
theorem zk8 (T : Txt K mg) (D_turned : DF K mg "turned" zeQ zc6) (F_lowest_unlike : FC P w K mg base 1 "lowest_unlike" za1 spLow) : FC P w K mg base 2 "turned" zc6 (ziM K):=by
 refine D_turned.ok sc_turned (fun vs H Q E h=>?_) (fun f cdv A outer s H vs Q E hr h=>?_)
 ·obtain ⟨a,xs,rfl,_⟩:=h
  rfl
 obtain ⟨a,xs,rfl,hS,hu,hz,q⟩:=h
 refine ⟨_,(zaf (zap (i:=1) sc_turned.nd rfl (Or.inl rfl) (zbR zad))
   (zaf (zbv PassesOwn.never rfl (zde rfl T.m_enumerate (zaa (pv 0) zad)) (zfm rfl (zaT (zao (i:=2) sc_turned.nd rfl (Or.inl rfl)) (zaT (zao (i:=3) sc_turned.nd rfl (Or.inl rfl)) zdf))) (zah (zcy (zav zfo (pv 2) zae (zaF _)) (zah (zbz (zeM F.plainAttrs_list F.slot_list_append F.type_list_append za3 (pv 1) (zaa (zaq zeB (pv 3) zae) zad)))) (zaf (zap (i:=4) sc_turned.nd rfl (Or.inl rfl) (zas F_lowest_unlike hr (zaa (zaA zaE (pv 0) (zaq zbM (pv 2) zae) (fun _ _=>rfl)) (zaa (pv 3) zad))))
   (zah (zbz (zeM F.plainAttrs_list F.slot_list_append F.type_list_append za3 (pv 1) (zaa (zaq za6 (zaq zcj zae (pv 4)) (zaq znL (zaq op_shr (pv 3) (pv 4)) zae)) zad))))))))
   (zah (zar (pv 1))))),?_⟩
 refine ⟨(by show 0≤sizeLine; decide),fun p hp=>?_⟩
 have k0 : But p H (upd H p (.lst [])):=fun b o n e=>by rw [zag n]; exact e
 refine ⟨_,rfl,a,rfl,⟨_,k0.sq hS hp⟩,?_⟩
 refine zgH (xs:=xs.map nV) (fun i σ H2=>∃ x2 x3 x4 : Option V,σ = [some (.ref a),some (.ref p),x2,x3,x4]∧H2 p = some (.lst (((zcn xs).take i).map nV))∧But p H H2) ?_ ?_ ?_ ?_
 ·exact ⟨_,_,_,rfl,zac,k0⟩
 ·rintro i σ H2 _ ⟨x2,x3,x4,rfl,_,k2⟩
  exact k2.sq hS hp
 ·rintro i x σ H2 r hx ⟨x2,x3,x4,rfl,h2,k2⟩ hr
  obtain ⟨hi,rfl⟩:=zjq hx
  have hS2:=k2.sq hS hp
  have np : p≠r:=zab h2 hr
  have h3 : upd H2 r (.tup [.int i,nV (xs.getD i 0)]) p = some (.lst (((zcn xs).take i).map nV)):=by rw [zag np]; exact h2
  have k3 : But p H (upd H2 r (.tup [.int i,nV (xs.getD i 0)])):=fun b o n e=>(zaj hr _) b o (k2 b o n e)
  have hS3:=k3.sq hS hp
  have hlen : (((zcn xs).take i).map nV).length < sizeLine:=zam (by rw [List.length_map,List.length_take,za7]; omega)
  refine ⟨r,_,rfl,SqT.of zac,rfl,_,_,rfl,_,_,rfl,rfl,?_⟩
  generalize upd H2 r (.tup [.int i,nV (xs.getD i 0)]) = H3 at h3 k3 hS3 ⊢
  have fin : ∀ v : V,v = nV (zdE xs i)→∃ y2 y3 y4 : Option V,[some (V.ref a),some (V.ref p),y2,y3,y4] = [some (V.ref a),some (V.ref p),y2,y3,y4]∧upd H3 p (.lst (((zcn xs).take i).map nV ++ [v])) p = some (.lst (((zcn xs).take (i + 1)).map nV))∧But p H (upd H3 p (.lst (((zcn xs).take i).map nV ++ [v]))):=by
   rintro v rfl
   refine ⟨none,none,none,rfl,?_,fun b o n e=>by rw [zag n]; exact k3 b o n e⟩
   rw [zac,zjF hi,List.map_append]
   rfl
  refine ⟨_,rfl,rfl,_,rfl,?_⟩
  refine ite2 (fun c=>?_) (fun c=>?_)
  ·have c' : i = 0:=by
    have:=V.int.inj (of_decide_eq_true c)
    omega
   refine ⟨_,rfl,.inl ⟨rfl,_,SqL.of h3⟩,_,rfl,_,_,rfl,rfl,(by show (0 : Int) < 2; decide),_,_,_,rfl,rfl,h3,hlen,?_⟩
   obtain ⟨_,_,_,_,g2,g3⟩:=fin (.int (((xs.getD i 0 : Nat) : Int) % 2)) (by
    unfold zdE
    rw [if_pos c',c']
    show V.int _ = V.int _
    rw [Int.natCast_emod]
    rfl)
   exact ⟨_,_,_,rfl,g2,g3⟩
  ·have c' : i≠0:=fun z=>c (by subst z; decide)
   have hne : xs.getD (i - 1) 0≠xs.getD i 0:=by
    have:=hu (i - 1) (by omega)
    rw [show i - 1 + 1 = i by omega] at this
    exact this
   refine ⟨_,rfl,_,rfl,_,_,rfl,rfl,_,_,_,_,rfl,rfl,hS3,at_pred c' hi,_,rfl,_,_,rfl,hne,?_⟩
   refine ⟨_,rfl,.inl ⟨rfl,_,SqL.of h3⟩,_,rfl,_,_,rfl,rfl,.inl ⟨by decide,by decide⟩,_,rfl,_,rfl,_,_,rfl,rfl,Int.natCast_nonneg _,_,_,rfl,rfl,_,_,rfl,rfl,_,_,_,rfl,rfl,h3,hlen,?_⟩
   obtain ⟨_,_,_,_,g2,g3⟩:=fin (.int (2 * ((lu (xs.getD (i - 1) 0) (xs.getD i 0) : Nat) : Int) + Builtin.bitAnd (((xs.getD i 0 : Nat) : Int) / 2 ^ ((lu (xs.getD (i - 1) 0) (xs.getD i 0) : Nat) : Int).toNat) 1)) (by
    unfold zdE
    rw [if_neg c',fig_is])
   exact ⟨_,_,_,rfl,g2,g3⟩
 ·rintro σ H2 ⟨x2,x3,x4,rfl,h2,k2⟩
  refine ⟨_,rfl,?_⟩
  refine q p H2 hp (fun b o e=>k2 b o (zab e hp) e) ?_
  rw [h2,List.take_of_length_le (by rw [za7,List.length_map]; exact Nat.le_refl _)]
def zc1 : Nat→List Nat→List Nat
 | 0,xs=>xs
 | n + 1,xs=>zcn (zc1 n xs)
theorem zcb (n : Nat) (xs : List Nat) : (zc1 n xs).length = xs.length:=by
 induction n with
 | zero=>rfl
 | succ n ih=>rw [zc1,za7,ih]
theorem zcp {xs : List Nat} (h : Unl xs) (n : Nat) : Unl (zc1 n xs):=by
 induction n with
 | zero=>exact h
 | succ n ih=>exact zkr ih
theorem zdA {m k : Nat} {xs : List Nat} (h : zc2 m xs) (hk : m≤k) : zc2 k xs:=fun i hi=>Nat.lt_of_lt_of_le (h i hi) hk
theorem zn2 {xs : List Nat} (h : Unl xs) (hb : zc2 (2 ^ 207) xs) : zc2 414 (zc1 1 xs):=zbX (k:=207) (by decide) h hb
theorem zn1 {xs : List Nat} (h : Unl xs) (hb : zc2 (2 ^ 207) xs) : zc2 18 (zc1 2 xs):=zbX (k:=9) (by decide) (zcp h 1) (zdA (zn2 h hb) (by decide))
theorem zn0 {xs : List Nat} (h : Unl xs) (hb : zc2 (2 ^ 207) xs) : zc2 10 (zc1 3 xs):=zbX (k:=5) (by decide) (zcp h 2) (zdA (zn1 h hb) (by decide))
theorem znZ {xs : List Nat} (h : Unl xs) (hb : zc2 (2 ^ 207) xs) : zc2 8 (zc1 4 xs):=zbX (k:=4) (by decide) (zcp h 3) (zdA (zn0 h hb) (by decide))
theorem znY {xs : List Nat} (h : Unl xs) (hb : zc2 (2 ^ 207) xs) : zc2 6 (zc1 5 xs):=zbX (k:=3) (by decide) (zcp h 4) (zdA (znZ h hb) (by decide))
def zcF (es : List (Int×Int)) : List Nat:=es.map zfN
theorem zaQ (es : List (Int×Int)) : (zcF es).length = es.length:=List.length_map _
theorem zeq {es : List (Int×Int)} {i : Nat} (h : i < es.length) : (zcF es).getD i 0 = zfN es[i]:=by
 unfold zcF
 rw [List.getD_eq_getElem?_getD,List.getElem?_map,List.getElem?_eq_getElem h]
 rfl
theorem zit {es : List (Int×Int)} (h : ∀ e∈es,zdC 64 e) : zc2 (2 ^ 207) (zcF es):=fun i hi=>by
 rw [zaQ] at hi
 rw [zeq hi]
 exact znk (h _ (List.getElem_mem hi))
theorem zfA {es : List (Int×Int)} (h : ∀ e∈es,zdC 64 e) (hr : Rise es) : Unl (zcF es):=fun i hi=>by
 rw [zaQ] at hi
 rw [zeq (by omega),zeq hi]
 intro z
 have e:=zl2 (h _ (List.getElem_mem (by omega))) (h _ (List.getElem_mem hi)) z
 have:=List.pairwise_iff_getElem.mp hr i (i + 1) (by omega) hi (by omega)
 rw [e] at this
 have q:=zco.mp this
 omega
theorem zka {es : List (Int×Int)} {i : Nat} (h : i < es.length) : (zcF es).take (i + 1) = (zcF es).take i ++ [zfN es[i]]:=by
 have h' : i < (zcF es).length:=by rw [zaQ]; exact h
 have z : (zcF es)[i]'h' = zfN es[i]:=List.getElem_map zfN
 rw [List.take_succ_eq_append_getElem h',z]
def ziQ (K : PySem.W.Frag) : Sp:=fun vs H Q _=>∃ (a : Addr) (ws : List V) (es : List (Int×Int)),vs = [.ref a]∧SqL K H a ws∧zak K H es ws∧es.length≤1000∧(∀ e∈es,zdC 64 e)∧Rise es∧
 ∀ (p : Addr) (H' : Hp),H p = none→Same H H'→H' p = some (.lst ((zc1 5 (zcF es)).map nV))→Q (.ref p) H'
theorem zkb {K : PySem.W.Frag} {H0 H2 : Hp} {D : Addr} {es : List (Int×Int)} {ws : List V} {i : Nat} {x : V} (hD : H0 D = none) (hw : zak K H0 es ws) (hx : ws[i]? = some x) (k : But D H0 H2) : ∃ h : i < es.length,Rep.has K H2 es[i] x:=by
 obtain ⟨e,h1,h2⟩:=hw.get hx
 have hi:=(List.getElem?_eq_some_iff.mp h1).1
 refine ⟨hi,?_⟩
 have z : es[i] = e:=(List.getElem?_eq_some_iff.mp h1).2
 rw [z]
 obtain ⟨a,x1,x2,rfl,q,e1,e2⟩:=(show hasP K H0 e x from h2)
 exact ⟨a,x1,x2,rfl,k _ _ (zab q hD) q,e1,e2⟩
theorem zld (T : Txt K mg) (D_labels : DF K mg "labels" zeT zc9) (F_code : FC P w K mg base 1 "code" zfi (znD K)) (F_turned : FC P w K mg base 2 "turned" zc6 (ziM K)) : FC P w K mg base 3 "labels" zc9 (ziQ K):=by
 refine D_labels.ok sc_labels (fun vs H Q E h=>?_) (fun f cdv A outer s H vs Q E hr h=>?_)
 ·obtain ⟨a,ws,es,rfl,_⟩:=h
  rfl
 obtain ⟨a,ws,es,rfl,hS,hw,hz,he,hri,q⟩:=h
 have hlen:=hw.length
 refine ⟨_,(zaf (zdM (i:=1) (N:=["entry"]) (own:=1) (cap:=[]) sc_labels.nd rfl rfl rfl (zb2 (pv 0)) ⟨rfl,rfl,rfl,rfl,rfl,rfl⟩ (fun _ _ _ _ _=>(zao (i:=0) (show List.Nodup (["entry"] : List Str) by decide +kernel) rfl (Or.inl rfl))) (fun _ _ _ _ _=>zbk) (fun _ _ _ _ _=>(zas F_code hr (zaa (pv 0) zad))))
   (zaf (zbv PassesOwn.never rfl (zbK rfl T.m_range (zaa (zgp rfl T.g_TURNS) zad)) (zao (i:=2) sc_labels.nd rfl (Or.inl rfl)) (zah (zap (i:=1) sc_labels.nd rfl (Or.inl rfl) (zas F_turned hr (zaa (pv 1) zad)))))
   (zah (zar (pv 1))))),?_⟩
 refine ⟨_,rfl,a,rfl,⟨_,hS⟩,fun D hD=>?_⟩
 have k0 : But D H (upd H D (.lst [])):=fun b o n e=>by rw [zag n]; exact e
 refine zcE (xs:=ws) (fun i σ H2=>∃ x0 : Option V,σ = [x0]∧H2 D = some (.lst (((zcF es).take i).map nV))∧But D H H2) ?_ ?_ ?_ ?_
 ·exact ⟨_,rfl,zac,k0⟩
 ·rintro i σ H2 _ ⟨x0,rfl,_,k2⟩
  exact k2.sq hS hD
 ·rintro i m x σ H2 hx hm ⟨x0,rfl,h2,k2⟩
  obtain ⟨hi,hhas⟩:=zkb hD hw hx k2
  refine zcZ ?_
  refine ⟨_,rfl,x,es[i],rfl,hhas,?_⟩
  refine ⟨_,h2,zam (by rw [List.length_map,List.length_take,zaQ]; omega),m - 1,by omega,by omega,_,rfl,?_,fun b o n e=>by rw [zag n]; exact k2 b o n e⟩
  rw [zac,zka hi,List.map_append,← zfa (he _ (List.getElem_mem hi))]
  rfl
 ·rintro σ H2 ⟨x0,rfl,h2,k2⟩
  have e0 : H2 D = some (.lst ((zcF es).map nV)):=by
   rw [h2,List.take_of_length_le (by rw [zaQ]; omega)]
  have same0 : Same H H2:=fun b o e=>k2 b o (zab e hD) e
  refine ⟨5,rfl,by decide,by decide,?_⟩
  refine zbO (n:=5) (fun i σ H3=>∃ (p : Addr) (x2 x3 : Option V),σ = [some (.ref a),some (.ref p),x2]∧H p = none∧Same H H3∧H3 p = some (.lst ((zc1 i (zcF es)).map nV))) ?_ ?_ ?_
  ·exact ⟨D,_,none,rfl,hD,same0,e0⟩
  ·rintro i σ H3 hi ⟨p,x2,x3,rfl,hp,s3,h3⟩
   refine ⟨_,rfl,p,_,rfl,SqL.of h3,zcp (zfA he hri) i,by rw [zcb,zaQ]; exact hz,fun p4 H4 hp4 s4 h4=>?_⟩
   exact ⟨p4,_,none,rfl,s3.free hp4,s3.trans s4,h4⟩
  ·rintro σ H3 ⟨p,x2,x3,rfl,hp,s3,h3⟩
   refine ⟨_,rfl,?_⟩
   exact q p H3 hp s3 h3
theorem zc4 {n d i : Nat} : HT.sIx n d (some (i : Int)) = min i n:=by
 unfold HT.sIx
 simp
 try omega
theorem zju (xs : List V) (a b : Nat) : cutV xs (some (a : Int)) (some (b : Int)) = (xs.drop a).take (b - a):=by
 unfold cutV
 rw [zc4,zc4]
 by_cases h : a≤xs.length
 ·rw [Nat.min_eq_left h]
  by_cases h2 : b≤xs.length
  ·rw [Nat.min_eq_left h2]
  ·rw [Nat.min_eq_right (by omega),List.take_of_length_le (by rw [List.length_drop]; exact Nat.le_refl _),List.take_of_length_le (by rw [List.length_drop]; omega)]
 ·rw [Nat.min_eq_right (show xs.length≤a by omega),List.drop_eq_nil_of_le (Nat.le_refl _),List.drop_eq_nil_of_le (show xs.length≤a by omega)]
  simp
theorem zfS {α : Type} (xs : List α) (k : Nat) : (xs.drop k).take 1 = xs[k]?.toList:=by
 by_cases h : k < xs.length
 ·rw [List.drop_eq_getElem_cons h,List.getElem?_eq_getElem h]
  rfl
 ·rw [List.drop_eq_nil_of_le (by omega),List.getElem?_eq_none (by omega)]
  rfl
theorem zlY {xs : List V} {k : Nat} {i j : Int} (hi : i = if (k : Int) - 1 > 0 then (k : Int) - 1 else 0) (hj : j = (k : Int)) : cutV xs (some i) (some j) = (if k = 0 then none else xs[k - 1]?).toList:=by
 subst hj
 have e : i = ((k - 1 : Nat) : Int):=by
  rw [hi]
  split <;> omega
 subst e
 rw [zju]
 split
 ·rename_i h
  subst h
  simp
 ·rw [show k - (k - 1) = 1 by omega,zfS]
theorem zj9 {xs : List V} {k : Nat} {i j : Int} (hi : i = (k : Int) + 1) (hj : j = (k : Int) + 2) : cutV xs (some i) (some j) = xs[k + 1]?.toList:=by
 subst hi hj
 rw [show (k : Int) + 1 = ((k + 1 : Nat) : Int) by omega,show (k : Int) + 2 = ((k + 2 : Nat) : Int) by omega,zju,show k + 2 - (k + 1) = 1 by omega,zfS]
theorem zmb (xs : List Nat) (k : Nat) : (if k = 0 then none else (xs.map nV)[k - 1]?).toList ++ (xs.map nV)[k + 1]?.toList = (zaS xs k).map nV:=by
 unfold zaS
 rw [List.map_append,List.getElem?_map,List.getElem?_map]
 congr 1
 ·split
  ·rfl
  ·cases xs[k - 1]? <;> rfl
 ·cases xs[k + 1]? <;> rfl
theorem But.new {p b : Addr} {H H2 : Hp} (k : But p H H2) (hb : H2 b = none) (o : HO) : But p H (upd H2 b o):=fun x o' n e=>(zaj hb o) x o' (k x o' n e)
def zg2 (K : PySem.W.Frag) : Sp:=fun vs H Q _=>∃ (a : Addr) (xs : List Nat),vs = [.ref a]∧SqL K H a (xs.map nV)∧Unl xs∧zc2 6 xs∧xs.length≤1000∧
 ∀ (p : Addr) (H' : Hp),H p = none→Same H H'→H' p = some (.lst ((colL xs).map nV))→Q (.ref p) H'
def zb4 (es : List (Int×Int)) : List Bool:=zdi (colL (zc1 5 (zcF es)))
theorem zbe (es : List (Int×Int)) : (zb4 es).length = es.length:=by
 unfold zb4
 rw [zef,zfz,zcb,zaQ]
theorem zic {es : List (Int×Int)} (he : ∀ e∈es,zdC 64 e) (hri : Rise es) : Unl (zc1 5 (zcF es)):=zcp (zfA he hri) 5
theorem zhv {es : List (Int×Int)} (he : ∀ e∈es,zdC 64 e) (hri : Rise es) : zc2 6 (zc1 5 (zcF es)):=znY (zfA he hri) (zit he)
theorem zmd {xs : List Nat} (h : zc2 6 xs) : ∀ i x,atZ xs i = some x→x≤5:=fun i x e=>by
 obtain ⟨h0,h1⟩:=zgN e
 have:=h i.toNat (by omega)
 unfold atZ at e
 rw [if_pos h0] at e
 rw [List.getD_eq_getElem?_getD,e] at this
 exact Nat.lt_succ_iff.mp this
theorem zhp {es : List (Int×Int)} (he : ∀ e∈es,zdC 64 e) (hri : Rise es) : zdo (zb4 es):=zlo (zjv (unlZ (zic he hri))) (colL_le (zmd (zhv he hri)))
def zkL (K : PySem.W.Frag) : Sp:=fun vs H Q _=>∃ (a : Addr) (ws : List V) (es : List (Int×Int)),vs = [.ref a]∧H a = some (.lst ws)∧zak K H es ws∧es.length≤1000∧(∀ e∈es,zdC 64 e)∧Rise es∧
 ∀ (p : Addr) (H' : Hp),H p = none→Same H H'→H' p = some (.lst ((zb4 es).map V.bl))→Q (.ref p) H'
def ziS (K : PySem.W.Frag) : Sp:=fun vs H Q _=>∃ (a : Addr) (ws : List V) (es : List (Int×Int)),vs = [.ref a]∧H a = some (.lst ws)∧zak K H es ws∧es.length≤1000∧(∀ e∈es,zdC 64 e)∧Rise es∧
 ∀ (p : Addr) (H' : Hp),H p = none→Same H H'→H' p = some (.lst (zcS ws (zb4 es)))→Q (.ref p) H'
theorem zfR (o : Option Bool) : o.toList.any id = o.getD false:=by
 cases o with
 | none=>rfl
 | some b=>cases b <;> rfl
theorem zm8 (ms : List Bool) : inV (.bl true) (ms.map V.bl) = ms.any id:=by
 unfold inV
 induction ms with
 | nil=>rfl
 | cons m ms ih=>
  rw [List.map_cons,List.any_cons,ih,List.any_cons]
  cases m <;> rfl
theorem flat_bl (ms : List Bool) : (ms.map V.bl).all zfM = true:=by
 rw [List.all_eq_true]
 intro x hx
 obtain ⟨n,_,rfl⟩:=List.mem_map.mp hx
 rfl
theorem zhx {α : Type} {as : List α} {bs : List Bool} {a : α} {b : Bool} (h : as.length = bs.length) : zcS (as ++ [a]) (bs ++ [b]) = zcS as bs ++ (if b = true then [a] else []):=by
 unfold zcS
 rw [List.zip_append h,List.filter_append,List.map_append]
 congr 1
 cases b <;> rfl
theorem zii {α : Type} (as : List α) (bs : List Bool) : (zcS as bs).length≤as.length:=by
 unfold zcS
 rw [List.length_map]
 refine Nat.le_trans (List.length_filter_le _ _) ?_
 rw [List.length_zip]
 omega
theorem zjp {α : Type} [Rep α] {K : PySem.W.Frag} {H : Hp} : ∀ {es : List α} {ws : List V} {ms : List Bool},zak K H es ws→zak K H (zcS es ms) (zcS ws ms)
 | _,_,_,.nil=>by
  unfold zcS
  exact .nil
 | e :: es,w :: ws,[],.cons h t=>by
  unfold zcS
  exact .nil
 | e :: es,w :: ws,m :: ms,.cons h t=>by
  have:=zjp (ms:=ms) t
  unfold zcS at this ⊢
  cases m with
  | false=>exact this
  | true=>exact .cons h this
theorem zdK (bs : List Nat) (c : Nat) : ((List.range (c + 1)).filter fun c=>!decide (c∈bs)) = ((List.range c).filter fun c=>!decide (c∈bs)) ++ (if c∈bs then [] else [c]):=by
 rw [List.range_succ,List.filter_append]
 congr 1
 by_cases h : c∈bs
 ·rw [if_pos h]
  simp [List.filter,h]
 ·rw [if_neg h]
  simp [List.filter,h]
theorem zdH {H : Hp} {p t : Addr} {xs ys : List V} (h1 : H p = some (.lst xs)) (h2 : H t = some (.tup ys)) : p≠t:=fun z=>by
 rw [z,h2] at h1
 cases h1
theorem zlE {n k : Nat} (h : k < n) : ixN n (k : Int) = some k:=by
 unfold ixN
 simp
 omega
def besV (xs : List V) (k : Nat) : List V:=(if k = 0 then none else xs[k - 1]?).toList ++ xs[k + 1]?.toList
theorem ziu (xs : List V) (k : Nat) : (besV xs k).length≤2:=by
 have e : ∀ o : Option V,o.toList.length≤1:=fun o=>by cases o <;> simp
 unfold besV
 rw [List.length_append]
 have:=e (if k = 0 then none else xs[k - 1]?)
 have:=e xs[k + 1]?
 omega
def spNb (K : PySem.W.Frag) : Sp:=fun vs H Q _=>∃ (a : Addr) (xs : List V) (k : Nat),vs = [.ref a,.int k]∧H a = some (.lst xs)∧
 ∀ (g : Addr) (H' : Hp),H g = none→Same H H'→H' g = some (.lst (besV xs k))→Q (.ref g) H'
theorem zgw (T : Txt K mg) (D_neighbours : DF K mg "neighbours" zce zbd) : FC P w K mg base 1 "neighbours" zbd (spNb K):=by
 refine D_neighbours.ok sc_neighbours (fun vs H Q E h=>?_) (fun f cdv A outer s H vs Q E hr h=>?_)
 ·obtain ⟨a,xs,k,rfl,_⟩:=h
  rfl
 obtain ⟨a,xs,k,rfl,ha,q⟩:=h
 refine ⟨_,(zah (zar (zaq op_cat (zec zhV (pv 0) (zdN (zau (zhI rfl) rfl T.m_max boot_max (zaa (zaq zbM (pv 1) zae) (zaa zae zad)))) (zdN (pv 1))) (zec zhV (pv 0) (zdN (zaq za6 (pv 1) zae)) (zdN (zaq za6 (pv 1) zae)))))),?_⟩
 refine ⟨_,rfl,_,rfl,_,_,rfl,rfl,_,_,rfl,_,rfl,_,rfl,_,rfl,_,_,rfl,SqL.of ha,fun b hb=>?_⟩
 have kb:=zaj hb (.lst (cutV xs (some (if 0 > (k : Int) - 1 then 0 else (k : Int) - 1)) (some (k : Int))))
 have hbb : upd H b (.lst (cutV xs (some (if 0 > (k : Int) - 1 then 0 else (k : Int) - 1)) (some (k : Int)))) b = some (.lst (if k = 0 then none else xs[k - 1]?).toList):=by
  rw [zac,zlY (k:=k) (by split <;> split <;> omega) rfl]
 generalize upd H b (.lst (cutV xs (some (if 0 > (k : Int) - 1 then 0 else (k : Int) - 1)) (some (k : Int)))) = H3 at kb hbb ⊢
 refine ⟨_,rfl,_,rfl,_,_,rfl,rfl,_,rfl,_,rfl,_,_,rfl,rfl,_,rfl,_,_,rfl,SqL.of (kb _ _ ha),fun c hc=>?_⟩
 have kc:=zaj hc (.lst (cutV xs (some ((k : Int) + 1)) (some ((k : Int) + 2))))
 have hcb:=kc _ _ hbb
 have hcc : upd H3 c (.lst (cutV xs (some ((k : Int) + 1)) (some ((k : Int) + 2)))) c = some (.lst xs[k + 1]?.toList):=by
  rw [zac,zj9 (k:=k) rfl rfl]
 generalize upd H3 c (.lst (cutV xs (some ((k : Int) + 1)) (some ((k : Int) + 2)))) = H4 at kc hcb hcc ⊢
 refine ⟨b,c,_,_,rfl,rfl,hcb,hcc,?_,fun g hg=>?_⟩
 ·rw [← List.length_append]
  exact Nat.le_trans (ziu xs k) (by decide)
 exact q g _ (kb.free (kc.free hg)) (kb.trans (kc.trans (zaj hg _))) zac
def znB (K : PySem.W.Frag) : Sp:=fun vs H Q _=>∃ (a : Addr) (xs : List Nat) (k : Nat),vs = [.ref a]∧H a = some (.lst ((zaS xs k).map nV))∧
 ∀ H' : Hp,Same H H'→Q (.int (zdJ xs k : Nat)) H'
theorem zgx (T : Txt K mg) (D_least_free : DF K mg "least_free" zcf zbt) : FC P w K mg base 1 "least_free" zbt (znB K):=by
 refine D_least_free.ok sc_least_free (fun vs H Q E h=>?_) (fun f cdv A outer s H vs Q E hr h=>?_)
 ·obtain ⟨a,xs,k,rfl,_⟩:=h
  rfl
 obtain ⟨a,xs,k,rfl,ha,q⟩:=h
 refine ⟨_,(zah (zar (zau (zl6 rfl) rfl T.m_min boot_min (zaa (zbf (N:=["colour","taken"]) (own:=1) (cap:=[0]) rfl (zdF (zbL (zaa zae (zaa zae (zaa zae zad))))) ⟨rfl,rfl,rfl,rfl,rfl,rfl⟩ (fun _ _ _ _ _=>(zao (i:=0) (show List.Nodup (["colour","taken"] : List Str) by decide +kernel) rfl (Or.inl rfl))) (fun _ _ _ _ _=>(zc5 (zav (zgv (K:=K)) (pv 0) (pv 1) (by with_unfolding_all rfl)))) (fun _ _ _ _ _=>(pv 0))) zad)))),?_⟩
 refine ⟨(by show 3≤sizeLine; decide),fun t ht=>?_⟩
 have st:=zaj ht (.tup [V.int 0,V.int 1,V.int 2])
 have ht1 : upd H t (.tup [V.int 0,V.int 1,V.int 2]) t = some (.tup [V.int 0,V.int 1,V.int 2]):=zac
 generalize upd H t (.tup [V.int 0,V.int 1,V.int 2]) = H1 at st ht1 ⊢
 have h1a:=st _ _ ha
 refine ⟨t,rfl,⟨_,SqT.of ht1⟩,fun D hD=>?_⟩
 refine zcm (xs:=[V.int 0,V.int 1,V.int 2]) (fun c σ H6=>∃ x0 : Option V,σ = [x0,some (.ref a)]∧H6 D = some (.lst (((List.range c).filter fun c=>!decide (c∈zaS xs k)).map nV))∧But D H1 H6) ?_ ?_ ?_ ?_
 ·exact ⟨_,rfl,zac,fun b o n e=>by rw [zag n]; exact e⟩
 ·rintro i σ H6 _ ⟨x0,rfl,_,k6⟩
  exact SqT.of (k6 _ _ (zab ht1 hD) ht1)
 ·rintro c m x σ H6 hx hm ⟨x0,rfl,h6,k6⟩
  obtain ⟨hi,rfl⟩ : c < 3∧x = V.int (c : Int):=by
   rcases c with _ | _ | _ | c
   ·exact ⟨by decide,(Option.some.inj hx).symm⟩
   ·exact ⟨by decide,(Option.some.inj hx).symm⟩
   ·exact ⟨by decide,(Option.some.inj hx).symm⟩
   ·cases hx
  have h6g:=k6 _ _ (zab h1a hD) h1a
  have hlen:=List.length_filter_le (fun c=>!decide (c∈zaS xs k)) (List.range c)
  rw [List.length_range] at hlen
  refine ⟨_,rfl,_,rfl,_,_,rfl,.inl (SqL.of h6g),rfl,zlQ _,_,rfl,?_⟩
  show if (!inV (.int (c : Int)) ((zaS xs k).map nV)) = true then _ else _
  rw [znP]
  have hm3 : c + m = 3:=hm
  refine ite2 (fun e=>?_) (fun e=>?_)
  ·have e' : c∉zaS xs k:=fun z=>by
    rw [decide_eq_true z] at e
    cases e
   refine ⟨_,rfl,_,h6,zam (by rw [List.length_map]; omega),m - 1,by omega,(by show c + 1 + (m - 1) = 3; omega),_,rfl,?_,fun b o n e=>by rw [zag n]; exact k6 b o n e⟩
   rw [zac,zdK,if_neg e',List.map_append]
   rfl
  ·have e' : c∈zaS xs k:=Decidable.byContradiction fun z=>e (by rw [decide_eq_false z]; rfl)
   refine ⟨m - 1,by omega,(by show c + 1 + (m - 1) = 3; omega),_,rfl,?_,k6⟩
   rw [h6,zdK,if_pos e',List.append_nil]
 ·rintro σ H6 ⟨x0,rfl,h6,k6⟩
  have h6 : H6 D = some (.lst (((List.range 3).filter fun c=>!decide (c∈zaS xs k)).map nV)):=h6
  have s6 : Same H1 H6:=fun b o e=>k6 b o (zab e hD) e
  have mem : ∀ c,c∈((List.range 3).filter fun c=>!decide (c∈zaS xs k))↔c < 3∧c∉zaS xs k:=fun c=>by
   rw [List.mem_filter,List.mem_range]
   constructor
   ·rintro ⟨h1,h2⟩
    refine ⟨h1,fun z=>?_⟩
    rw [decide_eq_true z] at h2
    cases h2
   ·rintro ⟨h1,h2⟩
    exact ⟨h1,by rw [decide_eq_false h2]; rfl⟩
  have hf : zdJ xs k∈((List.range 3).filter fun c=>!decide (c∈zaS xs k)):=(mem _).mpr ⟨Nat.lt_succ_of_le (zlP xs k),zj6⟩
  refine ⟨D,((List.range 3).filter fun c=>!decide (c∈zaS xs k)).map fun n : Nat=>(n : Int),rfl,?_,?_,fun M hM hL=>?_⟩
  ·rw [List.map_map]
   exact SqL.of h6
  ·rw [List.length_map]
   exact List.length_pos_of_mem hf
  have eM : M = (zdJ xs k : Int):=by
   have h1:=hL _ (List.mem_map.mpr ⟨_,hf,rfl⟩)
   obtain ⟨c,hc,rfl⟩:=List.mem_map.mp hM
   have h2 : ¬ c < zdJ xs k:=fun z=>((mem c).mp hc).2 (zhz z)
   omega
  rw [eM]
  exact q _ (st.trans s6)
theorem besV_nV (xs : List Nat) (k : Nat) : besV (xs.map nV) k = (zaS xs k).map nV:=zmb xs k
theorem zjT (T : Txt K mg) (D_colours : DF K mg "colours" zd1 zcz) (F_neighbours : FC P w K mg base 1 "neighbours" zbd (spNb K)) (F_least_free : FC P w K mg base 1 "least_free" zbt (znB K)) : FC P w K mg base 3 "colours" zcz (zg2 K):=by
 refine D_colours.ok sc_colours (fun vs H Q E h=>?_) (fun f cdv A outer s H vs Q E hr h=>?_)
 ·obtain ⟨a,xs,rfl,_⟩:=h
  rfl
 obtain ⟨a,xs,rfl,hS,hu,hb,hz,q⟩:=h
 refine ⟨_,(zaf (zap (i:=1) sc_colours.nd rfl (Or.inl rfl) (zaO zdm rfl T.m_list boot_list (zaa (pv 0) zad)))
   (zaf (zbv PassesOwn.never rfl (zdF (zbL (zaa zae (zaa zae (zaa zae zad))))) (zao (i:=2) sc_colours.nd rfl (Or.inl rfl)) (zah (zbv PassesOwn.never rfl (zbK rfl T.m_range (zaa (zau zat rfl T.m_len boot_len (zaa (pv 0) zad)) zad)) (zao (i:=3) sc_colours.nd rfl (Or.inl rfl)) (zah (zcy (zav zfo (zaA zaE (pv 1) (pv 3) (fun _ _=>rfl)) (pv 2) (zaF _)) (zah (zi2 (zas F_least_free hr (zaa (zas F_neighbours hr (zaa (pv 1) (zaa (pv 3) zad))) zad)) (zi3 (pv 1) (pv 3) zeP))) za5)))))
   (zah (zar (pv 1))))),?_⟩
 refine ⟨_,rfl,a,_,rfl,.inl hS,fun p hp=>?_⟩
 have k0 : But p H (upd H p (.lst (xs.map nV))):=fun b o n e=>by rw [zag n]; exact e
 refine ⟨(by show 3≤sizeLine; decide),fun t ht=>?_⟩
 have npt : p≠t:=zab zac ht
 refine ⟨t,rfl,⟨_,SqT.of zac⟩,?_⟩
 refine zil (xs:=[V.int 3,V.int 4,V.int 5]) (fun i σ H2=>∃ x2 x3 : Option V,σ = [some (.ref a),some (.ref p),x2,x3]∧H2 p = some (.lst ((colN xs i).map nV))∧H2 t = some (.tup [V.int 3,V.int 4,V.int 5])∧But p H H2) ?_ ?_ ?_ ?_
 ·exact ⟨_,_,rfl,by rw [zag npt]; exact zac,zac,k0.new ht _⟩
 ·rintro i σ H2 _ ⟨x2,x3,rfl,_,h2t,_⟩
  exact SqT.of h2t
 ·rintro i x σ H2 hx ⟨x2,x3,rfl,h2,h2t,k2⟩
  obtain ⟨hi,rfl⟩ : i < 3∧x = V.int ((3 + i : Nat) : Int):=by
   rcases i with _ | _ | _ | i
   ·exact ⟨by decide,(Option.some.inj hx).symm⟩
   ·exact ⟨by decide,(Option.some.inj hx).symm⟩
   ·exact ⟨by decide,(Option.some.inj hx).symm⟩
   ·cases hx
  have hyl:=zis xs i
  have hyu:=znj hu i
  have hnx : colN xs (i + 1) = recL (3 + i) (colN xs i):=rfl
  rw [hnx]
  generalize colN xs i = ys at h2 hyl hyu ⊢
  generalize 3 + i = v
  have hSa : SqL K H2 a (xs.map nV):=k2.sq hS hp
  refine ⟨_,rfl,_,_,rfl,.inl hSa,_,rfl,by rw [List.length_map]; omega,by rw [List.length_map]; omega,?_⟩
  have el : ((((xs.map nV).length : Nat) : Int)).toNat = ys.length:=by rw [List.length_map,Int.toNat_natCast,hyl]
  rw [el]
  refine zbO (n:=ys.length) (fun k σ H3=>∃ x3 : Option V,σ = [some (.ref a),some (.ref p),some (.int v),x3]∧H3 p = some (.lst ((mixL v ys k).map nV))∧H3 t = some (.tup [V.int 3,V.int 4,V.int 5])∧But p H H3) ?_ ?_ ?_
  ·exact ⟨_,rfl,h2,h2t,k2⟩
  ·rintro k σ H3 hk ⟨x3,rfl,h3,h3t,k3⟩
   rw [Int.zero_add]
   have ml:=zfq v ys k
   have eg : (mixL v ys k).getD k 0 = ys.getD k 0:=by
    rw [List.getD_eq_getElem?_getD,zln (Nat.le_refl k),← List.getD_eq_getElem?_getD]
   have hat : atI ((mixL v ys k).map nV) (k : Int) = some (nV (ys.getD k 0)):=by
    rw [← eg]
    exact zjz (by omega)
   refine ⟨_,rfl,_,rfl,_,_,_,_,rfl,rfl,SqL.of h3,hat,_,rfl,rfl,_,rfl,?_⟩
   refine ite2 (fun c=>?_) (fun c=>?_)
   ·have c' : ys.getD k 0 = v:=by
     have:=V.int.inj (of_decide_eq_true c)
     omega
    refine ⟨_,rfl,_,rfl,p,_,k,rfl,h3,fun g H4 hg s4 h4=>?_⟩
    rw [besV_nV,zh7 hyu hk c'] at h4
    refine ⟨g,ys,k,rfl,h4,fun H5 s5=>?_⟩
    have s35:=s4.trans s5
    have same : ∀ b o,b≠p→H3 b = some o→upd H5 p (.lst (((mixL v ys k).map nV).set k (nV (zdJ ys k)))) b = some o:=fun b o n e=>by
     rw [zag n]
     exact s35 _ _ e
    refine ⟨_,rfl,_,rfl,_,_,_,k,rfl,rfl,s35 _ _ h3,zlE (by rw [List.length_map,ml]; exact hk),?_⟩
    refine ⟨_,rfl,?_,same _ _ (Ne.symm (zdH h3 h3t)) h3t,fun b o n e=>same _ _ n (k3 b o n e)⟩
    rw [zac,zmZ hk c',List.map_set]
   ·have c' : ys.getD k 0≠v:=fun z=>c (by rw [z]; exact decide_eq_true rfl)
    exact ⟨_,rfl,by rw [zll hk c']; exact h3,h3t,k3⟩
  ·rintro σ H3 ⟨x3,rfl,h3,h3t,k3⟩
   rw [zm0 (Nat.le_refl _)] at h3
   exact ⟨_,_,rfl,h3,h3t,k3⟩
 ·rintro σ H2 ⟨x2,x3,rfl,h2,_,k2⟩
  refine ⟨_,rfl,?_⟩
  exact q p H2 hp (fun b o e=>k2 b o (zab e hp) e) h2
def zdl (ms : List Bool) (k : Nat) : Bool:=!ms.getD (k - 1) false && !ms.getD (k + 1) false
def besB (ms : List Bool) (k : Nat) : List Bool:=(if k = 0 then none else ms[k - 1]?).toList ++ ms[k + 1]?.toList
theorem besV_bl (ms : List Bool) (k : Nat) : besV (ms.map V.bl) k = (besB ms k).map V.bl:=by
 unfold besV besB
 rw [List.map_append,List.getElem?_map,List.getElem?_map]
 congr 1
 ·split
  ·rfl
  ·cases ms[k - 1]? <;> rfl
 ·cases ms[k + 1]? <;> rfl
theorem znl {ms : List Bool} {k : Nat} (h : 1≤k) : (besB ms k).any id = !zdl ms k:=by
 unfold besB zdl
 rw [if_neg (by omega),List.any_append,zfR,zfR,List.getD_eq_getElem?_getD,List.getD_eq_getElem?_getD]
 generalize ms[k - 1]?.getD false = x
 generalize ms[k + 1]?.getD false = z
 cases x <;> cases z <;> rfl
theorem zh6 {sh : Nat} {cs : List Nat} {ms : List Bool} (hu : Unl cs) (hl : cs.length = ms.length) {k : Nat} (h : k < cs.length) (h1 : 1≤k) (hs : cs.getD k 0 = sh) : zdl (mixM sh cs ms k) k = zdl ms k:=by
 unfold zdl
 have e : ∀ j,k≤j→(mixM sh cs ms k).getD j false = ms.getD j false:=fun j hj=>by
  rw [List.getD_eq_getElem?_getD,List.getD_eq_getElem?_getD,zck hl,if_neg (by omega)]
 rw [e (k + 1) (by omega)]
 have e2 : (mixM sh cs ms k).getD (k - 1) false = ms.getD (k - 1) false:=by
  rw [List.getD_eq_getElem?_getD,zck hl,if_pos (by omega),zdw hl (by omega)]
  have:=hu (k - 1) (by omega)
  rw [show k - 1 + 1 = k by omega,hs] at this
  rw [decide_eq_false this]
  simp
 rw [e2]
theorem zf0 {sh : Nat} {cs : List Nat} {ms : List Bool} (hl : cs.length = ms.length) {k : Nat} (h : k < cs.length) (hn : ¬ (cs.getD k 0 = sh∧zdl ms k = true)) : mixM sh cs ms (k + 1) = mixM sh cs ms k:=by
 apply List.ext_getElem?
 intro j
 rw [zck hl,zck hl]
 by_cases c : j < k
 ·rw [if_pos c,if_pos (by omega)]
 ·rw [if_neg c]
  split
  ·have : j = k:=by omega
   subst this
   rw [zdw hl h]
   unfold zdl at hn
   rw [List.getElem?_eq_getElem (by omega)]
   have e : ms.getD j false = ms[j]'(by omega):=by
    rw [List.getD_eq_getElem?_getD,List.getElem?_eq_getElem (by omega)]
    rfl
   rw [e]
   congr 1
   generalize ms[j] = a
   generalize ms.getD (j - 1) false = b at hn ⊢
   generalize ms.getD (j + 1) false = d at hn ⊢
   by_cases z : cs.getD j 0 = sh
   ·have hn' : ¬ ((!b && !d) = true):=fun y=>hn ⟨z,y⟩
    cases b with
    | true=>simp
    | false=>
     cases d with
     | true=>simp
     | false=>exact absurd rfl hn'
   ·rw [decide_eq_false z]
    simp
  ·rfl
theorem zlk {sh : Nat} {cs : List Nat} {ms : List Bool} (hl : cs.length = ms.length) {k : Nat} (h : k < cs.length) (hp : 1≤k∧cs.getD k 0 = sh∧zdl ms k = true) : mixM sh cs ms (k + 1) = (mixM sh cs ms k).set k true:=by
 apply List.ext_getElem?
 intro j
 rw [List.getElem?_set,zfp hl,zck hl,zck hl]
 by_cases c : k = j
 ·subst c
  rw [if_pos rfl,if_pos h,if_pos (by omega),zdw hl h]
  obtain ⟨p1,p2,p3⟩:=hp
  unfold zdl at p3
  simp only [Bool.and_eq_true,Bool.not_eq_true'] at p3
  rw [p2,p3.1,p3.2,decide_eq_true p1]
  simp
 ·rw [if_neg c]
  by_cases c2 : j < k
  ·rw [if_pos c2,if_pos (by omega)]
  ·rw [if_neg c2,if_neg (by omega)]
theorem zmM (T : Txt K mg) (D_marks : DF K mg "marks" zgf zd7) (F_labels : FC P w K mg base 3 "labels" zc9 (ziQ K)) (F_colours : FC P w K mg base 3 "colours" zcz (zg2 K)) (F_neighbours : FC P w K mg base 1 "neighbours" zbd (spNb K)) : FC P w K mg base 5 "marks" zd7 (zkL K):=by
 refine D_marks.ok sc_marks (fun vs H Q E h=>?_) (fun f cdv A outer s H vs Q E hr h=>?_)
 ·obtain ⟨a,ws,es,rfl,_⟩:=h
  rfl
 obtain ⟨a,ws,es,rfl,ha,hw,hz,he,hri,q⟩:=h
 refine ⟨_,(zaf (zap (i:=1) sc_marks.nd rfl (Or.inl rfl) (zas F_colours hr (zaa (zas F_labels hr (zaa (pv 0) zad)) zad)))
   (zaf (zdM (i:=2) (N:=["tint"]) (own:=1) (cap:=[]) sc_marks.nd rfl rfl rfl (zb2 (pv 1)) ⟨rfl,rfl,rfl,rfl,rfl,rfl⟩ (fun _ _ _ _ _=>(zao (i:=0) (show List.Nodup (["tint"] : List Str) by decide +kernel) rfl (Or.inl rfl))) (fun _ _ _ _ _=>zbk) (fun _ _ _ _ _=>zgr))
   (zaf (zbv PassesOwn.never rfl (zdF (zbL (zaa zae (zaa zae (zaa zae zad))))) (zao (i:=3) sc_marks.nd rfl (Or.inl rfl)) (zah (zbv PassesOwn.never rfl (zfl rfl T.m_range (zaa zae (zaa (zau zat rfl T.m_len boot_len (zaa (pv 1) zad)) zad))) (zao (i:=4) sc_marks.nd rfl (Or.inl rfl)) (zah (zcy (PW.pt (zhd (zav zfo (zaA zaE (pv 1) (pv 4) (fun _ _=>rfl)) (pv 3) (zaF _)) (zfh (zav zez zgr (zas F_neighbours hr (zaa (pv 2) (zaa (pv 4) zad))) (by with_unfolding_all rfl))))) (zah (zi2 zgr (zi3 (pv 2) (pv 4) zeP))) za5)))))
   (zah (zar (pv 2)))))),?_⟩
 refine ⟨_,rfl,a,ws,es,rfl,SqL.of ha,hw,hz,he,hri,fun p H3 hp s3 h3=>?_⟩
 refine ⟨p,_,rfl,SqL.of h3,zic he hri,zhv he hri,by rw [zcb,zaQ]; exact hz,fun c H4 hc s4 h4=>?_⟩
 have cu : Unl (colL (zc1 5 (zcF es))):=znq (zjv (unlZ (zic he hri)))
 have cl : (colL (zc1 5 (zcF es))).length = es.length:=by rw [zfz,zcb,zaQ]
 have fin : zb4 es = mkN (colL (zc1 5 (zcF es))) 3:=(zli _).symm
 generalize colL (zc1 5 (zcF es)) = cs at h4 cu cl fin
 have s04:=s3.trans s4
 refine ⟨_,rfl,c,rfl,⟨_,SqL.of h4⟩,fun F hF=>?_⟩
 refine zcE (xs:=cs.map nV) (fun i σ H5=>∃ x0 : Option V,σ = [x0]∧H5 F = some (.lst ((List.replicate i false).map V.bl))∧But F H4 H5) ?_ ?_ ?_ ?_
 ·exact ⟨_,rfl,zac,fun b o n e=>by rw [zag n]; exact e⟩
 ·rintro i σ H5 _ ⟨x0,rfl,_,k5⟩
  exact k5.sq (SqL.of h4) hF
 ·rintro i m x σ H5 hx hm ⟨x0,rfl,h5,k5⟩
  have hi:=(List.getElem?_eq_some_iff.mp hx).1
  rw [List.length_map] at hi hm
  refine zcZ ?_
  refine ⟨_,h5,zam (by rw [List.length_map,List.length_replicate]; omega),m - 1,by omega,by rw [List.length_map]; omega,_,rfl,?_,fun b o n e=>by rw [zag n]; exact k5 b o n e⟩
  rw [zac,List.replicate_succ',List.map_append]
  rfl
 rintro σ H5 ⟨x0,rfl,h5,k5⟩
 have s45 : Same H4 H5:=fun b o e=>k5 b o (zab e hF) e
 have h5c:=s45 _ _ h4
 have nFc : c≠F:=zab h4 hF
 have hF0 : H F = none:=s04.free hF
 have k05 : But F H H5:=fun b o _ e=>s45 _ _ (s04 _ _ e)
 have e5 : H5 F = some (.lst ((mkN cs 0).map V.bl)):=by
  rw [h5,mkN,List.length_map,show List.replicate cs.length false = cs.map (fun _=>false) from by rw [List.map_const']]
 refine ⟨(by show 3≤sizeLine; decide),fun t ht=>?_⟩
 have st:=zaj ht (.tup [V.int 2,V.int 1,V.int 0])
 refine ⟨t,rfl,⟨_,SqT.of zac⟩,?_⟩
 refine zil (xs:=[V.int 2,V.int 1,V.int 0]) (fun i σ H6=>∃ (x3 x4 : Option V),σ = [some (.ref a),some (.ref c),some (.ref F),x3,x4]∧H6 F = some (.lst ((mkN cs i).map V.bl))∧H6 c = some (.lst (cs.map nV))∧H6 t = some (.tup [V.int 2,V.int 1,V.int 0])∧But F H H6) ?_ ?_ ?_ ?_
 ·exact ⟨_,_,rfl,st _ _ e5,st _ _ h5c,zac,k05.new ht _⟩
 ·rintro i σ H6 _ ⟨x3,x4,rfl,_,_,h6t,_⟩
  exact SqT.of h6t
 ·rintro i x σ H6 hx ⟨x3,x4,rfl,h6,h6c,h6t,k6⟩
  obtain ⟨hi,rfl⟩ : i < 3∧x = V.int ((2 - i : Nat) : Int):=by
   rcases i with _ | _ | _ | i
   ·exact ⟨by decide,(Option.some.inj hx).symm⟩
   ·exact ⟨by decide,(Option.some.inj hx).symm⟩
   ·exact ⟨by decide,(Option.some.inj hx).symm⟩
   ·cases hx
  have hml:=zjW cs i
  have hnx : mkN cs (i + 1) = zb3 (2 - i) cs (mkN cs i):=rfl
  rw [hnx]
  generalize mkN cs i = ms at h6 hml ⊢
  generalize 2 - i = sh
  refine ⟨_,rfl,_,_,rfl,.inl (SqL.of h6c),1,_,rfl,⟨by omega,by omega,by rw [List.length_map]; omega,by rw [List.length_map]; omega⟩,?_⟩
  have en : ((((cs.map nV).length : Nat) : Int) - 1).toNat = cs.length - 1:=by rw [List.length_map]; omega
  rw [en]
  have km : ∀ k,(mixM sh cs ms k).length = cs.length:=zfp hml
  refine zbO (n:=cs.length - 1) (fun j σ H7=>∃ (x4 : Option V),σ = [some (.ref a),some (.ref c),some (.ref F),some (.int sh),x4]∧H7 F = some (.lst ((mixM sh cs ms (1 + j)).map V.bl))∧H7 c = some (.lst (cs.map nV))∧H7 t = some (.tup [V.int 2,V.int 1,V.int 0])∧But F H H7) ?_ ?_ ?_
  ·exact ⟨_,rfl,by rw [zmX hml]; exact h6,h6c,h6t,k6⟩
  ·rintro j σ H7 hj ⟨x4,rfl,h7,h7c,h7t,k7⟩
   have ek : (1 : Int) + (j : Int) = ((1 + j : Nat) : Int):=by omega
   have hk1 : 1≤1 + j:=by omega
   have hkl : 1 + j < cs.length:=by omega
   rw [ek]
   have es1 : 1 + (j + 1) = 1 + j + 1:=by omega
   rw [es1]
   generalize 1 + j = k at h7 hk1 hkl ⊢
   have hat:=zjz (xs:=cs) hkl
   have mc : cs.getD k 0 = sh→zdl (mixM sh cs ms k) k = zdl ms k:=fun z=>zh6 cu hml hkl hk1 z
   refine ⟨_,rfl,_,rfl,_,_,_,_,rfl,rfl,SqL.of h7c,hat,_,rfl,rfl,_,rfl,?_⟩
   refine ite2 (fun e=>?_) (fun e=>?_)
   ·have e' : cs.getD k 0 = sh:=by
     have:=V.int.inj (of_decide_eq_true e)
     omega
    refine ⟨_,rfl,_,rfl,F,_,k,rfl,h7,fun b H8 hb sb hbb=>?_⟩
    rw [besV_bl] at hbb
    have kb : But F H H8:=fun x o n e=>sb _ _ (k7 x o n e)
    refine ⟨_,_,rfl,.inl (SqL.of hbb),rfl,flat_bl _,_,rfl,?_⟩
    show if (!inV (.bl true) ((besB (mixM sh cs ms k) k).map V.bl)) = true then _ else _
    rw [zm8,znl hk1,mc e',Bool.not_not]
    refine ite2 (fun y=>?_) (fun y=>?_)
    ·refine ⟨_,rfl,_,rfl,_,_,_,k,rfl,rfl,sb _ _ h7,zlE (by rw [List.length_map,km]; exact hkl),?_⟩
     have same : ∀ b o,b≠F→H8 b = some o→upd H8 F (.lst (((mixM sh cs ms k).map V.bl).set k (.bl true))) b = some o:=fun b o n e=>by
      rw [zag n]
      exact e
     refine ⟨_,rfl,?_,same _ _ (fun z=>?_) (sb _ _ h7c),same _ _ (Ne.symm (zdH (sb _ _ h7) (sb _ _ h7t))) (sb _ _ h7t),fun b o n e=>same _ _ n (kb b o n e)⟩
     ·rw [zac,zlk hml hkl ⟨hk1,e',y⟩,List.map_set]
     ·exact nFc z
    ·exact ⟨_,rfl,by rw [zf0 hml hkl (fun z=>y z.2)]; exact sb _ _ h7,sb _ _ h7c,sb _ _ h7t,kb⟩
   ·have e' : cs.getD k 0≠sh:=fun z=>e (by rw [z]; exact decide_eq_true rfl)
    refine iteF ?_
    exact ⟨_,rfl,by rw [zf0 hml hkl (fun z=>e' z.1)]; exact h7,h7c,h7t,k7⟩
  ·rintro σ H7 ⟨x4,rfl,h7,h7c,h7t,k7⟩
   rw [zmY hml (by omega)] at h7
   exact ⟨_,_,rfl,h7,h7c,h7t,k7⟩
 ·rintro σ H6 ⟨x3,x4,rfl,h6,_,_,k6⟩
  refine ⟨_,rfl,?_⟩
  refine q F H6 hF0 (fun b o e=>k6 b o (zab e hF0) e) ?_
  rw [fin]
  exact h6
theorem znc {α : Type} : zcS ([] : List α) [] = []:=rfl
theorem get_bl {ms : List Bool} {i : Nat} {x : V} (h : (ms.map V.bl)[i]? = some x) : ∃ hi : i < ms.length,x = .bl ms[i]:=by
 rw [List.getElem?_map] at h
 cases e : ms[i]? with
 | none=>rw [e] at h; cases h
 | some y=>
  rw [e] at h
  obtain ⟨hi,rfl⟩:=List.getElem?_eq_some_iff.mp e
  exact ⟨hi,(Option.some.inj h).symm⟩
theorem zdU {α : Type} {l : List α} {i : Nat} (h : i < l.length) : l.take (i + 1) = l.take i ++ [l[i]]:=List.take_succ_eq_append_getElem h
theorem zlf (T : Txt K mg) (D_handed : DF K mg "handed" zeY zdd) (F_marks : FC P w K mg base 5 "marks" zd7 (zkL K)) : FC P w K mg base 6 "handed" zdd (ziS K):=by
 refine D_handed.ok sc_handed (fun vs H Q E h=>?_) (fun f cdv A outer s H vs Q E hr h=>?_)
 ·obtain ⟨a,ws,es,rfl,_⟩:=h
  rfl
 obtain ⟨a,ws,es,rfl,ha,hw,hz,he,hri,q⟩:=h
 have hwl:=hw.length
 have hml:=zbe es
 refine ⟨_,(zah (zar (zbf (N:=["entry","mark"]) (own:=2) (cap:=[]) rfl (znI rfl T.m_zip (zaa (pv 0) (zaa (zas F_marks hr (zaa (pv 0) zad)) zad))) ⟨rfl,rfl,rfl,rfl,rfl,rfl⟩ (fun _ _ _ _ _=>(zk1 (K:=K) (n:=2) rfl (zaT (zao (i:=0) (show List.Nodup (["entry","mark"] : List Str) by decide +kernel) rfl (Or.inl rfl)) (zaT (zao (i:=1) (show List.Nodup (["entry","mark"] : List Str) by decide +kernel) rfl (Or.inl rfl)) zdf)))) (fun _ _ _ _ _=>(zc5 (zhe (pv 1)))) (fun _ _ _ _ _=>(pv 0))))),?_⟩
 refine ⟨_,rfl,_,rfl,a,ws,es,rfl,ha,hw,hz,he,hri,fun u H6 hu g6 h6u=>?_⟩
 have h6p:=g6 _ _ ha
 generalize zb4 es = ms at hml h6u q
 refine ⟨a,u,rfl,⟨_,SqL.of h6p⟩,⟨_,SqL.of h6u⟩,fun D hD=>?_⟩
 refine znh (xs:=ws) (ys:=ms.map V.bl) (by rw [List.length_map,hml]; exact hwl.symm) (fun j σ H7=>∃ x0 x1 : Option V,σ = [x0,x1]∧H7 D = some (.lst (zcS (ws.take j) (ms.take j)))∧But D H6 H7) ?_ ?_ ?_ ?_
 ·exact ⟨_,_,rfl,by rw [List.take_zero,List.take_zero,znc]; exact zac,fun b o n e=>by rw [zag n]; exact e⟩
 ·rintro j σ H7 _ ⟨x0,x1,rfl,_,k7⟩
  exact ⟨k7.sq (SqL.of h6p) hD,k7.sq (SqL.of h6u) hD⟩
 ·rintro j m' x y σ H7 r' hx hy hm' ⟨x0,x1,rfl,h7,k7⟩ hr'
  obtain ⟨hj,rfl⟩:=get_bl hy
  obtain ⟨hjw,rfl⟩:=List.getElem?_eq_some_iff.mp hx
  have hsn:=zhx (a:=ws[j]) (b:=ms[j]) (show (ws.take j).length = (ms.take j).length by rw [List.length_take,List.length_take]; omega)
  rw [← zdU hjw,← zdU hj] at hsn
  refine ⟨r',_,rfl,SqT.of zac,rfl,_,_,rfl,_,_,rfl,rfl,?_⟩
  have s7:=zaj hr' (.tup [ws[j],.bl ms[j]])
  have h8:=s7 _ _ h7
  have k8:=k7.new hr' (.tup [ws[j],.bl ms[j]])
  generalize upd H7 r' (.tup [ws[j],.bl ms[j]]) = H8 at h8 k8 ⊢
  refine ⟨_,rfl,_,rfl,?_⟩
  have hl8:=zii (ws.take j) (ms.take j)
  rw [List.length_take] at hl8
  refine ite2 (fun e=>?_) (fun e=>?_)
  ·refine ⟨_,rfl,_,h8,zam (by omega),m' - 1,by omega,by omega,_,_,rfl,?_,fun b o n e=>by rw [zag n]; exact k8 b o n e⟩
   rw [zac,hsn,if_pos e]
  ·refine ⟨m' - 1,by omega,by omega,_,_,rfl,?_,k8⟩
   rw [h8,hsn,if_neg e,List.append_nil]
 ·rintro σ H7 ⟨x0,x1,rfl,h7,k7⟩
  rw [List.take_of_length_le (Nat.le_refl _),List.take_of_length_le (by omega)] at h7
  have s7 : Same H6 H7:=fun b o e=>k7 b o (zab e hD) e
  exact q D H7 (g6.free hD) (g6.trans s7) h7
theorem zbD {K : PySem.W.Frag} {H : Hp} {q : Addr} {zs : List V} {o : HO} (hq : H q = some (.lst zs)) : ∀ {es : List (Int×Int)} {ws : List V},zak K H es ws→zak K (upd H q o) es ws
 | _,_,.nil=>.nil
 | _,_,.cons h t=>by
  refine .cons ?_ (zbD hq t)
  obtain ⟨a,x1,x2,rfl,hT,e1,e2⟩:=(show hasP K H _ _ from h)
  exact ⟨a,x1,x2,rfl,by rw [zag (ne_of hT hq (by intro z; cases z))]; exact hT,e1,e2⟩
def Own (K : PySem.W.Frag) (H : Hp) : List Addr→List (List (Int×Int))→Prop:=Paired fun q l=>∃ ws,H q = some (.lst ws)∧zak K H l ws
section
variable {K : PySem.W.Frag} {H H' : Hp}
theorem Own.length {qs : List Addr} {ls : List (List (Int×Int))} (h : Own K H qs ls) : qs.length = ls.length:=Paired.length h
theorem Own.ext (e : Ext H H') : ∀ {qs : List Addr} {ls : List (List (Int×Int))},Own K H qs ls→Own K H' qs ls
 | _,_,.nil=>.nil
 | _,_,.cons ⟨ws,h1,h2⟩ t=>.cons ⟨ws,e _ _ h1 (fun _ z=>nomatch z),zak.mono e h2⟩ (Own.ext e t)
theorem Own.all : ∀ {qs : List Addr} {ls : List (List (Int×Int))},Own K H qs ls→zak K H ls (qs.map V.ref)
 | _,_,.nil=>.nil
 | _,_,.cons ⟨ws,h1,h2⟩ t=>.cons ⟨_,ws,rfl,SqL.of h1,h2⟩ (Own.all t)
theorem Own.has {qs : List Addr} {ls : List (List (Int×Int))} {p : Addr} (h : Own K H qs ls) (hp : H p = some (.lst (qs.map V.ref))) : Rep.has K H ls (.ref p):=⟨p,_,rfl,SqL.of hp,h.all⟩
theorem Own.get : ∀ {qs : List Addr} {ls : List (List (Int×Int))} {i : Nat} {x : V},Own K H qs ls→(qs.map V.ref)[i]? = some x→∃ q l ws,qs[i]? = some q∧x = .ref q∧ls[i]? = some l∧H q = some (.lst ws)∧zak K H l ws
 | _,_,_,_,.nil,e=>by simp at e
 | _,_,0,_,.cons ⟨ws,h1,h2⟩ _,e=>by
  simp at e
  exact ⟨_,_,ws,rfl,e.symm,rfl,h1,h2⟩
 | _,_,i + 1,x,.cons _ t,e=>by
  obtain ⟨q,l,ws,h1,h2,h3,h4,h5⟩:=Own.get (i:=i) (x:=x) t (by simpa using e)
  exact ⟨q,l,ws,by simpa using h1,h2,by simpa using h3,h4,h5⟩
theorem Own.append : ∀ {qs qs' : List Addr} {ls ls' : List (List (Int×Int))},Own K H qs ls→Own K H qs' ls'→Own K H (qs ++ qs') (ls ++ ls')
 | _,_,_,_,.nil,s=>s
 | _,_,_,_,.cons r t,s=>.cons r (Own.append t s)
theorem Own.rev : ∀ {qs : List Addr} {ls : List (List (Int×Int))},Own K H qs ls→Own K H qs.reverse ls.reverse
 | _,_,.nil=>.nil
 | _,_,.cons r t=>by
  rw [List.reverse_cons,List.reverse_cons]
  exact Own.append (Own.rev t) (.cons r .nil)
theorem Own.other {q : Addr} {o : HO} {zs : List V} (hq : H q = some (.lst zs)) : ∀ {qs : List Addr} {ls : List (List (Int×Int))},Own K H qs ls→q∉qs→Own K (upd H q o) qs ls
 | _,_,.nil,_=>.nil
 | _,_,.cons ⟨ws,h1,h2⟩ t,hn=>by
  rw [List.mem_cons,not_or] at hn
  exact .cons ⟨ws,by rw [zag (Ne.symm hn.1)]; exact h1,zbD hq h2⟩ (Own.other hq t hn.2)
theorem Own.put {e : Int×Int} {x : V} (hx : Rep.has K H e x) : ∀ {qs : List Addr} {ls : List (List (Int×Int))} {i : Nat} {q : Addr} {ws : List V},Own K H qs ls→qs.Nodup→qs[i]? = some q→H q = some (.lst ws)→
  ∃ ls',Own K (upd H q (.lst (ws ++ [x]))) qs ls'∧ls'.length = ls.length∧ls'.flatten.length = ls.flatten.length + 1
 | _,_,_,_,_,.nil,_,e,_=>by simp at e
 | q' :: qs,l :: ls,0,q,ws,.cons ⟨ws',h1,h2⟩ t,hn,e,hq=>by
  have e : q' = q:=by simpa using e
  subst e
  rw [h1] at hq
  cases hq
  rw [List.nodup_cons] at hn
  refine ⟨(l ++ [_]) :: ls,.cons ⟨_,zac,(zbD h1 h2).append (zbD h1 (.one hx))⟩ (Own.other h1 t hn.1),rfl,?_⟩
  rw [List.flatten_cons,List.flatten_cons,List.length_append,List.length_append,List.length_append,List.length_singleton]
  omega
 | q' :: qs,l :: ls,i + 1,q,ws,.cons ⟨ws',h1,h2⟩ t,hn,e,hq=>by
  have e : qs[i]? = some q:=by simpa using e
  rw [List.nodup_cons] at hn
  obtain ⟨ls',g1,g2,g3⟩:=Own.put hx t hn.2 e hq
  have hne : q'≠q:=fun z=>hn.1 (by rw [z]; exact List.mem_of_getElem? e)
  refine ⟨l :: ls',.cons ⟨ws',by rw [zag hne]; exact h1,zbD hq h2⟩ g1,by rw [List.length_cons,List.length_cons,g2],?_⟩
  rw [List.flatten_cons,List.flatten_cons,List.length_append,List.length_append,g3]
  omega
end
theorem zhA {ls : List (List (Int×Int))} {i : Nat} {l : List (Int×Int)} (h : ls[i]? = some l) : (ls.take (i + 1)).flatten = (ls.take i).flatten ++ l:=by
 have hi:=(List.getElem?_eq_some_iff.mp h).1
 rw [List.take_succ_eq_append_getElem hi,List.flatten_append,(List.getElem?_eq_some_iff.mp h).2]
 simp
theorem flat_le {ls : List (List (Int×Int))} (i : Nat) : (ls.take i).flatten.length≤ls.flatten.length:=by
 have e : ls.flatten = (ls.take i).flatten ++ (ls.drop i).flatten:=by rw [← List.flatten_append,List.take_append_drop]
 rw [e,List.length_append]
 omega
def znz (K : PySem.W.Frag) : Sp:=fun vs H Q _=>∃ (a : Addr) (qs : List Addr) (ls : List (List (Int×Int))),vs = [.ref a]∧H a = some (.lst (qs.map V.ref))∧Own K H qs ls∧ls.flatten.length≤63∧
 ∀ (p : Addr) (ws : List V) (H' : Hp),H p = none→Same H H'→H' p = some (.lst ws)→zak K H' (zdB ls.flatten) ws→Q (.ref p) H'
theorem zle (T : Txt K mg) (D_joined_up : DF K mg "joined_up" zcL zbI) : FC P w K mg base 1 "joined_up" zbI (znz K):=by
 refine D_joined_up.ok sc_joined_up (fun vs H Q E h=>?_) (fun f cdv A outer s H vs Q E hr h=>?_)
 ·obtain ⟨a,qs,ls,rfl,_⟩:=h
  rfl
 obtain ⟨a,qs,ls,rfl,ha,ho,hz,q⟩:=h
 have hll:=ho.length
 refine ⟨_,(zaf (zap (i:=1) sc_joined_up.nd rfl (Or.inl rfl) (zbR zad))
   (zaf (zbv PassesOwn.never rfl (zb2 (pv 0)) (zao (i:=2) sc_joined_up.nd rfl (Or.inl rfl)) (zah (zbz (zeM F.plainAttrs_list F.slot_list_extend F.type_list_extend zlh (pv 1) (zaa (pv 2) zad)))))
   (zah (zar (zau (zeK (Int×Int)) rfl T.m_sorted boot_sorted (zaa (pv 1) zad)))))),?_⟩
 refine ⟨(by show 0≤sizeLine; decide),fun t ht=>?_⟩
 have k0 : But t H (upd H t (.lst [])):=fun b o n e=>by rw [zag n]; exact e
 refine ⟨_,rfl,a,rfl,⟨_,SqL.of (k0 _ _ (zab ha ht) ha)⟩,?_⟩
 refine zgG (xs:=qs.map V.ref) (fun i σ H2=>∃ (zs : List V) (x2 : Option V),σ = [some (.ref a),some (.ref t),x2]∧H2 t = some (.lst zs)∧zak K H2 (ls.take i).flatten zs∧But t H H2∧Own K H2 qs ls) ?_ ?_ ?_ ?_
 ·exact ⟨[],_,rfl,zac,.nil,k0,ho.ext (zaj ht _).ext⟩
 ·rintro i σ H2 _ ⟨zs,x2,rfl,h2,_,k2,_⟩
  exact SqL.of (k2 _ _ (zab ha ht) ha)
 ·rintro i x σ H2 hx ⟨zs,x2,rfl,h2,hw,k2,o2⟩
  obtain ⟨g,l,ws,e1,rfl,e3,e4,e5⟩:=o2.get hx
  have hlen : zs.length + ws.length≤1000:=by
   have z1:=hw.length
   have z2:=e5.length
   have z3:=flat_le (ls:=ls) (i + 1)
   rw [zhA e3,List.length_append] at z3
   omega
  have hgo : ∀ b∈qs,b≠t:=fun b hb z=>by
   obtain ⟨j,hj,rfl⟩:=List.getElem_of_mem hb
   obtain ⟨_,_,ws0,f1,f2,_,f4,_⟩:=ho.get (i:=j) (x:=.ref qs[j]) (by rw [List.getElem?_map,List.getElem?_eq_getElem hj]; rfl)
   cases f2
   rw [z,ht] at f4
   cases f4
  refine ⟨_,rfl,.inl ⟨rfl,_,SqL.of h2⟩,_,rfl,t,g,zs,ws,rfl,rfl,h2,e4,Nat.le_of_lt (zam hlen),?_⟩
  refine ⟨_,_,rfl,zac,?_,fun b o n e=>by rw [zag n]; exact k2 b o n e,o2.other h2 (fun z=>hgo t z rfl)⟩
  rw [zhA e3]
  exact (zbD h2 hw).append (zbD h2 e5)
 ·rintro σ H2 ⟨zs,x2,rfl,h2,hw,k2,o2⟩
  rw [List.take_of_length_le (by rw [List.length_map]; omega)] at hw
  refine ⟨_,rfl,t,zs,_,rfl,SqL.of h2,hw,by omega,fun l ws hl hs=>?_⟩
  have e2:=zaj hl (.lst ws)
  have s2 : Same H H2:=fun b o e=>k2 b o (zab e ht) e
  exact q l ws _ (s2.free hl) (s2.trans e2) zac (zak.mono e2.ext hs)
def zcI (ps : List Nat) : List V:=.non :: ps.map nV
def parV (ps : List Nat) (k : Nat) : V:=match par ps k with
 | none=>.non
 | some p=>nV p
theorem zaw (ps : List Nat) : (zcI ps).length = ps.length + 1:=by
 unfold zcI
 rw [List.length_cons,List.length_map]
theorem ziy {ps : List Nat} {k : Nat} (h : k < ps.length + 1) : atI (zcI ps) (k : Int) = some (parV ps k):=by
 refine zaX ?_
 unfold zcI parV
 cases k with
 | zero=>rfl
 | succ k=>
  show (ps.map nV)[k]? = some (match ps[k]? with | none=>_ | some p=>nV p)
  rw [List.getElem?_map,List.getElem?_eq_getElem (show k < ps.length by omega)]
  rfl
theorem zfn {ps : List Nat} {k p : Nat} (h : par ps k = some p) : parV ps k = nV p:=by
 unfold parV
 rw [h]
theorem zhj {ps : List Nat} {k : Nat} (h : par ps k = none) : parV ps k = .non:=by
 unfold parV
 rw [h]
theorem zgs {ps : List Nat} {k m : Nat} : parV ps k = .int (m : Int)↔par ps k = some m:=by
 cases e : par ps k with
 | none=>
  rw [zhj e]
  exact ⟨(fun z=>nomatch z),(fun z=>nomatch z)⟩
 | some p=>
  rw [zfn e]
  constructor
  ·intro z
   have:=Int.ofNat.inj (V.int.inj z)
   rw [this]
  ·intro z
   rw [Option.some.inj z]
theorem zg5 (ps : List Nat) (k : Nat) (i : Int) : scal (parV ps k) (.int i) = true:=by
 cases e : par ps k with
 | none=>rw [zhj e]; rfl
 | some p=>rw [zfn e]; rfl
theorem But.new' {p b : Addr} {H H2 : Hp} (k : But p H H2) (hb : H2 b = none) (o : HO) : But p H (upd H2 b o):=fun x o' n e=>(zaj hb o) x o' (k x o' n e)
def znu (K : PySem.W.Frag) : Sp:=fun vs H Q _=>∃ (d L : Addr) (m : Int),vs = [.ref d,.int m]∧(0 < m∧m≤40)∧LS K L d H∧
 ∀ (t : Addr) (ps : List Nat) (H' : Hp),H t = none→zaB ps→(ps.length : Int) < m→H' t = some (.tup (zcI ps))→Keep d H H'→LS K L d H'→Q (.ref t) H'
theorem zku {ps : List Nat} {u : Nat} (T : zaB ps) (h : u≤ps.length) : zaB (ps ++ [u]):=by
 intro i hi
 rw [List.length_append,List.length_singleton] at hi
 by_cases c : i < ps.length
 ·rw [List.getElem_append_left c]
  exact T i c
 ·have : i = ps.length:=by omega
  subst this
  rw [List.getElem_append_right (Nat.le_refl _)]
  simp
  exact h
theorem zmN (T : Txt K mg) (D_l_tree : DF K mg "_law_tree" zeU zda) (F_l_take : FC P w K mg base 2 "_law_take" za9 (zey K)) : FC P w K mg base 3 "_law_tree" zda (znu K):=by
 refine D_l_tree.ok sc_l_tree (fun vs H Q E h=>?_) (fun f cdv A outer s H vs Q E hr h=>?_)
 ·obtain ⟨d,L,m,rfl,_⟩:=h
  rfl
 obtain ⟨d,L,m,rfl,⟨hm0,hm1⟩,hs,q⟩:=h
 refine ⟨_,(zaf (zap (i:=2) sc_l_tree.nd rfl (Or.inl rfl) (zas F_l_take hr (zaa (pv 0) (zaa zae zad))))
   (zaf (zap (i:=3) sc_l_tree.nd rfl (Or.inl rfl) (zbR (zaa pe_non zad)))
   (zaf (zbv PassesOwn.never rfl (zfl rfl T.m_range (zaa zae (zaa (zaq za6 zae (zas F_l_take hr (zaa (pv 0) (zaa (pv 1) zad)))) zad))) (zao (i:=4) sc_l_tree.nd rfl (Or.inl rfl)) (zah (zbz (zeM F.plainAttrs_list F.slot_list_append F.type_list_append za3 (pv 3) (zaa (zaA zaE (zbR (zaa (zaq zbM (pv 4) zae) (zaa zae (zaa (zas F_l_take hr (zaa (pv 0) (zaa (pv 4) zad))) (zaa (zau (zhI rfl) rfl T.m_max boot_max (zaa zae (zaa (zaq zbM (zaq zbM (pv 4) zae) (zas F_l_take hr (zaa (pv 0) (zaa zae zad)))) zad))) zad))))) (pv 2) (fun _ _=>rfl)) zad)))))
   (zah (zar (zaO zaK rfl T.m_tuple boot_tuple (zaa (pv 3) zad))))))),?_⟩
 refine ⟨_,rfl,d,L,4,rfl,by decide,hs,fun w1 H1 w0 w4 k1 s1=>?_⟩
 refine ⟨(by show 1≤sizeLine; decide),fun p hp=>?_⟩
 have g0:=zaj hp (.lst [V.non])
 have hpd : p≠d:=by
  obtain ⟨ns,a,l,e,_⟩:=s1.ex
  exact Ne.symm (zab e hp)
 have hp0 : H p = none:=by
  cases e : H p with
  | none=>rfl
  | some o=>
   have:=k1 p o hpd e
   rw [hp] at this
   cases this
 refine ⟨_,rfl,_,rfl,d,L,m,rfl,⟨hm0,by omega⟩,s1.same g0,fun n H2 n0 n1 k2 s2=>⟨_,_,rfl,rfl,1,_,rfl,⟨by omega,by omega,by omega,by omega⟩,?_⟩⟩
 have en : ((1 : Int) + n - 1).toNat = n.toNat:=by omega
 rw [en]
 refine zbO (n:=n.toNat) (fun i σ H3=>∃ (ps : List Nat) (x4 : Option V),σ = [some (.ref d),some (.int m),some (.int w1),some (.ref p),x4]∧H3 p = some (.lst (zcI ps))∧ps.length = i∧zaB ps∧(∀ b o,b≠d→b≠p→H b = some o→H3 b = some o)∧LS K L d H3) ?_ ?_ ?_
 ·exact ⟨[],_,rfl,k2 p _ hpd zac,rfl,fun i hi=>absurd hi (by simp),fun b o n1 n2 e=>k2 b o n1 (g0 b o (k1 b o n1 e)),s2⟩
 ·rintro i σ H3 hi ⟨ps,x4,rfl,h3,rfl,hT,k3,s3⟩
  have ek : (1 : Int) + ((ps.length : Nat) : Int) = ((ps.length + 1 : Nat) : Int):=by omega
  rw [ek]
  refine ⟨_,rfl,.inl ⟨rfl,_,SqL.of h3⟩,?_⟩
  refine ⟨_,rfl,_,_,rfl,rfl,_,rfl,_,rfl,d,L,_,rfl,⟨by omega,by omega⟩,s3,fun v1 H4 v10 v11 k4 s4=>?_⟩
  refine ⟨_,rfl,_,_,rfl,rfl,_,rfl,d,L,2,rfl,by decide,s4,fun v2 H5 v20 v21 k5 s5=>⟨_,_,rfl,rfl,_,_,rfl,(by show 4≤sizeLine; decide),fun l hl=>?_⟩⟩
  have h4:=k4 p _ hpd h3
  have h5:=k5 p _ hpd h4
  obtain ⟨u,hat,hu⟩ : ∃ u : Nat,atI [V.int (((ps.length + 1 : Nat) : Int) - 1),V.int 0,V.int v1,V.int (if ((ps.length + 1 : Nat) : Int) - 1 - v2 > 0 then ((ps.length + 1 : Nat) : Int) - 1 - v2 else 0)] w1 = some (nV u)∧u≤ps.length:=by
   have z : w1 = 0∨w1 = 1∨w1 = 2∨w1 = 3:=by omega
   rcases z with rfl | rfl | rfl | rfl
   ·refine ⟨ps.length,?_,Nat.le_refl _⟩
    rw [show ((ps.length + 1 : Nat) : Int) - 1 = ((ps.length : Nat) : Int) by omega]
    rfl
   ·exact ⟨0,rfl,Nat.zero_le _⟩
   ·obtain ⟨u,rfl⟩:=zfZ v10
    exact ⟨u,rfl,by omega⟩
   ·refine ⟨(if ((ps.length + 1 : Nat) : Int) - 1 - v2 > 0 then ((ps.length + 1 : Nat) : Int) - 1 - v2 else 0).toNat,?_,?_⟩
    ·show some (V.int _) = some (V.int _)
     rw [Int.toNat_of_nonneg (by split <;> omega)]
    ·split <;> omega
  refine ⟨_,rfl,_,_,_,_,rfl,rfl,SqL.of zac,hat,_,_,_,rfl,rfl,by rw [zag (zab h5 hl)]; exact h5,zam (by rw [zaw]; omega),?_⟩
  refine ⟨ps ++ [u],_,rfl,?_,by rw [List.length_append,List.length_singleton],zku hT hu,fun b o n1 n2 e=>?_,?_⟩
  ·rw [zac]
   unfold zcI
   rw [List.map_append]
   rfl
  ·rw [zag n2]
   have e5:=k5 b o n1 (k4 b o n1 (k3 b o n1 n2 e))
   exact (zaj hl _) _ _ e5
  ·exact LS.put hs hp0 (fun b o n1 n2 e=>(zaj hl _) _ _ (k5 b o n1 (k4 b o n1 (k3 b o n1 n2 e)))) (s5.of_new hl _)
 ·rintro σ H3 ⟨ps,x4,rfl,h3,hl,hT,k3,s3⟩
  refine ⟨_,rfl,p,_,rfl,.inl ⟨SqL.of h3,fun t ht=>?_⟩⟩
  have sn:=zaj ht (.tup (zcI ps))
  have htp : t≠p:=Ne.symm (zab h3 ht)
  have ht0 : H t = none:=by
   cases e : H t with
   | none=>rfl
   | some o=>
    have htd : t≠d:=by
     obtain ⟨ns,a,l,e,_⟩:=s3.ex
     exact Ne.symm (zab e ht)
    have:=k3 t o htd htp e
    rw [ht] at this
    cases this
  exact q t ps _ ht0 hT (by omega) zac (fun b o n e=>sn _ _ (k3 b o n (zab e hp0) e)) (s3.of_new ht _)
def zcr (K : PySem.W.Frag) : Sp:=fun vs H Q _=>∃ (t : Addr) (ps : List Nat) (k : Nat),vs = [.ref t,.int k]∧H t = some (.tup (zcI ps))∧ps.length≤900∧
 ∀ (p : Addr) (H' : Hp),H p = none→Same H H'→H' p = some (.lst ((zaL ps k (ps.length + 1)).map nV))→Q (.ref p) H'
theorem zh5 (T : Txt K mg) (D_children : DF K mg "children" zdu zbA) : FC P w K mg base 1 "children" zbA (zcr K):=by
 refine D_children.ok sc_children (fun vs H Q E h=>?_) (fun f cdv A outer s H vs Q E hr h=>?_)
 ·obtain ⟨t,ps,k,rfl,_⟩:=h
  rfl
 obtain ⟨t,ps,k,rfl,ht,hz,q⟩:=h
 refine ⟨_,(zah (zar (zbf (N:=["other","tree","knot"]) (own:=1) (cap:=[0,1]) rfl (zbK rfl T.m_range (zaa (zau zat rfl T.m_len boot_len (zaa (pv 0) zad)) zad)) ⟨rfl,rfl,rfl,rfl,rfl,rfl⟩ (fun _ _ _ _ _=>(zao (i:=0) (show List.Nodup (["other","tree","knot"] : List Str) by decide +kernel) rfl (Or.inl rfl))) (fun _ _ _ _ _=>(zc5 (zav zfo (zaA (zfs (K:=K)) (pv 1) (pv 0) (fun _ _=>rfl)) (pv 2) (zaF _)))) (fun _ _ _ _ _=>(pv 0))))),?_⟩
 refine ⟨_,rfl,_,_,rfl,.inr (SqT.of ht),_,rfl,by omega,by rw [zaw]; omega,fun D hD=>?_⟩
 have el : ((((zcI ps).length : Nat) : Int)).toNat = ps.length + 1:=by rw [zaw,Int.toNat_natCast]
 rw [el]
 refine zep (n:=ps.length + 1) (fun j σ H3=>∃ x0 : Option V,σ = [x0,some (.ref t),some (.int k)]∧H3 D = some (.lst ((zaL ps k j).map nV))∧But D H H3) ?_ ?_ ?_
 ·exact ⟨_,rfl,zac,fun b o n e=>by rw [zag n]; exact e⟩
 ·rintro j m σ H3 hm hj ⟨x0,rfl,h3,k3⟩
  rw [Int.zero_add]
  have h3t:=k3 _ _ (zab ht hD) ht
  have hlen:=zcG ps k j
  refine ⟨_,rfl,_,rfl,_,_,_,_,rfl,rfl,SqT.of h3t,ziy hj,_,rfl,zg5 _ _ _,_,rfl,?_⟩
  refine ite2 (fun c=>?_) (fun c=>?_)
  ·have c' : par ps j = some k:=zgs.mp (of_decide_eq_true c)
   refine ⟨_,rfl,_,h3,zam (by rw [List.length_map]; omega),m - 1,by omega,by omega,_,rfl,?_,fun b o n e=>by rw [zag n]; exact k3 b o n e⟩
   rw [zac,zcU,if_pos c',List.map_append]
   rfl
  ·have c' : ¬ par ps j = some k:=fun z=>c (decide_eq_true (zgs.mpr z))
   refine ⟨m - 1,by omega,by omega,_,rfl,?_,k3⟩
   rw [h3,zcU,if_neg c',List.append_nil]
 ·rintro σ H3 ⟨x0,rfl,h3,k3⟩
  exact q D H3 hD (fun b o e=>k3 b o (zab e hD) e) h3
def zg3 (K : PySem.W.Frag) : Sp:=fun vs H Q _=>∃ (t : Addr) (ps : List Nat) (k : Nat),vs = [.ref t,.int k]∧H t = some (.tup (zcI ps))∧zaB ps∧k < ps.length + 1∧ps.length≤900∧
 ∀ (p : Addr) (H' : Hp),H p = none→Same H H'→H' p = some (.lst ((benL ps k (ps.length + 1)).map nV))→Q (.ref p) H'
theorem zjV (T : Txt K mg) (D_beneath : DF K mg "beneath" zd3 zcB) : FC P w K mg base 1 "beneath" zcB (zg3 K):=by
 refine D_beneath.ok sc_beneath (fun vs H Q E h=>?_) (fun f cdv A outer s H vs Q E hr h=>?_)
 ·obtain ⟨t,ps,k,rfl,_⟩:=h
  rfl
 obtain ⟨t,ps,k,rfl,ht,hT,hk,hz,q⟩:=h
 refine ⟨_,(zaf (zap (i:=2) sc_beneath.nd rfl (Or.inl rfl) (zbR (zaa (pv 1) zad)))
   (zaf (zbv PassesOwn.never rfl (zfl rfl T.m_range (zaa (zaq za6 (pv 1) zae) (zaa (zau zat rfl T.m_len boot_len (zaa (pv 0) zad)) zad))) (zao (i:=3) sc_beneath.nd rfl (Or.inl rfl)) (zah (zcy (zav zk5 (zaA zaM (pv 0) (pv 3) (fun _ _=>rfl)) (pv 2) (by with_unfolding_all rfl)) (zah (zbz (zeM F.plainAttrs_list F.slot_list_append F.type_list_append za3 (pv 2) (zaa (pv 3) zad)))) za5)))
   (zah (zar (pv 2))))),?_⟩
 refine ⟨_,rfl,(by show 1≤sizeLine; decide),fun p hp=>?_⟩
 have k0 : But p H (upd H p (.lst [.int (k : Int)])):=fun b o n e=>by rw [zag n]; exact e
 have ntp : t≠p:=zab ht hp
 refine ⟨_,rfl,_,_,rfl,rfl,_,rfl,_,_,rfl,.inr (SqT.of (k0 _ _ ntp ht)),_,_,rfl,⟨by omega,by omega,by omega,by rw [zaw]; omega⟩,?_⟩
 have en : ((((zcI ps).length : Nat) : Int) - ((k : Int) + 1)).toNat = ps.length - k:=by rw [zaw]; omega
 rw [en]
 refine zbO (n:=ps.length - k) (fun i σ H3=>∃ x3 : Option V,σ = [some (.ref t),some (.int k),some (.ref p),x3]∧H3 p = some (.lst ((benL ps k (k + 1 + i)).map nV))∧But p H H3) ?_ ?_ ?_
 ·refine ⟨_,rfl,?_,k0⟩
  rw [zac,Nat.add_zero,znm hT]
  rfl
 ·rintro i σ H3 hi ⟨x3,rfl,h3,k3⟩
  have ek : (k : Int) + 1 + (i : Int) = ((k + 1 + i : Nat) : Int):=by omega
  rw [ek]
  have hj : k + 1 + i < ps.length + 1:=by omega
  have hj1 : 1≤k + 1 + i:=by omega
  have hjk : k + 1 + i≠k:=by omega
  have ei : k + 1 + (i + 1) = k + 1 + i + 1:=by omega
  rw [ei]
  generalize k + 1 + i = j at h3 hj hj1 hjk ⊢
  obtain ⟨u,hu⟩:=zi6 hj1 hj
  have h3t:=k3 _ _ ntp ht
  have hat:=ziy hj
  rw [zfn hu] at hat
  have hlen:=zjy ps k j
  refine ⟨_,rfl,_,rfl,_,_,_,_,rfl,rfl,SqT.of h3t,hat,_,rfl,_,_,rfl,.inl (SqL.of h3),rfl,zlQ _,_,rfl,?_⟩
  show if inV (.int (u : Int)) ((benL ps k j).map nV) = true then _ else _
  rw [znP]
  have hB : isB ps k j = isB ps k u:=zbE hT hjk hu
  have hult:=(zaV hT hu).1
  refine ite2 (fun c=>?_) (fun c=>?_)
  ·have c' : isB ps k u = true:=(zbU.mp (of_decide_eq_true c)).2
   refine ⟨_,rfl,.inl ⟨rfl,_,SqL.of h3⟩,_,rfl,_,_,_,rfl,rfl,h3,zam (by rw [List.length_map]; omega),?_⟩
   refine ⟨_,rfl,?_,fun b o n e=>by rw [zag n]; exact k3 b o n e⟩
   rw [zac,zhN,hB,if_pos c',List.map_append]
   rfl
  ·have c' : ¬ isB ps k u = true:=fun z=>c (decide_eq_true (zbU.mpr ⟨hult,z⟩))
   refine ⟨_,rfl,?_,k3⟩
   rw [h3,zhN,hB,if_neg c',List.append_nil]
 ·rintro σ H3 ⟨x3,rfl,h3,k3⟩
  refine ⟨_,rfl,?_⟩
  rw [show k + 1 + (ps.length - k) = ps.length + 1 by omega] at h3
  exact q p H3 hp (fun b o e=>k3 b o (zab e hp) e) h3
def zbN (es : List (Int×Int)) : List (Int×Int):=zcS es (zb4 es)
def zaJ (rows : List (List Int)) (k : Nat) : List Int:=rows.getD k []
def ownE (rows : List (List Int)) (k : Nat) : List (Int×Int):=(zaJ rows k).map fun x=>(x,(k : Int))
def zj5 (ps : List Nat) (rows : List (List Int)) : Nat→Nat→List (Int×Int)
 | 0,_=>[]
 | f + 1,k=>zdB (((zaL ps k (ps.length + 1)).map fun c=>zbN (zj5 ps rows f c)).flatten ++ ownE rows k)
theorem zf5 {ps : List Nat} (T : zaB ps) {rows : List (List Int)} : ∀ f g k,k < ps.length + 1→ps.length + 1 - k≤f→ps.length + 1 - k≤g→zj5 ps rows f k = zj5 ps rows g k
 | 0,_,k,hk,h,_=>by omega
 | _,0,k,hk,_,h=>by omega
 | f + 1,g + 1,k,hk,hf,hg=>by
  unfold zj5
  congr 3
  refine List.map_congr_left fun c hc=>?_
  have h:=zaz.mp hc
  have:=zaV T h.2
  show zbN _ = zbN _
  rw [zf5 T f g c h.1 (by omega) (by omega)]
def zal (ps : List Nat) (rows : List (List Int)) (k : Nat) : List (Int×Int):=zj5 ps rows (ps.length + 1 - k) k
def zdG (ps : List Nat) (rows : List (List Int)) (k : Nat) : List (List (Int×Int)):=((zaL ps k (ps.length + 1)).map fun c=>zbN (zal ps rows c)) ++ [ownE rows k]
theorem zcl {ps : List Nat} (T : zaB ps) {rows : List (List Int)} {k : Nat} (hk : k < ps.length + 1) : zal ps rows k = zdB (zdG ps rows k).flatten:=by
 unfold zal zdG
 obtain ⟨f,hf⟩ : ∃ f,ps.length + 1 - k = f + 1:=⟨ps.length - k,by omega⟩
 rw [hf,zj5,List.flatten_append,List.flatten_singleton]
 congr 3
 refine List.map_congr_left fun c hc=>?_
 have h:=zaz.mp hc
 have:=zaV T h.2
 show zbN _ = zbN _
 rw [zf5 T f (ps.length + 1 - c) c h.1 (by omega) (by omega)]
 rfl
structure zaH (rows : List (List Int)) : Prop where
 up : ∀ row∈rows,row.Pairwise (· < ·)
 key : ∀ row∈rows,∀ x∈row,-(10 ^ 60) < x∧x < 10 ^ 60
theorem zaH.at_up {rows : List (List Int)} (R : zaH rows) (k : Nat) : (zaJ rows k).Pairwise (· < ·):=by
 unfold zaJ
 rw [List.getD_eq_getElem?_getD]
 cases e : rows[k]? with
 | none=>exact .nil
 | some row=>exact R.up row (List.mem_of_getElem? e)
theorem zaH.at_key {rows : List (List Int)} (R : zaH rows) (k : Nat) : ∀ x∈zaJ rows k,-(10 ^ 60) < x∧x < 10 ^ 60:=by
 unfold zaJ
 rw [List.getD_eq_getElem?_getD]
 cases e : rows[k]? with
 | none=>exact fun x hx=>nomatch hx
 | some row=>exact R.key row (List.mem_of_getElem? e)
theorem zhy {α : Type} : ∀ (es : List α) (ms : List Bool),(zcS es ms).Sublist es
 | [],_=>by
  unfold zcS
  exact List.Sublist.refl _
 | e :: es,[]=>by
  unfold zcS
  exact List.nil_sublist _
 | e :: es,m :: ms=>by
  have ih:=zhy es ms
  unfold zcS at ih ⊢
  cases m with
  | false=>exact List.Sublist.cons e ih
  | true=>exact List.Sublist.cons₂ e ih
theorem zbb (es : List (Int×Int)) : (zbN es).Sublist es:=zhy _ _
def Of (ps : List Nat) (rows : List (List Int)) (k : Nat) (e : Int×Int) : Prop:=∃ j,j < ps.length + 1∧isB ps k j = true∧e.2 = (j : Int)∧e.1∈zaJ rows j
theorem zjb {ps : List Nat} {rows : List (List Int)} {k : Nat} (hk : k < ps.length + 1) {e : Int×Int} (h : e∈ownE rows k) : Of ps rows k e∧e.2 = (k : Int):=by
 obtain ⟨x,hx,rfl⟩:=List.mem_map.mp h
 exact ⟨⟨k,hk,zcR,rfl,hx⟩,rfl⟩
theorem zk4 {rows : List (List Int)} (R : zaH rows) (k : Nat) : (ownE rows k).Nodup:=by
 unfold ownE
 rw [List.nodup_iff_pairwise_ne,List.pairwise_map]
 exact List.Pairwise.imp (fun {a b} (h : a < b) z=>by
  have:=congrArg Prod.fst z
  have : a = b:=this
  omega) (R.at_up k)
theorem ze5 {ps : List Nat} (T : zaB ps) {rows : List (List Int)} (R : zaH rows) : ∀ (m k : Nat),ps.length + 1 - k≤m→k < ps.length + 1→(∀ e∈zal ps rows k,Of ps rows k e)∧(zdG ps rows k).flatten.Nodup
 | 0,k,hm,hk=>by omega
 | m + 1,k,hm,hk=>by
  have ih : ∀ c,par ps c = some k→(∀ e∈zal ps rows c,Of ps rows c e)∧(zal ps rows c).Nodup:=fun c hc=>by
   have:=zaV T hc
   have q:=ze5 T R m c (by omega) this.2
   refine ⟨q.1,?_⟩
   rw [zcl T this.2]
   exact (zbV _).nodup_iff.mpr q.2
  have up : ∀ {c : Nat} {e : Int×Int},par ps c = some k→Of ps rows c e→Of ps rows k e:=fun {c e} hc h=>by
   obtain ⟨j,h1,h2,h3,h4⟩:=h
   exact ⟨j,h1,(zei T j j (Nat.le_refl _) h1).mpr (.inr ⟨c,hc,h2⟩),h3,h4⟩
  refine ⟨fun e he=>?_,?_⟩
  ·rw [zcl T hk,zfe] at he
   obtain ⟨l,hl,he⟩:=List.mem_flatten.mp he
   rcases List.mem_append.mp hl with q | q
   ·obtain ⟨c,hc,rfl⟩:=List.mem_map.mp q
    have hp:=(zaz.mp hc).2
    exact up hp ((ih c hp).1 e ((zbb _).mem he))
   ·rw [List.mem_singleton.mp q] at he
    exact (zjb hk he).1
  ·show List.Pairwise _ _
   unfold zdG
   rw [List.pairwise_flatten]
   refine ⟨fun l hl=>?_,?_⟩
   ·rcases List.mem_append.mp hl with q | q
    ·obtain ⟨c,hc,rfl⟩:=List.mem_map.mp q
     exact (ih c (zaz.mp hc).2).2.sublist (zbb _)
    ·rw [List.mem_singleton.mp q]
     exact zk4 R k
   ·rw [List.pairwise_append]
    refine ⟨?_,List.pairwise_singleton _ _,?_⟩
    ·rw [List.pairwise_map]
     refine List.Pairwise.imp_of_mem (fun {c d} hc hd hcd=>?_) (zhH ps k _)
     intro x hx y hy z
     subst z
     have pc:=(zaz.mp hc).2
     have pd:=(zaz.mp hd).2
     obtain ⟨j,_,h2,h3,_⟩:=(ih c pc).1 x ((zbb _).mem hx)
     obtain ⟨i,_,g2,g3,_⟩:=(ih d pd).1 x ((zbb _).mem hy)
     have : j = i:=by omega
     subst this
     exact zej T pc pd (Nat.ne_of_lt hcd) j j (Nat.le_refl _) h2 g2
    ·intro l hl l' hl' x hx y hy z
     subst z
     obtain ⟨c,hc,rfl⟩:=List.mem_map.mp hl
     rw [List.mem_singleton.mp hl'] at hy
     have pc:=(zaz.mp hc).2
     obtain ⟨j,_,h2,h3,_⟩:=(ih c pc).1 x ((zbb _).mem hx)
     have h4:=(zjb hk hy).2
     have : j = k:=by omega
     subst this
     rw [zeG T (zaV T pc).1] at h2
     cases h2
theorem ze6 {ps : List Nat} (T : zaB ps) {rows : List (List Int)} (R : zaH rows) {k : Nat} (hk : k < ps.length + 1) : ∀ e∈zal ps rows k,Of ps rows k e:=(ze5 T R _ k (Nat.le_refl _) hk).1
theorem zfu {ps : List Nat} (T : zaB ps) {rows : List (List Int)} (R : zaH rows) {k : Nat} (hk : k < ps.length + 1) : (zal ps rows k).Nodup:=by
 rw [zcl T hk]
 exact (zbV _).nodup_iff.mpr (ze5 T R _ k (Nat.le_refl _) hk).2
theorem zaW {ps : List Nat} (T : zaB ps) {rows : List (List Int)} (R : zaH rows) {k : Nat} (hk : k < ps.length + 1) : Rise (zal ps rows k):=by
 rw [zcl T hk]
 exact zfV (ze5 T R _ k (Nat.le_refl _) hk).2
theorem zfv {ps : List Nat} (T : zaB ps) {rows : List (List Int)} (R : zaH rows) (hz : ps.length≤40) {k : Nat} (hk : k < ps.length + 1) : ∀ e∈zal ps rows k,zdC 64 e:=fun e he=>by
 obtain ⟨j,h1,h2,h3,h4⟩:=ze6 T R hk e he
 have:=R.at_key j _ h4
 exact ⟨this.1,this.2,by omega,by omega⟩
def wtR (ps : List Nat) (rows : List (List Int)) (k : Nat) : Nat:=((benL ps k (ps.length + 1)).map fun j=>(zaJ rows j).length).sum
def wtF (ps : List Nat) (rows : List (List Int)) (k : Nat) : Nat:=((benL ps k (ps.length + 1)).map fun j=>(zal ps rows j).length).sum
theorem zms {l m : List Nat} (h : l.Perm m) : l.sum = m.sum:=by
 induction h with
 | nil=>rfl
 | cons x _ ih=>rw [List.sum_cons,List.sum_cons,ih]
 | swap x y l=>rw [List.sum_cons,List.sum_cons,List.sum_cons,List.sum_cons]; omega
 | trans _ _ h1 h2=>rw [h1,h2]
theorem ziJ (f : Nat→Nat) : ∀ (ls : List (List Nat)),(ls.flatten.map f).sum = (ls.map fun l=>(l.map f).sum).sum
 | []=>rfl
 | l :: ls=>by
  rw [List.flatten_cons,List.map_append,List.sum_append,ziJ f ls,List.map_cons,List.sum_cons]
theorem zkk {ps : List Nat} (T : zaB ps) (f : Nat→Nat) {k : Nat} (hk : k < ps.length + 1) : ((benL ps k (ps.length + 1)).map f).sum = f k + ((zaL ps k (ps.length + 1)).map fun c=>((benL ps c (ps.length + 1)).map f).sum).sum:=by
 have h:=zms ((zjM T hk).map f)
 rw [List.map_cons,List.sum_cons,ziJ,List.map_map] at h
 exact h.symm
theorem zns {f g : Nat→Nat} : ∀ {l : List Nat},(∀ x∈l,f x≤g x)→(l.map f).sum≤(l.map g).sum
 | [],_=>Nat.le_refl _
 | x :: l,h=>by
  rw [List.map_cons,List.sum_cons,List.map_cons,List.sum_cons]
  have h1:=h x List.mem_cons_self
  have h2:=zns (f:=f) (g:=g) (l:=l) fun y hy=>h y (List.mem_cons_of_mem _ hy)
  omega
theorem zje {α : Type} : ∀ (ls : List (List α)),ls.flatten.length = (ls.map List.length).sum
 | []=>rfl
 | l :: ls=>by
  rw [List.flatten_cons,List.length_append,zje ls,List.map_cons,List.sum_cons]
theorem zlO {ps : List Nat} (T : zaB ps) {rows : List (List Int)} {k : Nat} (hk : k < ps.length + 1) : (zal ps rows k).length = (zaJ rows k).length + ((zaL ps k (ps.length + 1)).map fun c=>(zbN (zal ps rows c)).length).sum:=by
 rw [zcl T hk,zc3]
 unfold zdG
 rw [List.flatten_append,List.length_append,List.flatten_singleton,zje,List.map_map]
 unfold ownE
 rw [List.length_map,Nat.add_comm]
 rfl
theorem zf4 {ps : List Nat} (T : zaB ps) {rows : List (List Int)} : ∀ (m k : Nat),ps.length + 1 - k≤m→k < ps.length + 1→(zal ps rows k).length≤wtR ps rows k
 | 0,k,hm,hk=>by omega
 | m + 1,k,hm,hk=>by
  unfold wtR
  rw [zlO T hk,zkk T _ hk]
  refine Nat.add_le_add_left (zns fun c hc=>?_) _
  have h:=zaz.mp hc
  have:=zaV T h.2
  exact Nat.le_trans (zbb _).length_le (zf4 T m c (by omega) h.1)
theorem zfT (f : Nat→Nat) (P : Nat→Bool) : ∀ (l : List Nat),((l.filter P).map f).sum≤(l.map f).sum
 | []=>Nat.le_refl _
 | x :: l=>by
  have ih:=zfT f P l
  rw [List.map_cons,List.sum_cons]
  by_cases h : P x = true
  ·rw [List.filter_cons_of_pos h,List.map_cons,List.sum_cons]
   omega
  ·rw [List.filter_cons_of_neg h]
   omega
def zb7 (rows : List (List Int)) : Nat:=(rows.map List.length).sum
theorem zkB (rows : List (List Int)) : ((List.range rows.length).map fun j=>(zaJ rows j).length).sum = zb7 rows:=by
 unfold zb7
 congr 1
 apply List.ext_getElem?
 intro i
 rw [List.getElem?_map,List.getElem?_map]
 by_cases h : i < rows.length
 ·rw [List.getElem?_range h,List.getElem?_eq_getElem h]
  show some (zaJ rows i).length = some rows[i].length
  unfold zaJ
  rw [List.getD_eq_getElem?_getD,List.getElem?_eq_getElem h]
  rfl
 ·rw [List.getElem?_eq_none (by rw [List.length_range]; omega),List.getElem?_eq_none (by omega)]
  rfl
theorem znp {ps : List Nat} {rows : List (List Int)} (hl : rows.length = ps.length + 1) (k : Nat) : wtR ps rows k≤zb7 rows:=by
 unfold wtR benL
 refine Nat.le_trans (zfT _ _ _) ?_
 rw [← hl,zkB]
 exact Nat.le_refl _
theorem zgF {ps : List Nat} (T : zaB ps) {rows : List (List Int)} (hl : rows.length = ps.length + 1) {k : Nat} (hk : k < ps.length + 1) : (zal ps rows k).length≤zb7 rows:=Nat.le_trans (zf4 T _ k (Nat.le_refl _) hk) (znp hl k)
def zaC (H : Hp) (as : List Addr) (rows : List (List Int)) : Prop:=Paired (fun a row=>H a = some (.tup (row.map V.int))) as rows
theorem zaC.ext {H H' : Hp} (e : ∀ b o,H b = some o→H' b = some o) : ∀ {as : List Addr} {rows : List (List Int)},zaC H as rows→zaC H' as rows
 | _,_,.nil=>.nil
 | _,_,.cons h t=>.cons (e _ _ h) (zaC.ext e t)
theorem zaC.keep {d p : Addr} {H H' : Hp} (hd : ∀ a row,H a = some (.tup row)→a≠d) (e : ∀ b o,b≠d→H b = some o→H' b = some o) : ∀ {as : List Addr} {rows : List (List Int)},zaC H as rows→zaC H' as rows
 | _,_,.nil=>.nil
 | _,_,.cons h t=>.cons (e _ _ (hd _ _ h) h) (zaC.keep (p:=p) hd e t)
theorem zaC.length {H : Hp} {as : List Addr} {rows : List (List Int)} (h : zaC H as rows) : as.length = rows.length:=Paired.length h
theorem zaC.get {H : Hp} : ∀ {as : List Addr} {rows : List (List Int)} {k : Nat},zaC H as rows→k < rows.length→∃ a,as[k]? = some a∧H a = some (.tup ((zaJ rows k).map V.int))
 | _,_,_,.nil,hk=>by simp at hk
 | a :: as,row :: rows,0,.cons h t,_=>⟨a,rfl,h⟩
 | a :: as,row :: rows,k + 1,.cons h t,hk=>by
  obtain ⟨b,h1,h2⟩:=zaC.get (k:=k) t (by simpa using hk)
  refine ⟨b,by rw [List.getElem?_cons_succ]; exact h1,?_⟩
  have : zaJ (row :: rows) (k + 1) = zaJ rows k:=by
   unfold zaJ
   rw [List.getD_eq_getElem?_getD,List.getD_eq_getElem?_getD,List.getElem?_cons_succ]
  rw [this]
  exact h2
theorem zaC.snoc {H : Hp} {a : Addr} {row : List Int} : ∀ {as : List Addr} {rows : List (List Int)},zaC H as rows→H a = some (.tup (row.map V.int))→zaC H (as ++ [a]) (rows ++ [row])
 | _,_,.nil,h=>.cons h .nil
 | _,_,.cons h t,h2=>.cons h (zaC.snoc t h2)
structure zaY (H : Hp) (st : Addr) (ps : List Nat) (rows : List (List Int)) (t rs : Addr) (as : List Addr) : Prop where
 st : H st = some (.tup [.ref t,.ref rs])
 tr : H t = some (.tup (zcI ps))
 rs : H rs = some (.tup (as.map V.ref))
 at_ : zaC H as rows
 len : rows.length = ps.length + 1
 T : zaB ps
 R : zaH rows
 few : ps.length≤40
 keys : zb7 rows≤63
theorem zaY.same {H H' : Hp} {st t rs : Addr} {ps : List Nat} {rows : List (List Int)} {as : List Addr} (S : zaY H st ps rows t rs as) (e : Same H H') : zaY H' st ps rows t rs as:=
 ⟨e _ _ S.st,e _ _ S.tr,e _ _ S.rs,S.at_.ext e,S.len,S.T,S.R,S.few,S.keys⟩
theorem zf9 {as : List Addr} {k : Nat} {a : Addr} (h : as[k]? = some a) : atI (as.map V.ref) (k : Int) = some (.ref a):=zaX (by rw [List.getElem?_map,h]; rfl)
theorem zho {α : Type} {l : List α} (h : l.Nodup) : l.reverse.Nodup:=(List.reverse_perm l).nodup_iff.mpr h
def zfI (K : PySem.W.Frag) (H : Hp) (ps : List Nat) (rows : List (List Int)) (j : Nat) (q : Addr) : Prop:=∃ ws,H q = some (.lst ws)∧zak K H (zal ps rows j) ws
def zay (K : PySem.W.Frag) (H : Hp) (ps : List Nat) (rows : List (List Int)) : List Nat→List Addr→Prop:=Paired (zfI K H ps rows)
theorem zfI.same {K : PySem.W.Frag} {H H' : Hp} {ps : List Nat} {rows : List (List Int)} {j : Nat} {q : Addr} (h : zfI K H ps rows j q) (e : Same H H') : zfI K H' ps rows j q:=by
 obtain ⟨ws,h1,h2⟩:=h
 exact ⟨ws,e _ _ h1,h2.mono e.ext⟩
theorem zay.same {K : PySem.W.Frag} {H H' : Hp} {ps : List Nat} {rows : List (List Int)} (e : Same H H') : ∀ {js : List Nat} {qs : List Addr},zay K H ps rows js qs→zay K H' ps rows js qs
 | _,_,.nil=>.nil
 | _,_,.cons h t=>.cons (zfI.same h e) (zay.same e t)
theorem zay.ext {K : PySem.W.Frag} {H H' : Hp} {ps : List Nat} {rows : List (List Int)} (e : Ext H H') : ∀ {js : List Nat} {qs : List Addr},zay K H ps rows js qs→zay K H' ps rows js qs
 | _,_,.nil=>.nil
 | _,_,.cons h t=>by
  obtain ⟨ws,a1,a2⟩:=h
  exact .cons ⟨ws,e _ _ a1 (fun _ z=>nomatch z),a2.mono e⟩ (zay.ext e t)
theorem zay.length {K : PySem.W.Frag} {H : Hp} {ps : List Nat} {rows : List (List Int)} {js : List Nat} {qs : List Addr} (h : zay K H ps rows js qs) : js.length = qs.length:=Paired.length h
theorem zay.snoc {K : PySem.W.Frag} {H : Hp} {ps : List Nat} {rows : List (List Int)} {j : Nat} {q : Addr} : ∀ {js : List Nat} {qs : List Addr},zay K H ps rows js qs→zfI K H ps rows j q→zay K H ps rows (js ++ [j]) (qs ++ [q])
 | _,_,.nil,h=>.cons h .nil
 | _,_,.cons h t,h2=>.cons h (zay.snoc t h2)
theorem zay.get {K : PySem.W.Frag} {H : Hp} {ps : List Nat} {rows : List (List Int)} : ∀ {js : List Nat} {qs : List Addr} {i j : Nat},zay K H ps rows js qs→js[i]? = some j→∃ q,qs[i]? = some q∧zfI K H ps rows j q
 | _,_,i,j,.nil,h=>by simp at h
 | _ :: _,q :: _,0,j,.cons h t,e=>by
  have:=Option.some.inj (show some _ = some j from e)
  subst this
  exact ⟨q,rfl,h⟩
 | _ :: _,_ :: _,i + 1,j,.cons h t,e=>by
  obtain ⟨q,h1,h2⟩:=zay.get (i:=i) t (by simpa using e)
  exact ⟨q,by simpa using h1,h2⟩
theorem zay.rev {K : PySem.W.Frag} {H : Hp} {ps : List Nat} {rows : List (List Int)} : ∀ {js : List Nat} {qs : List Addr},zay K H ps rows js qs→zay K H ps rows js.reverse qs.reverse
 | _,_,.nil=>.nil
 | j :: js,q :: qs,.cons h t=>by
  rw [List.reverse_cons,List.reverse_cons]
  exact zay.snoc (zay.rev t) h
theorem zay.alloc {K : PySem.W.Frag} {H : Hp} {ps : List Nat} {rows : List (List Int)} : ∀ {js : List Nat} {qs : List Addr},zay K H ps rows js qs→∀ q∈qs,∃ ws,H q = some (.lst ws)
 | _,_,.nil=>fun q hq=>nomatch hq
 | _ :: _,_ :: _,.cons h t=>fun q hq=>by
  rcases List.mem_cons.mp hq with e | e
  ·obtain ⟨ws,h1,_⟩:=h
   exact ⟨ws,e ▸ h1⟩
  ·exact zay.alloc t q e
abbrev kN (j : Nat) : Key:=Sum.inl (j : Int)
def zdj : List Nat→List Addr→List (Key×V)
 | j :: js,q :: qs=>(kN j,.ref q) :: zdj js qs
 | _,_=>[]
theorem zji {j : Nat} : ∀ {js : List Nat} {qs : List Addr},j∉js→valV (zdj js qs) (kN j) = none
 | [],_,_=>rfl
 | _ :: _,[],_=>rfl
 | i :: js,q :: qs,h=>by
  have h1 : ¬ kN i = kN j:=fun z=>h (by
   have:=Int.ofNat.inj (Sum.inl.inj z)
   rw [this]
   exact List.mem_cons_self)
  show valV ((kN i,V.ref q) :: zdj js qs) (kN j) = none
  rw [zbi h1]
  exact zji fun z=>h (List.mem_cons_of_mem _ z)
theorem zid {j : Nat} {q : Addr} : ∀ {js : List Nat} {qs : List Addr} {i : Nat},js.Nodup→js[i]? = some j→qs[i]? = some q→valV (zdj js qs) (kN j) = some (.ref q)
 | [],_,_,_,h,_=>by simp at h
 | _ :: _,[],_,_,_,h=>by simp at h
 | a :: js,b :: qs,0,_,h1,h2=>by
  have:=Option.some.inj (show some a = some j from h1)
  subst this
  have:=Option.some.inj (show some b = some q from h2)
  subst this
  exact zca (p:=(kN a,V.ref b)) rfl
 | a :: js,b :: qs,i + 1,hn,h1,h2=>by
  have g1 : js[i]? = some j:=by simpa using h1
  have hne : ¬ kN a = kN j:=fun z=>by
   have e:=Int.ofNat.inj (Sum.inl.inj z)
   exact (List.nodup_cons.mp hn).1 (e ▸ List.mem_of_getElem? g1)
  show valV ((kN a,V.ref b) :: zdj js qs) (kN j) = _
  rw [zbi hne]
  exact zid (List.nodup_cons.mp hn).2 g1 (by simpa using h2)
theorem zjh {j : Nat} {q : Addr} : ∀ {js : List Nat} {qs : List Addr},js.length = qs.length→zdj (js ++ [j]) (qs ++ [q]) = zdj js qs ++ [(kN j,.ref q)]
 | [],[],_=>rfl
 | [],_ :: _,h=>by cases h
 | _ :: _,[],h=>by cases h
 | a :: js,b :: qs,h=>by
  show (kN a,V.ref b) :: zdj (js ++ [j]) (qs ++ [q]) = (kN a,V.ref b) :: (zdj js qs ++ [(kN j,V.ref q)])
  rw [zjh (Nat.succ.inj h)]
theorem zoG {j : Nat} {q : Addr} {js : List Nat} {qs : List Addr} (hl : js.length = qs.length) (h : j∉js) : putK (zdj js qs) (kN j) (.ref q) = zdj (js ++ [j]) (qs ++ [q]):=by
 rw [zd6 _ (zji h),zjh hl]
theorem zlu : ∀ {js : List Nat} {qs : List Addr},js.length = qs.length→(zdj js qs).length = js.length
 | [],[],_=>rfl
 | [],_ :: _,h=>by cases h
 | _ :: _,[],h=>by cases h
 | a :: js,b :: qs,h=>by
  show (zdj js qs).length + 1 = js.length + 1
  rw [zlu (Nat.succ.inj h)]
theorem znn {l : List Nat} (h : l.Pairwise (· > ·)) {i j c : Nat} (hj : l[i]? = some j) (hc : c∈l) (hcj : j < c) : c∈l.take i:=by
 obtain ⟨u,hu,rfl⟩:=List.getElem_of_mem hc
 obtain ⟨hi,rfl⟩:=List.getElem?_eq_some_iff.mp hj
 have : u < i:=by
  refine Nat.lt_of_not_le fun z=>?_
  by_cases e : i = u
  ·subst e
   omega
  ·have:=List.pairwise_iff_getElem.mp h i u hi hu (by omega)
   omega
 rw [List.mem_iff_getElem?]
 exact ⟨u,by rw [List.getElem?_take,if_pos this,List.getElem?_eq_getElem hu]⟩
theorem zm6 {ps : List Nat} (T : zaB ps) {k j c : Nat} (h : isB ps k j = true) (hc : par ps c = some j) : isB ps k c = true:=by
 by_cases e : c = k
 ·rw [e]
  exact zcR
 ·rw [zbE T e hc]
  exact h
def spOwn (K : PySem.W.Frag) : Sp:=fun vs H Q _=>∃ (st : Addr) (ps : List Nat) (rows : List (List Int)) (t rs : Addr) (as : List Addr) (j : Nat),vs = [.ref st,.int j]∧zaY H st ps rows t rs as∧j < ps.length + 1∧
 ∀ (D : Addr) (us : List V) (H' : Hp),H D = none→Same H H'→H' D = some (.lst us)→zak K H' (ownE rows j) us→Q (.ref D) H'
theorem ok_own (T : Txt K mg) (D_own_entries : DF K mg "own_entries" zbT zbg) : FC P w K mg base 1 "own_entries" zbg (spOwn K):=by
 refine D_own_entries.ok sc_own_entries (fun vs H Q E h=>?_) (fun f cdv A outer s H vs Q E hr h=>?_)
 ·obtain ⟨st,ps,rows,t,rs,as,k,rfl,_⟩:=h
  rfl
 obtain ⟨st,ps,rows,t,rs,as,j,rfl,S4,hjn,q⟩:=h
 refine ⟨_,(zah (zar (zbf (N:=["key","knot"]) (own:=1) (cap:=[1]) rfl (zdF (zaA zaM (zaA zaM (pv 0) zae (fun _ _=>rfl)) (pv 1) (fun _ _=>rfl))) ⟨rfl,rfl,rfl,rfl,rfl,rfl⟩ (fun _ _ _ _ _=>(zao (i:=0) (show List.Nodup (["key","knot"] : List Str) by decide +kernel) rfl (Or.inl rfl))) (fun _ _ _ _ _=>zbk) (fun _ _ _ _ _=>(zbL (zaa (pv 0) (zaa (pv 1) zad))))))),?_⟩
 obtain ⟨a,ha1,ha4⟩:=S4.at_.get (k:=j) (by rw [S4.len]; exact hjn)
 have hkeys:=S4.keys
 refine ⟨_,rfl,_,_,_,_,rfl,rfl,SqT.of S4.st,rfl,_,rfl,_,_,_,_,rfl,rfl,SqT.of S4.rs,zf9 ha1,a,rfl,⟨_,SqT.of ha4⟩,fun D3 hD3=>?_⟩
 refine zcm (xs:=(zaJ rows j).map V.int) (fun m σ H5=>∃ (us : List V) (x0 : Option V),σ = [x0,some (.int j)]∧H5 D3 = some (.lst us)∧zak K H5 ((ownE rows j).take m) us∧But D3 H H5) ?_ ?_ ?_ ?_
 ·exact ⟨[],_,rfl,zac,.nil,fun b o n e=>by rw [zag n]; exact e⟩
 ·rintro m σ H5 _ ⟨us,x0,rfl,_,_,k5⟩
  exact SqT.of (k5 _ _ (zab ha4 hD3) ha4)
 ·rintro m r x σ H5 hx hm ⟨us,x0,rfl,h5,hw5,k5⟩
  rw [List.getElem?_map] at hx
  obtain ⟨y,hy,rfl⟩:=Option.map_eq_some_iff.mp hx
  have hlow:=(List.getElem?_eq_some_iff.mp hy).1
  have htk3 : (ownE rows j).take (m + 1) = (ownE rows j).take m ++ [(y,(j : Int))]:=by
   unfold ownE
   rw [← List.map_take,← List.map_take,List.take_succ_eq_append_getElem hlow,List.map_append]
   rw [(List.getElem?_eq_some_iff.mp hy).2]
   rfl
  have hul:=hw5.length
  rw [List.length_take] at hul
  rw [List.length_map] at hm
  have hrl : (zaJ rows j).length≤zb7 rows:=by
   have:=znp S4.len (k:=j) (ps:=ps)
   have e2 : wtR ps rows j = (zaJ rows j).length + _:=zkk S4.T _ hjn
   omega
  refine zcZ ?_
  refine ⟨_,rfl,_,rfl,(by show 2≤sizeLine; decide),fun u hu=>?_⟩
  have su:=zaj hu (.tup [.int y,.int (j : Int)])
  have h6:=su _ _ h5
  have hut : upd H5 u (.tup [.int y,.int (j : Int)]) u = some (.tup [.int y,.int (j : Int)]):=zac
  have k6:=k5.new' hu (.tup [.int y,.int (j : Int)])
  have hw6:=hw5.mono su.ext
  generalize upd H5 u (.tup [.int y,.int (j : Int)]) = H6 at su h6 hut k6 hw6 ⊢
  refine ⟨_,h6,zam (by omega),r - 1,by omega,by rw [List.length_map]; omega,us ++ [.ref u],_,rfl,zac,?_,fun b o n e=>by rw [zag n]; exact k6 b o n e⟩
  rw [htk3]
  exact (zbD h6 hw6).append (zbD h6 (.cons ⟨u,.int y,.int (j : Int),rfl,hut,rfl,rfl⟩ .nil))
 ·rintro σ H5 ⟨us,x0,rfl,h5,hw5,k5⟩
  rw [List.length_map,List.take_of_length_le (by unfold ownE; rw [List.length_map]; exact Nat.le_refl _)] at hw5
  exact q D3 us H5 hD3 (fun x o e=>k5 x o (zab e hD3) e) h5 hw5
def spFRB (K : PySem.W.Frag) : Sp:=fun vs H Q _=>∃ (st : Addr) (ps : List Nat) (rows : List (List Int)) (t rs : Addr) (as : List Addr) (k : Nat),vs = [.ref st,.int k]∧zaY H st ps rows t rs as∧k < ps.length + 1∧
 ∀ (D : Addr) (qs : List Addr) (H' : Hp),H D = none→Same H H'→H' D = some (.dK (zdj (benL ps k (ps.length + 1)).reverse qs))→qs.Nodup→(∀ q∈qs,H q = none)→zay K H' ps rows (benL ps k (ps.length + 1)).reverse qs→Q (.ref D) H'
theorem ok_frb (T : Txt K mg) (D_full_rows_beneath : DF K mg "full_rows_beneath" zaZ zaI) (F_beneath : FC P w K mg base 1 "beneath" zcB (zg3 K)) (F_children : FC P w K mg base 1 "children" zbA (zcr K)) (F_handed : FC P w K mg base 6 "handed" zdd (ziS K)) (F_own_entries : FC P w K mg base 1 "own_entries" zbg (spOwn K)) (F_joined_up : FC P w K mg base 1 "joined_up" zbI (znz K)) : FC P w K mg base 7 "full_rows_beneath" zaI (spFRB K):=by
 refine D_full_rows_beneath.ok sc_full_rows_beneath (fun vs H Q E h=>?_) (fun f cdv A outer s H vs Q E hr h=>?_)
 ·obtain ⟨st,ps,rows,t,rs,as,k,rfl,_⟩:=h
  rfl
 obtain ⟨st,ps,rows,t,rs,as,k,rfl,S,hk,q⟩:=h
 refine ⟨_,(zaf (zap (i:=2) sc_full_rows_beneath.nd rfl (Or.inl rfl) (zaA zaM (pv 0) zae (fun _ _=>rfl)))
   (zaf (zap (i:=3) sc_full_rows_beneath.nd rfl (Or.inr rfl) zi5)
   (zaf (zbv PassesOwn.never rfl (zh0 rfl T.m_reversed (zaa (zas F_beneath hr (zaa (pv 2) (zaa (pv 1) zad))) zad)) (zao (i:=4) sc_full_rows_beneath.nd rfl (Or.inl rfl)) (zaf (zdM (i:=5) (N:=["child","told"]) (own:=1) (cap:=[3]) sc_full_rows_beneath.nd rfl rfl rfl (zb2 (zas F_children hr (zaa (pv 2) (zaa (pv 4) zad)))) ⟨rfl,rfl,rfl,rfl,rfl,rfl⟩ (fun _ _ _ _ _=>(zao (i:=0) (show List.Nodup (["child","told"] : List Str) by decide +kernel) rfl (Or.inl rfl))) (fun _ _ _ _ _=>zbk) (fun _ _ _ _ _=>(zas F_handed hr (zaa (zdh (zdQ hr) (pv 1) (pv 0) (fun _ _=>rfl)) zad))))
   (zaf (zbz (zeM F.plainAttrs_list F.slot_list_append F.type_list_append za3 (pv 5) (zaa (zas F_own_entries hr (zaa (pv 0) (zaa (pv 4) zad))) zad)))
   (zah (zem (zdQ hr) (pv 3) (pv 4) (zas F_joined_up hr (zaa (pv 5) zad)) rfl)))))
   (zah (zar (pv 3)))))),?_⟩
 refine ⟨_,rfl,_,_,_,_,rfl,rfl,SqT.of S.st,rfl,fun D hD=>?_⟩
 have s0:=zaj hD (.dK [])
 have hD0 : upd H D (.dK []) D = some (.dK []):=zac
 generalize upd H D (.dK []) = H0 at s0 hD0 ⊢
 refine ⟨_,rfl,_,rfl,t,ps,k,rfl,s0 _ _ S.tr,S.T,hk,by have:=S.few; omega,fun b H1 hb s1 h1=>?_⟩
 refine ⟨b,_,rfl,SqL.of h1,?_⟩
 have hup:=ziw ps k (ps.length + 1)
 have hmem:=fun j=>zbU (ps:=ps) (k:=k) (n:=ps.length + 1) (j:=j)
 have hbl:=zjy ps k (ps.length + 1)
 generalize benL ps k (ps.length + 1) = bs at h1 q hup hmem hbl ⊢
 have hdn : bs.reverse.Pairwise (· > ·):=by
  rw [List.pairwise_reverse]
  exact hup
 have hnd : bs.reverse.Nodup:=List.Pairwise.imp (fun {a b} (q : a > b)=>Nat.ne_of_gt q) hdn
 refine for_rev (xs:=bs.map nV) (fun i σ H2=>∃ (qs : List Addr) (x5 x6 : Option V),σ = [some (.ref st),some (.int k),some (.ref t),some (.ref D),x5,x6]∧H2 D = some (.dK (zdj (bs.reverse.take i) qs))∧qs.Nodup∧(∀ q∈qs,H q = none)∧zay K H2 ps rows (bs.reverse.take i) qs∧H2 b = some (.lst (bs.map nV))∧But D H H2) ?_ ?_ ?_ ?_
 ·exact ⟨[],_,_,rfl,s1 _ _ hD0,List.nodup_nil,(fun q hq=>nomatch hq),.nil,h1,fun x o _ e=>s1 _ _ (s0 _ _ e)⟩
 ·rintro i σ H2 _ ⟨qs,x5,x6,rfl,_,_,_,_,h2b,_⟩
  exact SqL.of h2b
 ·rintro i x σ H2 hx ⟨qs,x5,x6,rfl,h2,hqn,hqf,hF,h2b,k2⟩
  rw [← List.map_reverse] at hx
  obtain ⟨hi,hxe⟩:=zjq hx
  have hji : bs.reverse[i]? = some (bs.reverse.getD i 0):=by
   rw [List.getD_eq_getElem?_getD,List.getElem?_eq_getElem hi]
   rfl
  subst hxe
  have htk : bs.reverse.take (i + 1) = bs.reverse.take i ++ [bs.reverse.getD i 0]:=by
   rw [List.take_succ_eq_append_getElem hi,List.getD_eq_getElem?_getD,List.getElem?_eq_getElem hi]
   rfl
  rw [htk]
  generalize bs.reverse.getD i 0 = j at hji htk ⊢
  have hjm : j∈bs:=List.mem_reverse.mp (List.mem_of_getElem? hji)
  obtain ⟨hjn,hjB⟩:=(hmem j).mp hjm
  have hjnot : j∉bs.reverse.take i:=fun z=>by
   have hnd':=hnd
   rw [← List.take_append_drop (i + 1) bs.reverse,htk] at hnd'
   have:=(List.nodup_append.mp hnd').1
   exact (List.nodup_append.mp this).2.2 j z j (List.mem_singleton.mpr rfl) rfl
  have noD : ∀ {p : Addr} {o : HO},H p = some o→p≠D:=fun {p o} e=>zab e hD
  have S2 : zaY H2 st ps rows t rs as:=⟨k2 _ _ (noD S.st) S.st,k2 _ _ (noD S.tr) S.tr,k2 _ _ (noD S.rs) S.rs,zaC.keep (p:=D) (d:=D) (fun a row e=>noD e) k2 S.at_,S.len,S.T,S.R,S.few,S.keys⟩
  have hkeys:=S.keys
  have hfew:=S.few
  refine ⟨_,rfl,_,rfl,t,ps,j,rfl,S2.tr,by omega,fun c H3 hc s3 h3=>?_⟩
  refine ⟨c,rfl,⟨_,SqL.of h3⟩,fun D2 hD2=>?_⟩
  have hcmem:=fun m=>zaz (ps:=ps) (k:=j) (n:=ps.length + 1) (j:=m)
  have hcl:=zcG ps j (ps.length + 1)
  have hparts : zdG ps rows j = ((zaL ps j (ps.length + 1)).map fun c=>zbN (zal ps rows c)) ++ [ownE rows j]:=rfl
  generalize zaL ps j (ps.length + 1) = cs at h3 hcmem hcl hparts ⊢
  have h3D:=s3 _ _ h2
  have nDD2 : D≠D2:=zab h3D hD2
  have F3 : zay K H3 ps rows (bs.reverse.take i) qs:=hF.same s3
  refine zcE (xs:=cs.map nV) (fun m σ H4=>∃ (gs : List Addr) (x0 : Option V),σ = [x0,some (.ref D)]∧H4 D2 = some (.lst (gs.map V.ref))∧Own K H4 gs ((cs.take m).map fun c=>zbN (zal ps rows c))∧D2∉gs∧But D2 H3 H4) ?_ ?_ ?_ ?_
  ·exact ⟨[],_,rfl,zac,.nil,(fun z=>nomatch z),fun b o n e=>by rw [zag n]; exact e⟩
  ·rintro m σ H4 _ ⟨gs,x0,rfl,_,_,_,k4⟩
   exact k4.sq (SqL.of h3) hD2
  ·rintro m r x σ H4 hx hm ⟨gs,x0,rfl,h4,hO,hg,k4⟩
   obtain ⟨hmi,rfl⟩:=zjq hx
   have hcm : cs[m]? = some (cs.getD m 0):=by
    rw [List.getD_eq_getElem?_getD,List.getElem?_eq_getElem hmi]
    rfl
   have htk2 : cs.take (m + 1) = cs.take m ++ [cs.getD m 0]:=by
    rw [List.take_succ_eq_append_getElem hmi,List.getD_eq_getElem?_getD,List.getElem?_eq_getElem hmi]
    rfl
   rw [htk2]
   generalize cs.getD m 0 = ch at hcm ⊢
   obtain ⟨hchn,hchp⟩:=(hcmem ch).mp (List.mem_of_getElem? hcm)
   have hlt:=(zaV S.T hchp).1
   have hin : ch∈bs.reverse.take i:=znn hdn hji (List.mem_reverse.mpr ((hmem ch).mpr ⟨hchn,zm6 S.T hjB hchp⟩)) hlt
   obtain ⟨u,hu,hue⟩:=List.getElem_of_mem hin
   have hu2 : (bs.reverse.take i)[u]? = some ch:=by rw [List.getElem?_eq_getElem hu,hue]
   obtain ⟨qq,hq1,ws,hq2,hq3⟩:=F3.get hu2
   have hnd2 : (bs.reverse.take i).Nodup:=hnd.sublist (List.take_sublist _ _)
   have hv:=zid hnd2 hu2 hq1
   have k4D:=k4 _ _ nDD2 h3D
   have hq4:=k4 _ _ (zab hq2 hD2) hq2
   have hq5 : zak K H4 (zal ps rows ch) ws:=by
    have key : ∀ {es : List (Int×Int)} {vs : List V},zak K H3 es vs→zak K H4 es vs:=by
     intro es vs hh
     induction hh with
     | nil=>exact .nil
     | cons a _ ih=>
      obtain ⟨b,x1,x2,rfl,q,e1,e2⟩:=(show hasP K H3 _ _ from a)
      exact .cons ⟨b,x1,x2,rfl,k4 _ _ (zab q hD2) q,e1,e2⟩ ih
    exact key hq3
   have hlen:=zgF S.T S.len (rows:=rows) hchn
   refine zcZ ?_
   have hdg : DGet H4 D (.int (ch : Int)) (some (.ref qq)):=by
    rw [← hv]
    exact DGet.k (k:=kN ch) k4D
   refine ⟨_,rfl,_,rfl,D,_,rfl,hdg,?_⟩
   refine ⟨qq,ws,zal ps rows ch,rfl,hq4,hq5,by omega,zfv S.T S.R hfew hchn,zaW S.T S.R hchn,fun g H5 hg5 s5 h5=>?_⟩
   have hgl:=hO.length
   rw [List.length_map,List.length_take] at hgl
   have h5D2:=s5 _ _ h4
   have ngD2 : D2≠g:=zab h4 hg5
   rw [List.length_map] at hm
   refine ⟨_,h5D2,zam (by rw [List.length_map]; omega),r - 1,by omega,by rw [List.length_map]; omega,gs ++ [g],_,rfl,?_,?_,?_,fun x o n e=>by rw [zag n]; exact s5 _ _ (k4 x o n e)⟩
   ·rw [zac,List.map_append]
    rfl
   ·rw [List.map_append]
    refine Own.other h5D2 (Own.append (hO.ext s5.ext) (.cons ⟨_,h5,?_⟩ .nil)) ?_
    ·exact zjp (hq5.mono s5.ext)
    ·intro z
     rcases List.mem_append.mp z with z | z
     ·exact hg z
     ·exact ngD2 (List.mem_singleton.mp z)
   ·intro z
    rcases List.mem_append.mp z with z | z
    ·exact hg z
    ·exact ngD2 (List.mem_singleton.mp z)
  ·rintro σ H4 ⟨gs,x0,rfl,h4,hO,hg,k4⟩
   rw [List.length_map,List.take_of_length_le (Nat.le_refl _)] at hO
   have hgl:=hO.length
   rw [List.length_map] at hgl
   have s34 : Same H3 H4:=fun x o e=>k4 x o (zab e hD2) e
   have s24 : Same H2 H4:=s3.trans s34
   have S4:=S2.same s24
   refine ⟨_,rfl,.inl ⟨rfl,_,SqL.of h4⟩,_,rfl,_,rfl,st,ps,rows,t,rs,as,j,rfl,S4,hjn,fun D3 us H5 hD3 s45 h5 hw5=>?_⟩
   have h5D2:=s45 _ _ h4
   have n23 : D2≠D3:=zab h4 hD3
   refine ⟨_,_,_,rfl,rfl,h5D2,zam (by rw [List.length_map]; omega),?_⟩
   have O5 : Own K H5 (gs ++ [D3]) (zdG ps rows j):=by
    rw [hparts]
    exact Own.append (hO.ext s45.ext) (.cons ⟨us,h5,hw5⟩ .nil)
   have nin : D2∉gs ++ [D3]:=fun z=>by
    rcases List.mem_append.mp z with z | z
    ·exact hg z
    ·exact n23 (List.mem_singleton.mp z)
   have O6:=O5.other (o:=.lst (gs.map V.ref ++ [.ref D3])) h5D2 nin
   have h6 : upd H5 D2 (.lst (gs.map V.ref ++ [.ref D3])) D2 = some (.lst ((gs ++ [D3]).map V.ref)):=by
    rw [zac,List.map_append]
    rfl
   have k26 : ∀ x o,H2 x = some o→upd H5 D2 (.lst (gs.map V.ref ++ [.ref D3])) x = some o:=fun x o e=>by
    rw [zag (zab (s3 _ _ e) hD2)]
    exact s45 _ _ (s24 _ _ e)
   generalize upd H5 D2 (.lst (gs.map V.ref ++ [.ref D3])) = H6 at O6 h6 k26 ⊢
   have hfl : (zdG ps rows j).flatten.length≤63:=by
    have:=zgF S.T S.len (rows:=rows) hjn
    rw [zcl S.T hjn,zc3] at this
    omega
   refine ⟨_,rfl,D2,gs ++ [D3],zdG ps rows j,rfl,h6,O6,hfl,fun p ws H7 hp s7 h7 hw7=>?_⟩
   rw [← zcl S.T hjn] at hw7
   have s27 : Same H2 H7:=fun x o e=>s7 _ _ (k26 x o e)
   have h7D:=s27 _ _ h2
   have hql:=hF.length
   have hpD : p≠D:=Ne.symm (zab (k26 _ _ h2) hp)
   refine ⟨_,rfl,_,rfl,D,_,rfl,DPut.k (k:=kN j) h7D (zam (by rw [zlu hql,List.length_take,List.length_reverse]; omega)),?_⟩
   rw [zoG hql hjnot]
   have e78 : Ext H7 (upd H7 D (.dK (zdj (bs.reverse.take i ++ [j]) (qs ++ [p])))):=fun x o e n=>by
    rw [zag (fun z=>by
     rw [z,h7D] at e
     cases e
     exact n _ rfl)]
    exact e
   have F8 : zay K (upd H7 D (.dK (zdj (bs.reverse.take i ++ [j]) (qs ++ [p])))) ps rows (bs.reverse.take i ++ [j]) (qs ++ [p]):=by
    exact zay.ext e78 (zay.snoc (hF.same s27) ⟨ws,h7,hw7⟩)
   refine ⟨qs ++ [p],_,_,rfl,zac,?_,?_,F8,?_,fun x o n e=>?_⟩
   ·rw [List.nodup_append]
    refine ⟨hqn,List.nodup_cons.mpr ⟨(fun z=>nomatch z),List.nodup_nil⟩,fun a ha b hb z=>?_⟩
    rw [List.mem_singleton.mp hb] at z
    subst z
    obtain ⟨ws',hws⟩:=hF.alloc a ha
    have:=k26 _ _ hws
    rw [hp] at this
    cases this
   ·intro x hx
    rcases List.mem_append.mp hx with z | z
    ·exact hqf x z
    ·rw [List.mem_singleton.mp z]
     cases e : H p with
     | none=>rfl
     | some o=>
      have:=k26 _ _ (k2 p o hpD e)
      rw [hp] at this
      cases this
   ·rw [zag (fun z=>by rw [z,h2] at h2b; cases h2b)]
    exact s27 _ _ h2b
   ·rw [zag n]
    exact s27 _ _ (k2 x o n e)
 ·rintro σ H2 ⟨qs,x5,x6,rfl,h2,hqn,hqf,hF,h2b,k2⟩
  refine ⟨_,rfl,?_⟩
  rw [List.length_map,List.take_of_length_le (by rw [List.length_reverse]; exact Nat.le_refl _)] at h2 hF
  exact q D qs H2 hD (fun x o e=>k2 x o (zab e hD) e) h2 hqn hqf hF
def zhU (K : PySem.W.Frag) : Sp:=fun vs H Q _=>∃ (st : Addr) (ps : List Nat) (rows : List (List Int)) (t rs : Addr) (as : List Addr),vs = [.ref st]∧zaY H st ps rows t rs as∧
 ∀ (p : Addr) (qs : List Addr) (H' : Hp),H p = none→Same H H'→H' p = some (.lst (qs.map V.ref))→qs.Nodup→(∀ q∈qs,H q = none)→p∉qs→zay K H' ps rows (List.range (ps.length + 1)) qs→Q (.ref p) H'
theorem zgl {n i : Nat} (h : i < n) : (List.range n).reverse[n - 1 - i]? = some i:=by
 rw [List.getElem?_reverse (by rw [List.length_range]; omega),List.length_range,List.getElem?_range (by omega)]
 congr 1
 omega
theorem zmR (T : Txt K mg) (D_full_rows : DF K mg "full_rows" zcM zbm) (F_full_rows_beneath : FC P w K mg base 7 "full_rows_beneath" zaI (spFRB K)) : FC P w K mg base 8 "full_rows" zbm (zhU K):=by
 refine D_full_rows.ok sc_full_rows (fun vs H Q E h=>?_) (fun f cdv A outer s H vs Q E hr h=>?_)
 ·obtain ⟨st,ps,rows,t,rs,as,rfl,_⟩:=h
  rfl
 obtain ⟨st,ps,rows,t,rs,as,rfl,S,q⟩:=h
 refine ⟨_,(zaf (zap (i:=1) sc_full_rows.nd rfl (Or.inr rfl) (zas F_full_rows_beneath hr (zaa (pv 0) (zaa zae zad))))
   (zah (zar (zbf (N:=["knot","told"]) (own:=1) (cap:=[1]) rfl (zbK rfl T.m_range (zaa (zau zat rfl T.m_len boot_len (zaa (zaA zaM (pv 0) zae (fun _ _=>rfl)) zad)) zad)) ⟨rfl,rfl,rfl,rfl,rfl,rfl⟩ (fun _ _ _ _ _=>(zao (i:=0) (show List.Nodup (["knot","told"] : List Str) by decide +kernel) rfl (Or.inl rfl))) (fun _ _ _ _ _=>zbk) (fun _ _ _ _ _=>(zdh (zdQ hr) (pv 1) (pv 0) (fun _ _=>rfl))))))),?_⟩
 refine ⟨_,rfl,st,ps,rows,t,rs,as,0,rfl,S,by omega,fun D qs H1 hD s1 h1 hqn hqf hF=>?_⟩
 rw [zmc S.T] at h1 hF
 have S1:=S.same s1
 have hfew:=S.few
 have hql:=hF.length
 rw [List.length_reverse,List.length_range] at hql
 refine ⟨_,rfl,_,_,_,_,rfl,rfl,SqT.of S1.st,rfl,_,_,rfl,.inr (SqT.of S1.tr),_,rfl,by omega,by rw [zaw]; omega,fun p hp=>?_⟩
 have el : ((((zcI ps).length : Nat) : Int)).toNat = ps.length + 1:=by rw [zaw,Int.toNat_natCast]
 rw [el]
 refine zep (n:=ps.length + 1) (fun i σ H2=>∃ x0 : Option V,σ = [x0,some (.ref D)]∧H2 p = some (.lst ((qs.reverse.take i).map V.ref))∧But p H1 H2) ?_ ?_ ?_
 ·exact ⟨_,rfl,zac,fun b o n e=>by rw [zag n]; exact e⟩
 ·rintro i m σ H2 hm hi ⟨x0,rfl,h2,k2⟩
  rw [Int.zero_add]
  have hi2 : i < qs.reverse.length:=by rw [List.length_reverse]; omega
  have hq1 : qs[ps.length + 1 - 1 - i]? = some qs.reverse[i]:=by
   have:=List.getElem?_reverse (l:=qs) (i:=i) (by omega)
   rw [List.getElem?_eq_getElem hi2] at this
   rw [this]
   congr 1
   omega
  have hv:=zid (zho List.nodup_range) (zgl hi) hq1
  have h2D:=k2 _ _ (zab h1 hp) h1
  have hdg : DGet H2 D (.int (i : Int)) (some (.ref qs.reverse[i])):=by
   rw [← hv]
   exact DGet.k (k:=kN i) h2D
  refine zcZ ?_
  refine ⟨_,rfl,_,rfl,D,_,rfl,hdg,?_⟩
  refine ⟨_,h2,zam (by rw [List.length_map,List.length_take]; omega),m - 1,by omega,by omega,_,rfl,?_,fun b o n e=>by rw [zag n]; exact k2 b o n e⟩
  rw [zac,List.take_succ_eq_append_getElem hi2,List.map_append]
  rfl
 ·rintro σ H2 ⟨x0,rfl,h2,k2⟩
  rw [List.take_of_length_le (by rw [List.length_reverse]; omega)] at h2
  have s2 : Same H1 H2:=fun b o e=>k2 b o (zab e hp) e
  have F2:=(hF.same s2).rev
  rw [List.reverse_reverse] at F2
  refine q p qs.reverse H2 ?_ (s1.trans s2) h2 (zho hqn) (fun x hx=>hqf x (List.mem_reverse.mp hx)) (fun z=>?_) F2
  ·cases e : H p with
   | none=>rfl
   | some o=>
    have:=s1 _ _ e
    rw [hp] at this
    cases this
  ·obtain ⟨ws,hws⟩:=hF.alloc p (List.mem_reverse.mp z)
   rw [hp] at hws
   cases hws
def zga (x : Key) : Prop:=∃ a : Int,x = .inl a∧-(10 ^ 60) < a∧a < 10 ^ 60
def toI : Key→Int
 | .inl a=>a
 | _=>0
theorem zok {kvs : List (Key×V)} {x : Key} {v : V} (h1 : (kvs.map (·.1)).Nodup) (h2 : ∀ y∈kvs.map (·.1),zga y) (hx : zga x) : ((putK kvs x v).map (·.1)).Nodup∧∀ y∈(putK kvs x v).map (·.1),zga y:=by
 rw [zkZ]
 split
 ·exact ⟨h1,h2⟩
 ·rename_i c
  refine ⟨?_,fun y hy=>?_⟩
  ·rw [List.nodup_append]
   refine ⟨h1,List.nodup_cons.mpr ⟨(fun z=>nomatch z),List.nodup_nil⟩,fun a ha b hb z=>?_⟩
   rw [List.mem_singleton.mp hb] at z
   subst z
   obtain ⟨p,hp,e⟩:=List.mem_map.mp ha
   exact c (List.any_eq_true.mpr ⟨p,hp,decide_eq_true e⟩)
  ·rcases List.mem_append.mp hy with z | z
   ·exact h2 y z
   ·rw [List.mem_singleton.mp z]
    exact hx
theorem zeH : ∀ {l : List Key},(∀ y∈l,zga y)→l.map kV = (l.map toI).map V.int
 | [],_=>rfl
 | x :: l,h=>by
  obtain ⟨a,rfl,_⟩:=h x List.mem_cons_self
  show V.int a :: l.map kV = V.int a :: (l.map toI).map V.int
  rw [zeH fun y hy=>h y (List.mem_cons_of_mem _ hy)]
theorem zgY : ∀ {l : List Key},l.Nodup→(∀ y∈l,zga y)→(l.map toI).Nodup
 | [],_,_=>List.nodup_nil
 | x :: l,hn,h=>by
  rw [List.map_cons,List.nodup_cons]
  have hc:=List.nodup_cons.mp hn
  refine ⟨fun z=>?_,zgY hc.2 fun y hy=>h y (List.mem_cons_of_mem _ hy)⟩
  obtain ⟨y,hy,e⟩:=List.mem_map.mp z
  obtain ⟨a,rfl,_⟩:=h x List.mem_cons_self
  obtain ⟨b,rfl,_⟩:=h y (List.mem_cons_of_mem _ hy)
  have : b = a:=e
  subst this
  exact hc.1 hy
def spRow (K : PySem.W.Frag) : Sp:=fun vs H Q _=>∃ (d L : Addr) (m : Int),vs = [.ref d,.int m]∧(0≤m∧m≤40)∧LS K L d H∧
 ∀ (a : Addr) (row : List Int) (H' : Hp),H a = none→row.Pairwise (· < ·)→(∀ x∈row,-(10 ^ 60) < x∧x < 10 ^ 60)→(row.length : Int)≤m→H' a = some (.tup (row.map V.int))→Keep d H H'→LS K L d H'→Q (.ref a) H'
theorem zov (T : Txt K mg) (D_l_row : DF K mg "_law_row" zgh zd9) (F_l_take : FC P w K mg base 2 "_law_take" za9 (zey K)) (F_l_key : FC P w K mg base 3 "_law_key" zea (spKey K)) : FC P w K mg base 4 "_law_row" zd9 (spRow K):=by
 refine D_l_row.ok sc_l_row (fun vs H Q E h=>?_) (fun f cdv A outer s H vs Q E hr h=>?_)
 ·obtain ⟨d,L,m,rfl,_⟩:=h
  rfl
 obtain ⟨d,L,m,rfl,⟨hm0,hm1⟩,hs,q⟩:=h
 refine ⟨_,(zaf (zap (i:=2) sc_l_row.nd rfl (Or.inl rfl) zi5)
   (zaf (zbv PassesOwn.never rfl (zbK rfl T.m_range (zaa (zas F_l_take hr (zaa (pv 0) (zaa (zaq za6 (pv 1) zae) zad))) zad)) (zao (i:=3) sc_l_row.nd rfl (Or.inl rfl)) (zah (zem (zdQ hr) (pv 2) (zas F_l_key hr (zaa (pv 0) zad)) zgr rfl)))
   (zah (zar (zaO zaK rfl T.m_tuple boot_tuple (zaa (zau (zeK Int) rfl T.m_sorted boot_sorted (zaa (zaO (zke rfl) rfl T.m_list boot_list (zaa (pv 2) zad)) zad)) zad)))))),?_⟩
 intro g hg
 have ngd : g≠d:=fun z=>by
  obtain ⟨_,_,_,e,_⟩:=hs.ex
  rw [← z,hg] at e
  cases e
 refine ⟨_,rfl,_,rfl,_,_,rfl,rfl,d,L,m + 1,rfl,⟨by omega,by omega⟩,hs.of_new hg _,fun n H1 n0 n1 k1 s1=>⟨_,rfl,by omega,by omega,?_⟩⟩
 refine zbO (n:=n.toNat) (fun i σ H2=>∃ (kvs : List (Key×V)) (x3 : Option V),σ = [some (.ref d),some (.int m),some (.ref g),x3]∧H2 g = some (.dK kvs)∧kvs.length≤i∧(kvs.map (·.1)).Nodup∧(∀ y∈kvs.map (·.1),zga y)∧(∀ b o,b≠d→b≠g→H b = some o→H2 b = some o)∧LS K L d H2) ?_ ?_ ?_
 ·exact ⟨[],_,rfl,k1 g _ ngd zac,Nat.le_refl _,List.nodup_nil,fun y hy=>(by simp at hy),fun b o b1 b2 e=>k1 b o b1 (by rw [zag b2]; exact e),s1⟩
 ·rintro i σ H2 hi ⟨kvs,x3,rfl,h2,hl,hn,hy,kk,s2⟩
  refine ⟨_,rfl,_,rfl,d,L,rfl,s2,fun v H3 v0 v1 k3 s3=>?_⟩
  have h3 : H3 g = some (.dK kvs):=k3 g _ ngd h2
  obtain ⟨p1,p2⟩:=zok (v:=.bl true) hn hy (x:=.inl v) ⟨v,rfl,v0,v1⟩
  refine ⟨g,_,rfl,DPut.k (k:=.inl v) (kvs:=kvs) h3 (zam (by omega)),?_⟩
  refine ⟨putK kvs (.inl v) (.bl true),_,rfl,zac,?_,p1,p2,?_,?_⟩
  ·have:=zcP kvs (Sum.inl v : Key) (.bl true)
   omega
  ·intro b o b1 b2 e
   rw [zag b2]
   exact k3 b o b1 (kk b o b1 b2 e)
  ·exact LS.put hs hg (fun b o b1 b2 e=>k3 b o b1 (kk b o b1 b2 e)) s3
 ·rintro σ H2 ⟨kvs,x3,rfl,h2,hl,hn,hy,kk,s2⟩
  refine ⟨_,rfl,g,kvs,rfl,h2,fun l hl1=>?_⟩
  have ei : kvs.map (fun kv=>kV kv.1) = ((kvs.map (·.1)).map toI).map V.int:=by
   rw [← zeH hy,List.map_map]
   rfl
  rw [ei]
  have e1:=zaj hl1 (.lst (((kvs.map (·.1)).map toI).map V.int))
  refine ⟨l,_,_,rfl,SqL.of zac,zak.ints,by rw [List.length_map,List.length_map]; omega,fun l2 ws hl2 hw=>?_⟩
  rw [hw.toInts]
  have e2:=zaj hl2 (.lst ((zdB ((kvs.map (·.1)).map toI)).map V.int))
  refine ⟨l2,_,rfl,.inl ⟨SqL.of zac,fun a ha=>?_⟩⟩
  have e3:=zaj ha (.tup ((zdB ((kvs.map (·.1)).map toI)).map V.int))
  have e13:=e1.trans (e2.trans e3)
  have free : H a = none:=by
   have z2 : H2 a = none:=e1.free (e2.free ha)
   cases z : H a with
   | none=>rfl
   | some o=>
    by_cases c1 : a = d
    ·obtain ⟨_,_,_,e,_⟩:=s2.ex
     rw [← c1,z2] at e
     cases e
    ·by_cases c2 : a = g
     ·rw [c2,h2] at z2
      cases z2
     ·rw [kk a o c1 c2 z] at z2
      cases z2
  refine q a _ _ free ?_ (fun x hx=>?_) ?_ zac (fun b o b1 e=>e13 _ _ (kk b o b1 (zab e hg) e)) (s2.same e13)
  ·exact List.Pairwise.imp (fun {a b} (h : Srt.blt a b = true)=>of_decide_eq_true h) (zfV (zgY hn hy))
  ·rw [zfe] at hx
   obtain ⟨y,hy2,rfl⟩:=List.mem_map.mp hx
   obtain ⟨a,rfl,h1,h2⟩:=hy y hy2
   exact ⟨h1,h2⟩
  ·rw [zc3,List.length_map,List.length_map]
   omega
def znv (K : PySem.W.Frag) : Sp:=fun vs H Q _=>∃ (d L : Addr) (n m : Nat),vs = [.ref d,.int n,.int m]∧n≤40∧m≤40∧LS K L d H∧
 ∀ (r : Addr) (as : List Addr) (rows : List (List Int)) (H' : Hp),H r = none→zaC H' as rows→rows.length = n→zaH rows→(∀ row∈rows,row.length≤m)→H' r = some (.tup (as.map V.ref))→Keep d H H'→LS K L d H'→Q (.ref r) H'
theorem zaH.snoc {rows : List (List Int)} {row : List Int} (R : zaH rows) (h1 : row.Pairwise (· < ·)) (h2 : ∀ x∈row,-(10 ^ 60) < x∧x < 10 ^ 60) : zaH (rows ++ [row]):=by
 refine ⟨fun r hr=>?_,fun r hr=>?_⟩
 ·rcases List.mem_append.mp hr with z | z
  ·exact R.up r z
  ·rw [List.mem_singleton.mp z]
   exact h1
 ·rcases List.mem_append.mp hr with z | z
  ·exact R.key r z
  ·rw [List.mem_singleton.mp z]
   exact h2
theorem zmO (T : Txt K mg) (D_l_rows : DF K mg "_law_rows" zeW zdb) (F_l_take : FC P w K mg base 2 "_law_take" za9 (zey K)) (F_l_row : FC P w K mg base 4 "_law_row" zd9 (spRow K)) : FC P w K mg base 5 "_law_rows" zdb (znv K):=by
 refine D_l_rows.ok sc_l_rows (fun vs H Q E h=>?_) (fun f cdv A outer s H vs Q E hr h=>?_)
 ·obtain ⟨d,L,n,m,rfl,_⟩:=h
  rfl
 obtain ⟨d,L,n,m,rfl,hn,hm,hs,q⟩:=h
 refine ⟨_,(zaf (zap (i:=3) sc_l_rows.nd rfl (Or.inl rfl) (zbR zad))
   (zaf (zbv PassesOwn.never rfl (zbK rfl T.m_range (zaa (pv 1) zad)) (zao (i:=4) sc_l_rows.nd rfl (Or.inl rfl)) (zaf (zap (i:=5) sc_l_rows.nd rfl (Or.inl rfl) (zas F_l_row hr (zaa (pv 0) (zaa (pv 2) zad))))
   (zbc (zcy (zav zfo (zas F_l_take hr (zaa (pv 0) (zaa zae zad))) zae (zaF _)) (zah (zap (i:=5) sc_l_rows.nd rfl (Or.inl rfl) (zbL zad))) za5)
   (zbc (zcy (PW.pt (zhd (zav zk6 (pv 4) zae (zaF _)) (zfh (zav zfo (zas F_l_take hr (zaa (pv 0) (zaa zae zad))) zae (zaF _))))) (zah (zap (i:=5) sc_l_rows.nd rfl (Or.inl rfl) (zaA zaE (pv 3) (zaq zbM (pv 4) zae) (fun _ _=>rfl)))) za5)
   (zah (zbz (zeM F.plainAttrs_list F.slot_list_append F.type_list_append za3 (pv 3) (zaa (pv 5) zad))))))))
   (zah (zar (zaO zaK rfl T.m_tuple boot_tuple (zaa (pv 3) zad)))))),?_⟩
 refine ⟨(by show 0≤sizeLine; decide),fun p hp=>?_⟩
 have g0:=zaj hp (.lst [])
 have ndT : ∀ {H' : Hp} {a : Addr} {o : List V},LS K L d H'→H' a = some (.tup o)→a≠d:=fun {H' a o} s e z=>by
  obtain ⟨_,_,_,e2,_⟩:=s.ex
  rw [← z,e] at e2
  cases e2
 have nd : ∀ {H' : Hp} {a : Addr},LS K L d H'→H' a = none→a≠d:=fun {H' a} s e z=>by
  obtain ⟨_,_,_,e2,_⟩:=s.ex
  rw [← z,e] at e2
  cases e2
 have hpd : p≠d:=nd hs hp
 refine ⟨_,rfl,_,rfl,by omega,by omega,?_⟩
 rw [Int.toNat_natCast]
 refine zbO (n:=n) (fun i σ H2=>∃ (as : List Addr) (rows : List (List Int)) (x4 x5 : Option V),σ = [some (.ref d),some (.int n),some (.int m),some (.ref p),x4,x5]∧H2 p = some (.lst (as.map V.ref))∧zaC H2 as rows∧rows.length = i∧zaH rows∧(∀ row∈rows,row.length≤m)∧(∀ b o,b≠d→b≠p→H b = some o→H2 b = some o)∧LS K L d H2) ?_ ?_ ?_
 ·exact ⟨[],[],_,_,rfl,zac,.nil,rfl,⟨(fun r hr=>nomatch hr),(fun r hr=>nomatch hr)⟩,(fun r hr=>nomatch hr),fun b o _ n e=>g0 b o e,hs.same g0⟩
 ·rintro i σ H2 hi ⟨as,rows,x4,x5,rfl,h2,hA,hl,hR,hlen,k2,s2⟩
  rw [Int.zero_add]
  have hal:=hA.length
  have old : ∀ {H3 : Hp} {b : Addr} {o : HO},(∀ b o,b≠d→H2 b = some o→H3 b = some o)→b≠d→b≠p→H b = some o→H3 b = some o:=fun k n1 n2 e=>k _ _ n1 (k2 _ _ n1 n2 e)
  refine ⟨_,rfl,_,rfl,d,L,m,rfl,⟨by omega,by omega⟩,s2,fun a row H3 ha hup hky hlr h3 k3 s3=>?_⟩
  refine ⟨fun σ' H'=>∃ (a : Addr) (row : List Int),σ' = [some (.ref d),some (.int n),some (.int m),some (.ref p),some (.int i),some (.ref a)]∧H' a = some (.tup (row.map V.int))∧row.Pairwise (· < ·)∧(∀ x∈row,-(10 ^ 60) < x∧x < 10 ^ 60)∧row.length≤m∧(∀ b o,b≠d→H2 b = some o→H' b = some o)∧LS K L d H',?_,?_⟩
  ·refine ⟨_,rfl,d,L,4,rfl,by decide,s3,fun v H4 _ _ k4 s4=>⟨rfl,_,rfl,?_⟩⟩
   have h4:=k4 _ _ (ndT s3 h3) h3
   refine ite2 (fun _=>?_) (fun _=>?_)
   ·refine ⟨(by show 0≤sizeLine; decide),fun u hu=>?_⟩
    have su:=zaj hu (.tup [])
    exact ⟨u,[],rfl,zac,.nil,(fun x hx=>nomatch hx),Nat.zero_le _,fun b o n1 e=>su _ _ (k4 _ _ n1 (k3 _ _ n1 e)),s4.same su⟩
   ·exact ⟨a,row,rfl,h4,hup,hky,by omega,fun b o n1 e=>k4 _ _ n1 (k3 _ _ n1 e),s4⟩
  rintro σ' H4 ⟨a,row,rfl,h4,hup,hky,hlr,k4,s4⟩
  refine ⟨fun σ' H'=>∃ (a : Addr) (row : List Int),σ' = [some (.ref d),some (.int n),some (.int m),some (.ref p),some (.int i),some (.ref a)]∧H' a = some (.tup (row.map V.int))∧row.Pairwise (· < ·)∧(∀ x∈row,-(10 ^ 60) < x∧x < 10 ^ 60)∧row.length≤m∧(∀ b o,b≠d→H2 b = some o→H' b = some o)∧LS K L d H',?_,?_⟩
  ·refine ⟨_,rfl,_,_,rfl,rfl,_,rfl,?_⟩
   refine ite2 (fun c=>?_) (fun c=>?_)
   ·have c' : (0 : Int) < (i : Int):=of_decide_eq_true c
    refine ⟨_,rfl,d,L,4,rfl,by decide,s4,fun v H5 _ _ k5 s5=>⟨rfl,_,rfl,?_⟩⟩
    have h5:=k5 _ _ (ndT s4 h4) h4
    refine ite2 (fun _=>?_) (fun _=>?_)
    ·have h5p : H5 p = some (.lst (as.map V.ref)):=k5 _ _ hpd (k4 _ _ hpd h2)
     obtain ⟨b,hb1,hb2⟩:=hA.get (k:=i - 1) (by omega)
     have hb5:=k5 _ _ (ndT s4 (k4 _ _ (ndT s2 hb2) hb2)) (k4 _ _ (ndT s2 hb2) hb2)
     have hat : atI (as.map V.ref) ((i : Int) - 1) = some (.ref b):=by
      rw [show (i : Int) - 1 = ((i - 1 : Nat) : Int) by omega]
      exact zf9 hb1
     refine ⟨_,rfl,_,rfl,_,_,rfl,rfl,_,_,_,_,rfl,rfl,SqL.of h5p,hat,?_⟩
     have hmem : zaJ rows (i - 1)∈rows:=by
      unfold zaJ
      rw [List.getD_eq_getElem?_getD,List.getElem?_eq_getElem (show i - 1 < rows.length by omega)]
      exact List.getElem_mem _
     exact ⟨b,zaJ rows (i - 1),rfl,hb5,hR.up _ hmem,hR.key _ hmem,hlen _ hmem,fun b o n1 e=>k5 _ _ n1 (k4 _ _ n1 e),s5⟩
    ·exact ⟨a,row,rfl,h5,hup,hky,hlr,fun b o n1 e=>k5 _ _ n1 (k4 _ _ n1 e),s5⟩
   ·refine iteF ?_
    exact ⟨a,row,rfl,h4,hup,hky,hlr,k4,s4⟩
  rintro σ' H5 ⟨a,row,rfl,h5,hup,hky,hlr,k5,s5⟩
  have h5p : H5 p = some (.lst (as.map V.ref)):=k5 _ _ hpd h2
  have keep : ∀ b o,b≠p→H5 b = some o→upd H5 p (.lst (as.map V.ref ++ [.ref a])) b = some o:=fun b o n e=>by rw [zag n]; exact e
  have ntp : ∀ {b : Addr} {o : List V},H5 b = some (.tup o)→b≠p:=fun {b o} e z=>by
   rw [z,h5p] at e
   cases e
  refine ⟨_,rfl,.inl ⟨rfl,_,SqL.of h5p⟩,_,rfl,_,_,_,rfl,rfl,h5p,zam (by rw [List.length_map]; omega),?_⟩
  refine ⟨as ++ [a],rows ++ [row],_,_,rfl,?_,?_,by rw [List.length_append,List.length_singleton,hl],hR.snoc hup hky,fun r hr=>?_,fun b o n1 n2 e=>keep _ _ n2 (k5 _ _ n1 (k2 _ _ n1 n2 e)),?_⟩
  ·rw [zac,List.map_append]
   rfl
  ·refine zaC.snoc ?_ (keep _ _ (ntp h5) h5)
   have hA5 : zaC H5 as rows:=zaC.keep (p:=d) (fun a row e=>ndT s2 e) k5 hA
   exact zaC.keep (p:=p) (d:=p) (fun a row e=>ntp e) keep hA5
  ·rcases List.mem_append.mp hr with z | z
   ·exact hlen r z
   ·rw [List.mem_singleton.mp z]
    exact hlr
  ·exact LS.put hs hp (fun b o n1 n2 e=>k5 _ _ n1 (k2 _ _ n1 n2 e)) s5
 ·rintro σ H2 ⟨as,rows,x4,x5,rfl,h2,hA,hl,hR,hlen,k2,s2⟩
  refine ⟨_,rfl,p,_,rfl,.inl ⟨SqL.of h2,fun t ht=>?_⟩⟩
  have sn:=zaj ht (.tup (as.map V.ref))
  have ht0 : H t = none:=by
   cases e : H t with
   | none=>rfl
   | some o=>
    have:=k2 t o (nd s2 ht) (Ne.symm (zab h2 ht)) e
    rw [ht] at this
    cases this
  exact q t as rows _ ht0 (hA.ext sn) hl hR hlen zac (fun b o n e=>sn _ _ (k2 b o n (zab e hp) e)) (s2.same sn)
abbrev En:=Int×Int
def zdP (k : Nat) (es : List En) : Nat:=(es.filter fun e=>decide (e.2 = (k : Int))).length
def zmF (k : Nat) (es : List En) : List Nat:=(List.range (es.length + 1)).map fun p=>zdP k (es.take p)
def stStep (cs : List En) (s : Nat) (e : En) : Nat:=if e∈cs then cs.idxOf e + 1 else s
def stN (cs es : List En) : Nat:=es.foldl (stStep cs) 0
def zgc (es cs : List En) : List Nat:=(List.range (es.length + 1)).map fun p=>stN cs (es.take p)
def inN (cs es : List En) : Nat:=(es.filter fun e=>decide (e∈cs)).length
theorem zfX {l : List En} (h : Rise l) : l.Nodup:=List.Pairwise.imp (fun {a b} (q : pLt a b = true) z=>by
 subst z
 have:=zco.mp q
 omega) h
theorem zkX {l m : List En} (h1 : Rise l) (h2 : Rise m) (h : ∀ e,e∈l↔e∈m) : l = m:=by
 refine List.Perm.eq_of_pairwise (le:=fun a b=>pLt a b = true) (fun a b _ _ q1 q2=>?_) h1 h2 ((List.perm_ext_iff_of_nodup (zfX h1) (zfX h2)).mpr h)
 have:=zco.mp q1
 have:=zco.mp q2
 omega
theorem ze4 {ps : List Nat} (T : zaB ps) {rows : List (List Int)} {k : Nat} (hk : k < ps.length + 1) {e : En} : e∈zal ps rows k↔e∈ownE rows k∨∃ c,par ps c = some k∧e∈zbN (zal ps rows c):=by
 rw [zcl T hk,zfe,List.mem_flatten]
 unfold zdG
 constructor
 ·rintro ⟨l,hl,he⟩
  rcases List.mem_append.mp hl with q | q
  ·obtain ⟨c,hc,rfl⟩:=List.mem_map.mp q
   exact .inr ⟨c,(zaz.mp hc).2,he⟩
  ·rw [List.mem_singleton.mp q] at he
   exact .inl he
 ·rintro (h | ⟨c,hc,h⟩)
  ·exact ⟨_,List.mem_append.mpr (.inr (List.mem_singleton.mpr rfl)),h⟩
  ·exact ⟨_,List.mem_append.mpr (.inl (List.mem_map.mpr ⟨c,zaz.mpr ⟨(zaV T hc).2,hc⟩,rfl⟩)),h⟩
theorem zni {ps : List Nat} (T : zaB ps) {rows : List (List Int)} (R : zaH rows) {k c : Nat} (hk : k < ps.length + 1) (hc : par ps c = some k) {e : En} : (e∈zal ps rows k∧e∈zal ps rows c)↔e∈zbN (zal ps rows c):=by
 have hcn:=(zaV T hc).2
 constructor
 ·rintro ⟨h1,h2⟩
  obtain ⟨j,g1,g2,g3,_⟩:=ze6 T R hcn e h2
  rcases (ze4 T hk).mp h1 with h | ⟨d,hd,h⟩
  ·have h4:=(zjb hk h).2
   have : j = k:=by omega
   subst this
   rw [zeG T (zaV T hc).1] at g2
   cases g2
  ·by_cases z : d = c
   ·rw [z] at h
    exact h
   ·obtain ⟨i,_,f2,f3,_⟩:=ze6 T R (zaV T hd).2 e ((zbb _).mem h)
    have : i = j:=by omega
    subst this
    exact (zej T hd hc z i i (Nat.le_refl _) f2 g2).elim
 ·intro h
  exact ⟨(ze4 T hk).mpr (.inr ⟨c,hc,h⟩),(zbb _).mem h⟩
theorem zl1 {ps : List Nat} (T : zaB ps) {rows : List (List Int)} (R : zaH rows) {k c : Nat} (hk : k < ps.length + 1) (hc : par ps c = some k) : ((zal ps rows k).filter fun e=>decide (e∈zal ps rows c)) = zbN (zal ps rows c):=by
 refine zkX (List.Pairwise.filter _ (zaW T R hk)) ((zaW T R (zaV T hc).2).sublist (zbb _)) fun e=>?_
 rw [List.mem_filter,decide_eq_true_eq]
 exact zni T R hk hc
theorem zjH {l : List En} {p : Nat} (h : p < l.length) : l.take (p + 1) = l.take p ++ [l[p]]:=List.take_succ_eq_append_getElem h
theorem zjO (k : Nat) (es : List En) (e : En) : zdP k (es ++ [e]) = zdP k es + if e.2 = (k : Int) then 1 else 0:=by
 unfold zdP
 rw [List.filter_append,List.length_append]
 congr 1
 by_cases h : e.2 = (k : Int)
 ·rw [if_pos h,List.filter_cons_of_pos (by exact decide_eq_true h)]
  rfl
 ·rw [if_neg h,List.filter_cons_of_neg (by rw [decide_eq_false h]; decide)]
  rfl
theorem zm9 (cs es : List En) (e : En) : inN cs (es ++ [e]) = inN cs es + if e∈cs then 1 else 0:=by
 unfold inN
 rw [List.filter_append,List.length_append]
 congr 1
 by_cases h : e∈cs
 ·rw [if_pos h,List.filter_cons_of_pos (by exact decide_eq_true h)]
  rfl
 ·rw [if_neg h,List.filter_cons_of_neg (by rw [decide_eq_false h]; decide)]
  rfl
theorem ziL (cs es : List En) (e : En) : stN cs (es ++ [e]) = if e∈cs then cs.idxOf e + 1 else stN cs es:=by
 unfold stN
 rw [List.foldl_append]
 rfl
def spL (es : List En) : List Nat:=(List.range es.length).filter fun j=>(zb4 es).getD j false
theorem ziR (es : List En) : zdn (zb4 es) (spL es):=by
 have:=zmt (zb4 es)
 rw [zbe] at this
 exact this
theorem zf2 {es : List En} {ms : List Bool} (hl : es.length = ms.length) : ∀ i,i≤ms.length→zcS (es.take i) (ms.take i) = ((List.range i).filter fun j=>ms.getD j false).map fun j=>es.getD j (0,0)
 | 0,_=>rfl
 | i + 1,h=>by
  have ft : ((List.range (i + 1)).filter fun j=>ms.getD j false) = ((List.range i).filter fun j=>ms.getD j false) ++ (if ms.getD i false = true then [i] else []):=by
   rw [List.range_succ,List.filter_append]
   congr 1
   by_cases h : ms.getD i false = true
   ·rw [if_pos h,List.filter_cons_of_pos (p:=fun j=>ms.getD j false) (a:=i) h]
    rfl
   ·rw [if_neg h,List.filter_cons_of_neg (p:=fun j=>ms.getD j false) (a:=i) h]
    rfl
  rw [zdU (show i < es.length by omega),zdU (show i < ms.length by omega),zhx (by rw [List.length_take,List.length_take]; omega),zf2 hl i (by omega),ft,List.map_append]
  congr 1
  have e : ms.getD i false = ms[i]'(by omega):=by
   rw [List.getD_eq_getElem?_getD,List.getElem?_eq_getElem (show i < ms.length by omega)]
   rfl
  rw [e]
  split
  ·rw [List.map_singleton,List.getD_eq_getElem?_getD,List.getElem?_eq_getElem (show i < es.length by omega)]
   rfl
  ·rfl
theorem zf3 (es : List En) : zbN es = (spL es).map fun j=>es.getD j (0,0):=by
 have hl:=zbe es
 have:=zf2 (es:=es) (ms:=zb4 es) hl.symm (zb4 es).length (Nat.le_refl _)
 rw [List.take_of_length_le (Nat.le_refl _),List.take_of_length_le (by omega),hl] at this
 exact this
def stAt (sp : List Nat) (t : Nat) : Nat:=if t = 0 then 0 else sp.getD (t - 1) 0 + 1
theorem zlH {l : List En} (h : l.Nodup) {j : Nat} (hj : j < l.length) : l.idxOf (l.getD j (0,0)) = j:=by
 rw [List.getD_eq_getElem?_getD,List.getElem?_eq_getElem hj]
 exact List.Nodup.idxOf_getElem h j hj
theorem zim {P : En→Bool} : ∀ (l : List En) (p : Nat),(l.take p).filter P = (l.filter P).take ((l.take p).filter P).length:=by
 intro l p
 have e : l.filter P = (l.take p).filter P ++ (l.drop p).filter P:=by rw [← List.filter_append,List.take_append_drop]
 rw [e,List.take_append_of_le_length (Nat.le_refl _),List.take_of_length_le (Nat.le_refl _)]
theorem st_is {ps : List Nat} (T : zaB ps) {rows : List (List Int)} (R : zaH rows) {k c : Nat} (hk : k < ps.length + 1) (hc : par ps c = some k) : ∀ p,p≤(zal ps rows k).length→stN (zal ps rows c) ((zal ps rows k).take p) = stAt (spL (zal ps rows c)) (inN (zal ps rows c) ((zal ps rows k).take p))
 | 0,_=>rfl
 | p + 1,h=>by
  have ih:=st_is T R hk hc p (by omega)
  have hp : p < (zal ps rows k).length:=by omega
  have hft:=zim (P:=fun e=>decide (e∈zal ps rows c)) (zal ps rows k) (p + 1)
  rw [zl1 T R hk hc] at hft
  rw [zjH hp] at hft ⊢
  rw [ziL,zm9]
  by_cases z : (zal ps rows k)[p]∈zal ps rows c
  ·rw [if_pos z,if_pos z]
   unfold stAt
   rw [if_neg (by omega),Nat.add_sub_cancel]
   congr 1
   rw [List.filter_append,List.filter_cons_of_pos (by exact decide_eq_true z),List.filter_nil,List.length_append,List.length_singleton] at hft
   have hin : ((zal ps rows k).take p |>.filter fun e=>decide (e∈zal ps rows c)).length = inN (zal ps rows c) ((zal ps rows k).take p):=rfl
   generalize inN (zal ps rows c) ((zal ps rows k).take p) = t at hin ⊢
   have hg : (zbN (zal ps rows c))[t]? = some (zal ps rows k)[p]:=by
    have h2 : (((zal ps rows k).take p |>.filter fun e=>decide (e∈zal ps rows c)) ++ [(zal ps rows k)[p]])[t]? = some (zal ps rows k)[p]:=by
     rw [List.getElem?_append_right (by omega),hin,Nat.sub_self]
     rfl
    rw [hft,List.getElem?_take] at h2
    split at h2
    ·exact h2
    ·cases h2
   rw [zf3,List.getElem?_map] at hg
   obtain ⟨j,hj,he⟩:=Option.map_eq_some_iff.mp hg
   have hjl : j < (zal ps rows c).length:=by
    have:=(ziR (zal ps rows c)).lt (List.mem_of_getElem? hj)
    rw [zbe] at this
    exact this
   rw [← he,zlH (zfu T R (zaV T hc).2) hjl,List.getD_eq_getElem?_getD,hj]
   rfl
  ·rw [if_neg z,if_neg z,Nat.add_zero]
   exact ih
theorem zob {es : List En} (he : ∀ e∈es,zdC 64 e) (hri : Rise es) {t : Nat} (ht : t < (spL es).length) : stAt (spL es) (t + 1) = stAt (spL es) t + 2∨stAt (spL es) (t + 1) = stAt (spL es) t + 3:=by
 have M:=zhp he hri
 have S:=ziR es
 have g : ∀ i (h : i < (spL es).length),(spL es).getD i 0 = (spL es)[i]:=fun i h=>by
  rw [List.getD_eq_getElem?_getD,List.getElem?_eq_getElem h]
  rfl
 unfold stAt
 rw [if_neg (by omega),Nat.add_sub_cancel]
 by_cases z : t = 0
 ·subst z
  rw [if_pos rfl,g 0 ht]
  have hlen : 2≤(zb4 es).length:=by
   refine Nat.le_of_not_lt fun y=>?_
   have:=S.none M (by omega)
   rw [this] at ht
   simp at ht
  obtain ⟨_,h1,h2⟩:=S.first M hlen
  omega
 ·rw [if_neg z,g t ht,g (t - 1) (by omega)]
  have:=S.step M (t:=t - 1) (by omega)
  have e : t - 1 + 1 = t:=by omega
  have e2 : (spL es)[t - 1 + 1]'(by omega) = (spL es)[t]:=by congr 1
  rw [e2] at this
  omega
theorem zoa {es : List En} (he : ∀ e∈es,zdC 64 e) (hri : Rise es) : stAt (spL es) (spL es).length≤es.length∧es.length≤stAt (spL es) (spL es).length + 1:=by
 have M:=zhp he hri
 have S:=ziR es
 have hl:=zbe es
 unfold stAt
 by_cases z : (spL es).length = 0
 ·rw [if_pos z]
  refine ⟨Nat.zero_le _,?_⟩
  refine Nat.le_of_not_lt fun y=>?_
  obtain ⟨h,_⟩:=S.first M (by omega)
  omega
 ·have g : (spL es).getD ((spL es).length - 1) 0 = (spL es)[(spL es).length - 1]'(by omega):=by
   rw [List.getD_eq_getElem?_getD,List.getElem?_eq_getElem (by omega)]
   rfl
  rw [if_neg z,g]
  have h1:=S.lt (List.getElem_mem (show (spL es).length - 1 < (spL es).length by omega))
  refine ⟨by omega,?_⟩
  have hlen : 2≤(zb4 es).length:=Nat.le_of_not_lt fun y=>z (by rw [S.none M y]; rfl)
  have h2:=S.last M hlen (by omega)
  omega
theorem zdz {f : Nat→Nat} {i : Nat} : ((List.range (i + 1)).map f).map nV = (((List.range i).map f) ++ [f i]).map nV:=by
 rw [List.range_succ,List.map_append]
 rfl
theorem ziz {us : List Nat} {c : Nat} : atI ((us ++ [c]).map nV) (-1) = some (nV c):=by
 unfold atI ixN
 rw [List.map_append]
 simp
 rw [if_pos (by omega)]
 show (List.map nV us ++ [nV c])[(-1 + ((us.length : Int) + 1)).toNat]? = _
 rw [show (-1 + ((us.length : Int) + 1)).toNat = us.length by omega,List.getElem?_append_right (by rw [List.length_map]; exact Nat.le_refl _),List.length_map,Nat.sub_self]
 rfl
def znw (K : PySem.W.Frag) : Sp:=fun vs H Q _=>∃ (a : Addr) (ws : List V) (es : List En) (k : Nat),vs = [.ref a,.int k]∧H a = some (.lst ws)∧zak K H es ws∧es.length≤900∧
 ∀ (p : Addr) (H' : Hp),H p = none→Same H H'→H' p = some (.lst ((zmF k es).map nV))→Q (.ref p) H'
theorem zos (T : Txt K mg) (D_owns_of : DF K mg "owns_of" zdW zcs) : FC P w K mg base 1 "owns_of" zcs (znw K):=by
 refine D_owns_of.ok sc_owns_of (fun vs H Q E h=>?_) (fun f cdv A outer s H vs Q E hr h=>?_)
 ·obtain ⟨a,ws,es,k,rfl,_⟩:=h
  rfl
 obtain ⟨a,ws,es,k,rfl,ha,hw,hz,q⟩:=h
 have hwl:=hw.length
 refine ⟨_,(zaf (zap (i:=2) sc_owns_of.nd rfl (Or.inl rfl) (zbR (zaa zae zad)))
   (zaf (zbv PassesOwn.never rfl (zb2 (pv 0)) (zao (i:=3) sc_owns_of.nd rfl (Or.inl rfl)) (zah (zbz (zeM F.plainAttrs_list F.slot_list_append F.type_list_append za3 (pv 2) (zaa (zi4 (zav zfo (zaA zaM (pv 3) zae (fun _ _=>rfl)) (pv 1) (zaF _)) (zaq za6 (zaA zaE (pv 2) (zfK zdD zae) (fun _ _=>rfl)) zae) (zaA zaE (pv 2) (zfK zdD zae) (fun _ _=>rfl))) zad)))))
   (zah (zar (pv 2))))),?_⟩
 refine ⟨(by show 1≤sizeLine; decide),fun p hp=>?_⟩
 have k0 : But p H (upd H p (.lst [V.int 0])):=fun b o n e=>by rw [zag n]; exact e
 have nap : a≠p:=zab ha hp
 refine ⟨_,rfl,a,rfl,⟨_,SqL.of (k0 _ _ nap ha)⟩,?_⟩
 refine zgG (xs:=ws) (fun i σ H2=>∃ x3 : Option V,σ = [some (.ref a),some (.int k),some (.ref p),x3]∧H2 p = some (.lst (((List.range (i + 1)).map fun p=>zdP k (es.take p)).map nV))∧But p H H2) ?_ ?_ ?_ ?_
 ·exact ⟨_,rfl,zac,k0⟩
 ·rintro i σ H2 _ ⟨x3,rfl,_,k2⟩
  exact SqL.of (k2 _ _ nap ha)
 ·rintro i x σ H2 hx ⟨x3,rfl,h2,k2⟩
  obtain ⟨e,he,hhas⟩:=hw.get hx
  obtain ⟨b,y1,y2,rfl,hb,hy1,hy2⟩:=(show hasP K H e x from hhas)
  have hy1 : y1 = .int e.1:=hy1
  have hy2 : y2 = .int e.2:=hy2
  subst hy1 hy2
  have h2b:=k2 _ _ (zab hb hp) hb
  have hi:=(List.getElem?_eq_some_iff.mp he).1
  have htk : es.take (i + 1) = es.take i ++ [e]:=by
   rw [List.take_succ_eq_append_getElem hi,(List.getElem?_eq_some_iff.mp he).2]
  have hon:=zjO k (es.take i) e
  rw [← htk] at hon
  rw [zdz] at h2
  have hlen : ((((List.range i).map fun p=>zdP k (es.take p)) ++ [zdP k (es.take i)]).map nV).length < sizeLine:=zam (by
   rw [List.length_map,List.length_append,List.length_map,List.length_range,List.length_singleton]
   omega)
  have fin : ∀ v : Nat,v = zdP k (es.take (i + 1))→upd H2 p (.lst ((((List.range i).map fun p=>zdP k (es.take p)) ++ [zdP k (es.take i)]).map nV ++ [nV v])) p = some (.lst (((List.range (i + 1 + 1)).map fun p=>zdP k (es.take p)).map nV)):=fun v hv=>by
   rw [zac,zdz,List.map_append (l₂:=[zdP k (es.take (i + 1))]),zdz,hv]
   rfl
  refine ⟨_,rfl,.inl ⟨rfl,_,SqL.of h2⟩,?_⟩
  refine ⟨_,rfl,_,_,_,_,rfl,rfl,SqT.of h2b,rfl,_,rfl,rfl,_,rfl,?_⟩
  refine ite2 (fun c=>?_) (fun c=>?_)
  ·have c' : e.2 = (k : Int):=V.int.inj (of_decide_eq_true c)
   rw [if_pos c'] at hon
   refine ⟨_,rfl,_,rfl,_,_,_,_,rfl,rfl,SqL.of h2,ziz,_,_,rfl,rfl,_,_,_,rfl,rfl,h2,hlen,?_⟩
   refine ⟨_,rfl,?_,fun b o n e=>by rw [zag n]; exact k2 b o n e⟩
   have:=fin (zdP k (es.take i) + 1) hon.symm
   rw [← this]
   rfl
  ·have c' : ¬ e.2 = (k : Int):=fun z=>c (by rw [z]; exact decide_eq_true rfl)
   rw [if_neg c',Nat.add_zero] at hon
   refine ⟨_,rfl,_,rfl,_,_,_,_,rfl,rfl,SqL.of h2,ziz,_,_,_,rfl,rfl,h2,hlen,?_⟩
   exact ⟨_,rfl,fin _ hon.symm,fun b o n e=>by rw [zag n]; exact k2 b o n e⟩
 ·rintro σ H2 ⟨x3,rfl,h2,k2⟩
  refine ⟨_,rfl,?_⟩
  rw [← hwl] at h2
  exact q p H2 hp (fun b o e=>k2 b o (zab e hp) e) h2
def kvT : Nat→List En→List (List Key×V)
 | _,[]=>[]
 | o,e :: es=>([.inl e.1,.inl e.2],nV (o + 1)) :: kvT (o + 1) es
abbrev kE (e : En) : List Key:=[.inl e.1,.inl e.2]
theorem kE_inj {e f : En} (h : kE e = kE f) : e = f:=by
 obtain ⟨a,b⟩:=e
 obtain ⟨c,d⟩:=f
 injection h with h1 h2
 injection h2 with h2 _
 have h1 : a = c:=Sum.inl.inj h1
 have h2 : b = d:=Sum.inl.inj h2
 rw [h1,h2]
theorem zie (e : En) : ∀ (o : Nat) (es : List En),valV (kvT o es) (kE e) = if e∈es then some (nV (o + es.idxOf e + 1)) else none
 | _,[]=>rfl
 | o,f :: es=>by
  show valV ((kE f,nV (o + 1)) :: kvT (o + 1) es) (kE e) = _
  by_cases z : f = e
  ·subst z
   rw [zca rfl,if_pos List.mem_cons_self,List.idxOf_cons_self]
  ·rw [zbi (fun y=>z (kE_inj y)),zie e (o + 1) es]
   have hm : (e∈f :: es) = (e∈es):=propext ⟨fun h=>(List.mem_cons.mp h).resolve_left fun y=>z y.symm,fun h=>List.mem_cons_of_mem _ h⟩
   by_cases y : e∈es
   ·have ei : (f :: es).idxOf e = es.idxOf e + 1:=by
     rw [List.idxOf_cons,beq_false_of_ne z]
     rfl
    rw [if_pos y,if_pos (by rw [hm]; exact y),ei]
    congr 2
    have : o + 1 + es.idxOf e + 1 = o + (es.idxOf e + 1) + 1:=by omega
    rw [this]
   ·rw [if_neg y,if_neg (by rw [hm]; exact y)]
theorem zjj (e : En) : ∀ (o : Nat) (es : List En),kvT o (es ++ [e]) = kvT o es ++ [(kE e,nV (o + es.length + 1))]
 | _,[]=>rfl
 | o,f :: es=>by
  show (kE f,nV (o + 1)) :: kvT (o + 1) (es ++ [e]) = (kE f,nV (o + 1)) :: (kvT (o + 1) es ++ _)
  rw [zjj e (o + 1) es,List.length_cons,show o + 1 + es.length + 1 = o + (es.length + 1) + 1 by omega]
theorem zlw : ∀ (o : Nat) (es : List En),(kvT o es).length = es.length
 | _,[]=>rfl
 | o,e :: es=>by
  show (kvT (o + 1) es).length + 1 = es.length + 1
  rw [zlw (o + 1) es]
def ziN (K : PySem.W.Frag) : Sp:=fun vs H Q _=>∃ (a c : Addr) (ws vs' : List V) (es cs : List En),vs = [.ref a,.ref c]∧H a = some (.lst ws)∧zak K H es ws∧es.length≤900∧H c = some (.lst vs')∧zak K H cs vs'∧cs.length≤900∧cs.Nodup∧
 ∀ (p : Addr) (H' : Hp),H p = none→Same H H'→H' p = some (.lst ((zgc es cs).map nV))→Q (.ref p) H'
theorem zk9 (T : Txt K mg) (D_starts_of : DF K mg "starts_of" zcJ zbG) : FC P w K mg base 1 "starts_of" zbG (ziN K):=by
 refine D_starts_of.ok sc_starts_of (fun vs H Q E h=>?_) (fun f cdv A outer s H vs Q E hr h=>?_)
 ·obtain ⟨a,c,ws,us,es,cs,rfl,_⟩:=h
  rfl
 obtain ⟨a,c,ws,us,es,cs,rfl,ha,hw,hz,hc,hu,hzc,hnd,q⟩:=h
 have hwl:=hw.length
 have hul:=hu.length
 refine ⟨_,(zaf (zap (i:=2) sc_starts_of.nd rfl (Or.inl rfl) zmB)
   (zaf (zbv PassesOwn.never rfl (zde rfl T.m_enumerate (zaa (pv 1) zad)) (zfm rfl (zaT (zao (i:=3) sc_starts_of.nd rfl (Or.inl rfl)) (zaT (zao (i:=4) sc_starts_of.nd rfl (Or.inl rfl)) zdf))) (zah (zem (zdQ hr) (pv 2) (pv 4) (zaq za6 (pv 3) zae) rfl)))
   (zaf (zap (i:=5) sc_starts_of.nd rfl (Or.inl rfl) (zbR (zaa zae zad)))
   (zaf (zbv PassesOwn.never rfl (zb2 (pv 0)) (zao (i:=4) sc_starts_of.nd rfl (Or.inl rfl)) (zah (zbz (zeM F.plainAttrs_list F.slot_list_append F.type_list_append za3 (pv 5) (zaa (zmC (zdQ hr) (pv 2) (pv 4) (zaA zaE (pv 5) (zfK zdD zae) (fun _ _=>rfl)) ⟨rfl,rfl,rfl,rfl⟩) zad)))))
   (zah (zar (pv 5))))))),?_⟩
 intro D hD
 have k0 : But D H (upd H D (.dT [])):=fun b o n e=>by rw [zag n]; exact e
 have naD : a≠D:=zab ha hD
 have ncD : c≠D:=zab hc hD
 refine ⟨_,rfl,c,rfl,⟨_,SqL.of (k0 _ _ ncD hc)⟩,?_⟩
 refine zgH (xs:=us) (fun i σ H2=>∃ x3 x4 : Option V,σ = [some (.ref a),some (.ref c),some (.ref D),x3,x4,none]∧H2 D = some (.dT (kvT 0 (cs.take i)))∧But D H H2) ?_ ?_ ?_ ?_
 ·exact ⟨_,_,rfl,zac,k0⟩
 ·rintro i σ H2 _ ⟨x3,x4,rfl,_,k2⟩
  exact SqL.of (k2 _ _ ncD hc)
 ·rintro i x σ H2 r hx ⟨x3,x4,rfl,h2,k2⟩ hr
  obtain ⟨e,he,hhas⟩:=hu.get hx
  obtain ⟨b,y1,y2,rfl,hb,hy1,hy2⟩:=(show hasP K H e x from hhas)
  have hy1 : y1 = .int e.1:=hy1
  have hy2 : y2 = .int e.2:=hy2
  subst hy1 hy2
  have hi:=(List.getElem?_eq_some_iff.mp he).1
  have htk : cs.take (i + 1) = cs.take i ++ [e]:=by
   rw [List.take_succ_eq_append_getElem hi,(List.getElem?_eq_some_iff.mp he).2]
  refine ⟨r,_,rfl,SqT.of zac,rfl,_,_,rfl,_,_,rfl,rfl,?_⟩
  have sr:=zaj hr (.tup [.int (i : Int),.ref b])
  have h3:=sr _ _ h2
  have k3 : But D H (upd H2 r (.tup [.int (i : Int),.ref b])):=fun b o n e=>sr b o (k2 b o n e)
  clear sr
  generalize upd H2 r (.tup [.int (i : Int),.ref b]) = H3 at h3 k3 ⊢
  have h3b:=k3 _ _ (zab hb hD) hb
  have hnot : e∉cs.take i:=fun z=>by
   have hn2:=hnd
   rw [← List.take_append_drop (i + 1) cs,htk] at hn2
   have:=(List.nodup_append.mp (List.nodup_append.mp hn2).1).2.2 e z e (List.mem_singleton.mpr rfl)
   exact this rfl
  refine ⟨_,rfl,_,_,rfl,rfl,_,rfl,_,rfl,D,_,rfl,DPut.t (k:=kE e) h3 h3b (zam (by rw [zlw,List.length_take]; omega)),?_⟩
  refine ⟨_,_,rfl,?_,fun b o n e=>by rw [zag n]; exact k3 b o n e⟩
  rw [zac,zd6 _ (by rw [zie,if_neg hnot]),htk,zjj,List.length_take,Nat.min_eq_left (by omega),Nat.zero_add]
  rfl
 ·rintro σ H2 ⟨x3,x4,rfl,h2,k2⟩
  rw [List.take_of_length_le (by omega)] at h2
  refine ⟨(by show 1≤sizeLine; decide),fun p hp=>?_⟩
  have nDp : D≠p:=zab h2 hp
  have s2 : Same H H2:=fun b o e=>k2 b o (zab e hD) e
  have k3 : But p H2 (upd H2 p (.lst [V.int 0])):=fun b o n e=>by rw [zag n]; exact e
  have h2a:=s2 _ _ ha
  refine ⟨_,rfl,a,rfl,⟨_,SqL.of (k3 _ _ (zab h2a hp) h2a)⟩,?_⟩
  refine zgG (xs:=ws) (fun i σ H4=>∃ x4 : Option V,σ = [some (.ref a),some (.ref c),some (.ref D),x3,x4,some (.ref p)]∧H4 p = some (.lst (((List.range (i + 1)).map fun p=>stN cs (es.take p)).map nV))∧But p H2 H4) ?_ ?_ ?_ ?_
  ·exact ⟨_,rfl,zac,k3⟩
  ·rintro i σ H4 _ ⟨x4,rfl,_,k4⟩
   exact SqL.of (k4 _ _ (zab h2a hp) h2a)
  ·rintro i x σ H4 hx ⟨x4,rfl,h4,k4⟩
   obtain ⟨e,he,hhas⟩:=hw.get hx
   obtain ⟨b,y1,y2,rfl,hb,hy1,hy2⟩:=(show hasP K H e x from hhas)
   have hy1 : y1 = .int e.1:=hy1
   have hy2 : y2 = .int e.2:=hy2
   subst hy1 hy2
   have h2b:=s2 _ _ hb
   have h4b:=k4 _ _ (zab h2b hp) h2b
   have h4D:=k4 _ _ nDp h2
   have hi:=(List.getElem?_eq_some_iff.mp he).1
   have htk : es.take (i + 1) = es.take i ++ [e]:=by
    rw [List.take_succ_eq_append_getElem hi,(List.getElem?_eq_some_iff.mp he).2]
   have hon:=ziL cs (es.take i) e
   rw [← htk] at hon
   rw [zdz] at h4
   have hlen : ((((List.range i).map fun p=>stN cs (es.take p)) ++ [stN cs (es.take i)]).map nV).length < sizeLine:=zam (by
    rw [List.length_map,List.length_append,List.length_map,List.length_range,List.length_singleton]
    omega)
   refine ⟨_,rfl,.inl ⟨rfl,_,SqL.of h4⟩,?_⟩
   refine ⟨_,rfl,D,rfl,.inr ⟨_,.inl h4D⟩,_,rfl,_,rfl,_,rfl,_,_,_,_,rfl,rfl,SqL.of h4,ziz,_,DGet.t (k:=kE e) h4D h4b,?_⟩
   have ev : (valV (kvT 0 cs) (kE e)).getD (nV (stN cs (es.take i))) = nV (stN cs (es.take (i + 1))):=by
    rw [zie,hon]
    by_cases z : e∈cs
    ·rw [if_pos z,if_pos z,Nat.zero_add]
     rfl
    ·rw [if_neg z,if_neg z]
     rfl
   rw [ev]
   refine ⟨_,_,_,rfl,rfl,h4,hlen,?_⟩
   refine ⟨_,rfl,?_,fun b o n e=>by rw [zag n]; exact k4 b o n e⟩
   rw [zac,zdz,List.map_append (l₂:=[stN cs (es.take (i + 1))]),zdz]
   rfl
  ·rintro σ H4 ⟨x4,rfl,h4,k4⟩
   refine ⟨_,rfl,?_⟩
   rw [← hwl] at h4
   refine q p H4 (s2.free hp) (s2.trans fun b o e=>k4 b o (zab e hp) e) h4
theorem zaG {α β : Type} {F G : α→β→Prop} (h : ∀ a b,F a b→G a b) : ∀ {l : List α} {m : List β},Paired F l m→Paired G l m
 | _,_,.nil=>.nil
 | _,_,.cons a t=>.cons (h _ _ a) (zaG h t)
theorem zdO {α β : Type} {F : α→β→Prop} {a : α} {b : β} : ∀ {l : List α} {m : List β},Paired F l m→F a b→Paired F (l ++ [a]) (m ++ [b])
 | _,_,.nil,h=>.cons h .nil
 | _,_,.cons a t,h=>.cons a (zdO t h)
theorem zbn {α β : Type} {F : α→β→Prop} : ∀ {l : List α} {m : List β} {i : Nat} {a : α},Paired F l m→l[i]? = some a→∃ b,m[i]? = some b∧F a b
 | _,_,i,a,.nil,h=>by simp at h
 | _ :: _,b :: _,0,a,.cons h t,e=>by
  have:=Option.some.inj (show some _ = some a from e)
  subst this
  exact ⟨b,rfl,h⟩
 | _ :: _,_ :: _,i + 1,a,.cons h t,e=>by
  obtain ⟨q,h1,h2⟩:=zbn (i:=i) t (by simpa using e)
  exact ⟨q,by simpa using h1,h2⟩
def zbo (Av : List Addr) (H : Hp) (es : List En) (ps : List Nat) (rows : List (List Int)) (c : Nat) (x : V) : Prop:=∃ j s,x = .ref j∧s∉Av∧H j = some (.tup [.int (c : Int),.ref s])∧H s = some (.lst ((zgc es (zal ps rows c)).map nV))
def BrAt (Av : List Addr) (H : Hp) (ps : List Nat) (rows : List (List Int)) (k : Nat) (x : V) : Prop:=∃ b o j xs,x = .ref b∧o∉Av∧j∉Av∧H b = some (.tup [.int ((zal ps rows k).length : Nat),.ref o,.ref j])∧H o = some (.lst ((zmF k (zal ps rows k)).map nV))∧H j = some (.lst xs)∧Paired (zbo Av H (zal ps rows k) ps rows) (zaL ps k (ps.length + 1)) xs
theorem zbo.same {Av : List Addr} {H H' : Hp} {es : List En} {ps : List Nat} {rows : List (List Int)} {c : Nat} {x : V} (e : Same H H') (h : zbo Av H es ps rows c x) : zbo Av H' es ps rows c x:=by
 obtain ⟨j,s,h1,h2,h3,h4⟩:=h
 exact ⟨j,s,h1,h2,e _ _ h3,e _ _ h4⟩
theorem zbo.but {p : Addr} {Av : List Addr} {H H' : Hp} {es : List En} {ps : List Nat} {rows : List (List Int)} {c : Nat} {x : V} {zs : List V} (k : But p H H') (hp : p∈Av) (hz : H p = some (.lst zs)) (h : zbo Av H es ps rows c x) : zbo Av H' es ps rows c x:=by
 obtain ⟨j,s,h1,h2,h3,h4⟩:=h
 exact ⟨j,s,h1,h2,k _ _ (fun z=>by rw [z,hz] at h3; cases h3) h3,k _ _ (fun z=>h2 (z ▸ hp)) h4⟩
theorem zbo.less {Av Av' : List Addr} {H : Hp} {es : List En} {ps : List Nat} {rows : List (List Int)} {c : Nat} {x : V} (s : ∀ a∈Av',a∈Av) (h : zbo Av H es ps rows c x) : zbo Av' H es ps rows c x:=by
 obtain ⟨j,q,h1,h2,h3,h4⟩:=h
 exact ⟨j,q,h1,fun z=>h2 (s _ z),h3,h4⟩
theorem BrAt.same {Av : List Addr} {H H' : Hp} {ps : List Nat} {rows : List (List Int)} {k : Nat} {x : V} (e : Same H H') (h : BrAt Av H ps rows k x) : BrAt Av H' ps rows k x:=by
 obtain ⟨b,o,j,xs,h1,h2,h3,h4,h5,h6,h7⟩:=h
 exact ⟨b,o,j,xs,h1,h2,h3,e _ _ h4,e _ _ h5,e _ _ h6,zaG (fun a b=>zbo.same e) h7⟩
theorem BrAt.but {p : Addr} {Av : List Addr} {H H' : Hp} {ps : List Nat} {rows : List (List Int)} {k : Nat} {x : V} {zs : List V} (kk : But p H H') (hp : p∈Av) (hz : H p = some (.lst zs)) (h : BrAt Av H ps rows k x) : BrAt Av H' ps rows k x:=by
 obtain ⟨b,o,j,xs,h1,h2,h3,h4,h5,h6,h7⟩:=h
 exact ⟨b,o,j,xs,h1,h2,h3,kk _ _ (fun z=>by rw [z,hz] at h4; cases h4) h4,kk _ _ (fun z=>h2 (z ▸ hp)) h5,kk _ _ (fun z=>h3 (z ▸ hp)) h6,zaG (fun a b=>zbo.but kk hp hz) h7⟩
theorem BrAt.less {Av : List Addr} {H : Hp} {ps : List Nat} {rows : List (List Int)} {k : Nat} {x : V} (h : BrAt Av H ps rows k x) : BrAt [] H ps rows k x:=by
 obtain ⟨b,o,j,xs,h1,h2,h3,h4,h5,h6,h7⟩:=h
 exact ⟨b,o,j,xs,h1,(fun z=>nomatch z),(fun z=>nomatch z),h4,h5,h6,zaG (fun a b=>zbo.less (fun a z=>absurd z List.not_mem_nil)) h7⟩
def spBr (K : PySem.W.Frag) : Sp:=fun vs H Q _=>∃ (st : Addr) (ps : List Nat) (rows : List (List Int)) (t rs : Addr) (as : List Addr),vs = [.ref st]∧zaY H st ps rows t rs as∧
 ∀ (p : Addr) (xs : List V) (H' : Hp),H p = none→Same H H'→H' p = some (.lst xs)→Paired (BrAt [] H' ps rows) (List.range (ps.length + 1)) xs→Q (.ref p) H'
def znE (K : PySem.W.Frag) : Sp:=fun vs H Q _=>∃ (st : Addr) (ps : List Nat) (rows : List (List Int)) (t rs : Addr) (as : List Addr) (pf : Addr) (qs : List Addr),vs = [.ref t,.ref pf]∧zaY H st ps rows t rs as∧H pf = some (.lst (qs.map V.ref))∧zay K H ps rows (List.range (ps.length + 1)) qs∧
 ∀ (p : Addr) (xs : List V) (H' : Hp),H p = none→Same H H'→H' p = some (.lst xs)→Paired (BrAt [] H' ps rows) (List.range (ps.length + 1)) xs→Q (.ref p) H'
theorem zoy (T : Txt K mg) (D_bridges_of : DF K mg "bridges_of" zci zbw) (F_children : FC P w K mg base 1 "children" zbA (zcr K)) (F_starts_of : FC P w K mg base 1 "starts_of" zbG (ziN K)) (F_owns_of : FC P w K mg base 1 "owns_of" zcs (znw K)) : FC P w K mg base 2 "bridges_of" zbw (znE K):=by
 refine D_bridges_of.ok sc_bridges_of (fun vs H Q E h=>?_) (fun f cdv A outer s H vs Q E hr h=>?_)
 ·obtain ⟨st,ps,rows,t,rs,as,pf,qs,rfl,_⟩:=h
  rfl
 obtain ⟨st,ps,rows,t,rs,as,pf,qs,rfl,S,h1,hF,q⟩:=h
 refine ⟨_,(zaf (zap (i:=2) sc_bridges_of.nd rfl (Or.inl rfl) (zbR zad))
   (zaf (zbv PassesOwn.never rfl (zde rfl T.m_enumerate (zaa (pv 1) zad)) (zfm rfl (zaT (zao (i:=3) sc_bridges_of.nd rfl (Or.inl rfl)) (zaT (zao (i:=4) sc_bridges_of.nd rfl (Or.inr rfl)) zdf))) (zaf (zdM (i:=5) (N:=["child","full","fulls"]) (own:=1) (cap:=[4,1]) sc_bridges_of.nd rfl rfl rfl (zb2 (zas F_children hr (zaa (pv 0) (zaa (pv 3) zad)))) ⟨rfl,rfl,rfl,rfl,rfl,rfl⟩ (fun _ _ _ _ _=>(zao (i:=0) (show List.Nodup (["child","full","fulls"] : List Str) by decide +kernel) rfl (Or.inl rfl))) (fun _ _ _ _ _=>zbk) (fun _ _ _ _ _=>(zbL (zaa (pv 0) (zaa (zas F_starts_of hr (zaa (pv 1) (zaa (zaA (ze2 (K:=K)) (pv 2) (pv 0) (fun _ _=>rfl)) zad))) zad)))))
   (zah (zbz (zeM F.plainAttrs_list F.slot_list_append F.type_list_append za3 (pv 2) (zaa (zbL (zaa (zau zat rfl T.m_len boot_len (zaa (pv 4) zad)) (zaa (zas F_owns_of hr (zaa (pv 4) (zaa (pv 3) zad))) (zaa (pv 5) zad)))) zad))))))
   (zah (zar (pv 2))))),?_⟩
 have hfew:=S.few
 have hkeys:=S.keys
 have hql:=hF.length
 rw [List.length_range] at hql
 refine ⟨(by show 0≤sizeLine; decide),fun p hp=>?_⟩
 have k0 : But p H (upd H p (.lst [])):=fun b o n e=>by rw [zag n]; exact e
 have npf : pf≠p:=zab h1 hp
 refine ⟨_,rfl,pf,rfl,⟨_,SqL.of (k0 _ _ npf h1)⟩,?_⟩
 refine zgH (xs:=qs.map V.ref) (fun i σ H2=>∃ (xs : List V) (x4 x5 x6 : Option V),σ = [some (.ref t),some (.ref pf),some (.ref p),x4,x5,x6]∧H2 p = some (.lst xs)∧Paired (BrAt [p] H2 ps rows) (List.range i) xs∧But p H H2) ?_ ?_ ?_ ?_
 ·exact ⟨[],_,_,_,rfl,zac,.nil,k0⟩
 ·rintro i σ H2 _ ⟨xs,x4,x5,x6,rfl,_,_,k2⟩
  exact SqL.of (k2 _ _ npf h1)
 ·rintro i x σ H2 r hx ⟨xs,x4,x5,x6,rfl,h2,hB,k2⟩ hr
  rw [List.getElem?_map] at hx
  obtain ⟨qq,hqi,rfl⟩:=Option.map_eq_some_iff.mp hx
  have hi : i < ps.length + 1:=by
   have:=(List.getElem?_eq_some_iff.mp hqi).1
   omega
  have hxl : xs.length = i:=by
   have:=Paired.length hB
   rw [List.length_range] at this
   exact this.symm
  have noP : ∀ {b : Addr} {o : HO},H b = some o→b≠p:=fun e=>zab e hp
  have s12 : Same H H2:=fun b o e=>k2 b o (noP e) e
  have S2:=S.same s12
  have F2:=hF.same s12
  have h2f:=s12 _ _ h1
  obtain ⟨q2,hq2,ws,hq3,hw3⟩:=F2.get (i:=i) (j:=i) (List.getElem?_range hi)
  rw [hqi] at hq2
  have:=Option.some.inj hq2
  subst this
  refine ⟨r,_,rfl,SqT.of zac,rfl,_,_,rfl,_,_,rfl,rfl,?_⟩
  have sr:=zaj hr (.tup [.int (i : Int),.ref qq])
  generalize upd H2 r (.tup [.int (i : Int),.ref qq]) = H3 at sr ⊢
  refine ⟨_,rfl,_,rfl,t,ps,i,rfl,sr _ _ S2.tr,by omega,fun c H4 hc s4 h4=>?_⟩
  have s24 : Same H2 H4:=sr.trans s4
  refine ⟨c,rfl,⟨_,SqL.of h4⟩,fun D hD=>?_⟩
  have hpD : p≠D:=zab (s24 _ _ h2) hD
  have F4:=F2.same s24
  have h4q:=s24 _ _ hq3
  have h4w:=hw3.mono s24.ext
  have hfl:=zgF S.T S.len (rows:=rows) hi
  refine zcE (xs:=(zaL ps i (ps.length + 1)).map nV) (fun m σ H5=>∃ (ys : List V) (x0 : Option V),σ = [x0,some (.ref qq),some (.ref pf)]∧H5 D = some (.lst ys)∧Paired (zbo [p,D] H5 (zal ps rows i) ps rows) ((zaL ps i (ps.length + 1)).take m) ys∧But D H4 H5) ?_ ?_ ?_ ?_
  ·exact ⟨[],_,rfl,zac,.nil,fun b o n e=>by rw [zag n]; exact e⟩
  ·rintro m σ H5 _ ⟨ys,x0,rfl,_,_,k5⟩
   exact k5.sq (SqL.of h4) hD
  ·rintro m u x σ H5 hx hm ⟨ys,x0,rfl,h5,hJ,k5⟩
   obtain ⟨hmi,rfl⟩:=zjq hx
   have hcl:=zcG ps i (ps.length + 1)
   have hyl:=Paired.length hJ
   rw [List.length_take] at hyl
   rw [List.length_map] at hm
   have hcm : (zaL ps i (ps.length + 1))[m]? = some ((zaL ps i (ps.length + 1)).getD m 0):=by
    rw [List.getD_eq_getElem?_getD,List.getElem?_eq_getElem hmi]
    rfl
   have htk2 : (zaL ps i (ps.length + 1)).take (m + 1) = (zaL ps i (ps.length + 1)).take m ++ [(zaL ps i (ps.length + 1)).getD m 0]:=by
    rw [List.take_succ_eq_append_getElem hmi,List.getD_eq_getElem?_getD,List.getElem?_eq_getElem hmi]
    rfl
   rw [htk2]
   generalize (zaL ps i (ps.length + 1)).getD m 0 = ch at hcm ⊢
   obtain ⟨hchn,hchp⟩:=zaz.mp (List.mem_of_getElem? hcm)
   have s45 : Same H4 H5:=fun b o e=>k5 b o (zab e hD) e
   have F5:=F4.same s45
   obtain ⟨qc,hqc,wc,hqc3,hwc⟩:=F5.get (i:=ch) (j:=ch) (List.getElem?_range hchn)
   have hfc:=zgF S.T S.len (rows:=rows) hchn
   refine zcZ ?_
   refine ⟨_,rfl,_,rfl,_,rfl,_,rfl,_,_,_,_,rfl,rfl,SqL.of (s45 _ _ (s24 _ _ h2f)),zf9 hqc,?_⟩
   refine ⟨qq,qc,ws,wc,zal ps rows i,zal ps rows ch,rfl,s45 _ _ h4q,h4w.mono s45.ext,by omega,hqc3,hwc,by omega,zfu S.T S.R hchn,fun sa H6 hsa s6 h6=>?_⟩
   refine ⟨(by show 2≤sizeLine; decide),fun j hj=>?_⟩
   have sj:=zaj hj (.tup [.int (ch : Int),.ref sa])
   have hjj : upd H6 j (.tup [.int (ch : Int),.ref sa]) j = some (.tup [.int (ch : Int),.ref sa]):=zac
   generalize upd H6 j (.tup [.int (ch : Int),.ref sa]) = H7 at sj hjj ⊢
   have s57:=s6.trans sj
   have h7D:=s57 _ _ h5
   have nsaD : sa≠D:=Ne.symm (zab h5 hsa)
   have nsap : sa≠p:=Ne.symm (zab (s45 _ _ (s24 _ _ h2)) hsa)
   have kD : But D H7 (upd H7 D (.lst (ys ++ [.ref j]))):=fun b o n e=>by rw [zag n]; exact e
   refine ⟨_,h7D,zam (by omega),u - 1,by omega,by rw [List.length_map]; omega,ys ++ [.ref j],_,rfl,zac,?_,fun b o n e=>by rw [zag n]; exact s57 _ _ (k5 b o n e)⟩
   refine zdO (zaG (fun a b h=>zbo.but kD (List.mem_cons_of_mem _ List.mem_cons_self) h7D (zbo.same s57 h)) hJ) ?_
   refine zbo.but kD (List.mem_cons_of_mem _ List.mem_cons_self) h7D ⟨j,sa,rfl,?_,hjj,sj _ _ h6⟩
   intro z
   rcases List.mem_cons.mp z with z | z
   ·exact nsap z
   ·exact nsaD (List.mem_singleton.mp z)
  ·rintro σ H5 ⟨ys,x0,rfl,h5,hJ,k5⟩
   rw [List.length_map,List.take_of_length_le (Nat.le_refl _)] at hJ
   have s45 : Same H4 H5:=fun b o e=>k5 b o (zab e hD) e
   have s25:=s24.trans s45
   refine ⟨_,rfl,.inl ⟨rfl,_,SqL.of (s25 _ _ h2)⟩,_,rfl,_,_,rfl,.inl (SqL.of (s45 _ _ h4q)),?_⟩
   have hwl:=h4w.length
   refine ⟨_,rfl,_,rfl,qq,ws,zal ps rows i,i,rfl,s45 _ _ h4q,h4w.mono s45.ext,by omega,fun o H6 ho s6 h6=>?_⟩
   refine ⟨_,rfl,(by show 3≤sizeLine; decide),fun b hb=>?_⟩
   have sb:=zaj hb (.tup [.int ((ws.length : Nat) : Int),.ref o,.ref D])
   have hbb : upd H6 b (.tup [.int ((ws.length : Nat) : Int),.ref o,.ref D]) b = some (.tup [.int ((ws.length : Nat) : Int),.ref o,.ref D]):=zac
   generalize upd H6 b (.tup [.int ((ws.length : Nat) : Int),.ref o,.ref D]) = H7 at sb hbb ⊢
   have s57:=s6.trans sb
   have s27:=s25.trans s57
   have h7p:=s27 _ _ h2
   have kp : But p H7 (upd H7 p (.lst (xs ++ [.ref b]))):=fun b o n e=>by rw [zag n]; exact e
   have nop : o≠p:=Ne.symm (zab (s25 _ _ h2) ho)
   refine ⟨_,_,_,rfl,rfl,h7p,zam (by omega),?_⟩
   refine ⟨xs ++ [.ref b],_,_,_,rfl,zac,?_,fun b o n e=>by rw [zag n]; exact s27 _ _ (k2 b o n e)⟩
   rw [List.range_succ]
   refine zdO (zaG (fun a b h=>BrAt.but kp List.mem_cons_self h7p (BrAt.same s27 h)) hB) ?_
   refine BrAt.but kp List.mem_cons_self h7p ⟨b,o,D,ys,rfl,fun z=>nop (List.mem_singleton.mp z),fun z=>hpD (List.mem_singleton.mp z).symm,?_,sb _ _ h6,s57 _ _ h5,?_⟩
   ·rw [hbb,hwl]
   ·exact zaG (fun a b h=>zbo.same s57 (zbo.less (fun a z=>by rw [List.mem_singleton.mp z]; exact List.mem_cons_self) h)) hJ
 ·rintro σ H2 ⟨xs,x4,x5,x6,rfl,h2,hB,k2⟩
  refine ⟨_,rfl,?_⟩
  rw [List.length_map,← hql] at hB
  refine q p xs H2 hp (fun b o e=>k2 b o (zab e hp) e) h2 (zaG (fun a b=>BrAt.less) hB)
theorem zjU (T : Txt K mg) (D_bridges : DF K mg "bridges" zd2 zcA) (F_full_rows : FC P w K mg base 8 "full_rows" zbm (zhU K)) (F_bridges_of : FC P w K mg base 2 "bridges_of" zbw (znE K)) : FC P w K mg base 9 "bridges" zcA (spBr K):=by
 refine D_bridges.ok sc_bridges (fun vs H Q E h=>?_) (fun f cdv A outer s H vs Q E hr h=>?_)
 ·obtain ⟨st,ps,rows,t,rs,as,rfl,_⟩:=h
  rfl
 obtain ⟨st,ps,rows,t,rs,as,rfl,S,q⟩:=h
 refine ⟨_,(zah (zar (zas F_bridges_of hr (zaa (zaA zaM (pv 0) zae (fun _ _=>rfl)) (zaa (zas F_full_rows hr (zaa (pv 0) zad)) zad))))),?_⟩
 refine ⟨_,rfl,_,_,_,_,rfl,rfl,SqT.of S.st,rfl,?_⟩
 refine ⟨_,rfl,st,ps,rows,t,rs,as,rfl,S,fun pf qs H1 hpf s1 h1 hqn hqf hpq hF=>?_⟩
 exact ⟨st,ps,rows,t,rs,as,pf,qs,rfl,S.same s1,h1,hF,fun p xs H2 hp s2 h2 hB=>q p xs H2 (s1.free hp) (s1.trans s2) h2 hB⟩
theorem zlz {m : Nat} : ∀ {rows : List (List Int)},(∀ row∈rows,row.length≤m)→zb7 rows≤rows.length * m
 | [],_=>Nat.zero_le _
 | r :: rows,h=>by
  have h1:=h r List.mem_cons_self
  have h2:=zlz (m:=m) (rows:=rows) fun x hx=>h x (List.mem_cons_of_mem _ hx)
  unfold zb7 at h2 ⊢
  rw [List.map_cons,List.sum_cons,List.length_cons,Nat.succ_mul]
  omega
def zkF (K : PySem.W.Frag) : Sp:=fun vs H Q _=>∃ (d L : Addr) (m kk : Nat),vs = [.ref d,.int m,.int kk]∧0 < m∧m≤40∧kk≤10∧m * kk≤63∧LS K L d H∧
 ∀ (st : Addr) (ps : List Nat) (rows : List (List Int)) (t rs : Addr) (as : List Addr) (H' : Hp),H st = none→zaY H' st ps rows t rs as→Keep d H H'→LS K L d H'→Q (.ref st) H'
theorem zlc (T : Txt K mg) (D_l_stand : DF K mg "_law_stand" zdX zct) (F_l_tree : FC P w K mg base 3 "_law_tree" zda (znu K)) (F_l_rows : FC P w K mg base 5 "_law_rows" zdb (znv K)) : FC P w K mg base 6 "_law_stand" zct (zkF K):=by
 refine D_l_stand.ok sc_l_stand (fun vs H Q E h=>?_) (fun f cdv A outer s H vs Q E hr h=>?_)
 ·obtain ⟨d,L,m,kk,rfl,_⟩:=h
  rfl
 obtain ⟨d,L,m,kk,rfl,hm0,hm,hkk,hmk,hs,q⟩:=h
 refine ⟨_,(zaf (zap (i:=3) sc_l_stand.nd rfl (Or.inl rfl) (zas F_l_tree hr (zaa (pv 0) (zaa (pv 1) zad))))
   (zah (zar (zbL (zaa (pv 3) (zaa (zas F_l_rows hr (zaa (pv 0) (zaa (zau zat rfl T.m_len boot_len (zaa (pv 3) zad)) (zaa (pv 2) zad)))) zad)))))),?_⟩
 refine ⟨_,rfl,_,rfl,d,L,m,rfl,⟨by omega,by omega⟩,hs,fun t ps H1 ht hT hl h1 k1 s1=>?_⟩
 refine ⟨_,rfl,_,rfl,_,rfl,_,_,rfl,.inr (SqT.of h1),_,rfl,?_⟩
 refine ⟨d,L,(zcI ps).length,kk,rfl,by rw [zaw]; omega,by omega,s1,fun r as rows H2 hr2 hA hrl hR hlen h2 k2 s2=>?_⟩
 rw [zaw] at hrl
 have ntd : t≠d:=fun z=>by
  obtain ⟨_,_,_,e,_⟩:=s1.ex
  rw [← z,h1] at e
  cases e
 refine ⟨(by show 2≤sizeLine; decide),fun st hst=>?_⟩
 have ss:=zaj hst (.tup [.ref t,.ref r])
 have hk:=zlz hlen
 have hk2 : rows.length * kk≤m * kk:=Nat.mul_le_mul_right kk (by omega)
 have std : st≠d:=fun z=>by
  obtain ⟨_,_,_,e,_⟩:=s2.ex
  rw [← z,hst] at e
  cases e
 refine q st ps rows t r as _ ?_ ⟨zac,ss _ _ (k2 _ _ ntd h1),ss _ _ h2,hA.ext ss,hrl,hT,hR,by omega,by omega⟩ (fun b o n e=>ss _ _ (k2 _ _ n (k1 _ _ n e))) (s2.same ss)
 cases e : H st with
 | none=>rfl
 | some o=>
  have:=k2 _ _ std (k1 _ _ std e)
  rw [hst] at this
  cases this
def zax (es : List (Int×Int)) (key : Int) : Nat:=(es.filter fun e=>decide (e.1 < key)).length
theorem zme {es : List (Int×Int)} {key : Int} {m : Nat} (hm : m≤es.length) (h1 : ∀ i,i < m→decide ((es.getD i (0,0)).1 < key) = true) (h2 : ∀ i,m≤i→i < es.length→decide ((es.getD i (0,0)).1 < key) = false) : zax es key = m:=by
 unfold zax
 conv=>lhs; rw [← List.take_append_drop m es]
 rw [List.filter_append,List.length_append]
 have e1 : (es.take m).filter (fun e=>decide (e.1 < key)) = es.take m:=by
  rw [List.filter_eq_self]
  intro x hx
  obtain ⟨i,hi,rfl⟩:=List.getElem_of_mem hx
  rw [List.length_take] at hi
  have:=h1 i (by omega)
  rw [List.getD_eq_getElem?_getD,List.getElem?_eq_getElem (by omega)] at this
  rw [List.getElem_take]
  exact this
 have e2 : (es.drop m).filter (fun e=>decide (e.1 < key)) = []:=by
  rw [List.filter_eq_nil_iff]
  intro x hx
  obtain ⟨i,hi,rfl⟩:=List.getElem_of_mem hx
  rw [List.length_drop] at hi
  have:=h2 (m + i) (by omega) (by omega)
  rw [List.getD_eq_getElem?_getD,List.getElem?_eq_getElem (by omega)] at this
  rw [List.getElem_drop]
  intro z
  rw [show decide (es[m + i].1 < key) = false from this] at z
  cases z
 rw [e1,e2,List.length_take,List.length_nil]
 omega
theorem zd5 {es : List (Int×Int)} (h : Rise es) : es.Pairwise (fun a b=>a.1≤b.1):=h.imp fun {a b} h=>by
 have:=zco.mp h
 omega
theorem zcH (es : List (Int×Int)) (key : Int) : zax es key≤es.length:=List.length_filter_le _ _
theorem zcW {key : Int} : ∀ {es : List (Int×Int)},es.Pairwise (fun a b=>a.1≤b.1)→(∀ e∈es.take (zax es key),e.1 < key)∧∀ e∈es.drop (zax es key),¬ e.1 < key
 | [],_=>⟨fun e he=>(by simp at he),fun e he=>(by simp at he)⟩
 | a :: es,h=>by
  rw [List.pairwise_cons] at h
  obtain ⟨h1,h2⟩:=zcW (key:=key) h.2
  by_cases c : a.1 < key
  ·have e : zax (a :: es) key = zax es key + 1:=by
    unfold zax
    rw [List.filter_cons_of_pos (by simpa using c),List.length_cons]
   rw [e,List.take_succ_cons,List.drop_succ_cons]
   refine ⟨fun x hx=>?_,h2⟩
   rcases List.mem_cons.mp hx with z | z
   ·rw [z]
    exact c
   ·exact h1 x z
  ·have all : ∀ x∈a :: es,¬ x.1 < key:=fun x hx=>by
    rcases List.mem_cons.mp hx with z | z
    ·rw [z]
     exact c
    ·have:=h.1 x z
     omega
   have e : zax (a :: es) key = 0:=by
    unfold zax
    rw [List.filter_eq_nil_iff.mpr fun x hx=>by simpa using all x hx]
    rfl
   rw [e]
   exact ⟨fun x hx=>(by simp at hx),fun x hx=>all x (by simpa using hx)⟩
theorem zeL {es : List (Int×Int)} {key : Int} (h : es.Pairwise (fun a b=>a.1≤b.1)) : es.take (zax es key) = es.filter fun e=>decide (e.1 < key):=by
 obtain ⟨h1,h2⟩:=zcW (key:=key) h
 conv=>rhs; rw [← List.take_append_drop (zax es key) es]
 rw [List.filter_append,List.filter_eq_self.mpr fun e he=>decide_eq_true (h1 e he),List.filter_eq_nil_iff.mpr fun e he z=>h2 e he (of_decide_eq_true z),List.append_nil]
theorem zgM {es : List (Int×Int)} {key : Int} (h : es.Pairwise (fun a b=>a.1≤b.1)) {i : Nat} (hi : i < es.length) : (i < zax es key→es[i].1 < key)∧(zax es key≤i→¬ es[i].1 < key):=by
 obtain ⟨h1,h2⟩:=zcW (key:=key) h
 refine ⟨fun z=>h1 _ ?_,fun z=>h2 _ ?_⟩
 ·exact List.mem_take_iff_getElem.mpr ⟨i,by omega,rfl⟩
 ·refine List.mem_drop_iff_getElem.mpr ⟨i - zax es key,by omega,?_⟩
  congr 1
  omega
structure NearOk (C F hd : List (Int×Int)) (key : Int) (st : Nat) : Prop where
 lo : st≤zax C key
 hi : zax C key≤st + 2
 none : st = 0→∀ e∈hd,¬ e.1 < key
 some : st≠0→∃ h : st - 1 < C.length,C[st - 1]∈hd∧C[st - 1].1 < key∧C[st - 1]∈F
theorem zoA {ps : List Nat} (T : zaB ps) {rows : List (List Int)} (R : zaH rows) (few : ps.length≤40) {k c : Nat} (hk : k < ps.length + 1) (hc : par ps c = some k) (key : Int) :
  NearOk (zal ps rows c) (zal ps rows k) (zbN (zal ps rows c)) key (stN (zal ps rows c) ((zal ps rows k).take (zax (zal ps rows k) key))):=by
 have hcn:=(zaV T hc).2
 have hst:=st_is T R hk hc (rows:=rows) (zax (zal ps rows k) key) (zcH _ _)
 have hF:=zd5 (zaW T R hk)
 have hC:=zd5 (zaW T R hcn)
 have hcome:=zl1 T R hk hc (rows:=rows)
 have hgr:=fun t=>zob (zfv T R few hcn) (zaW T R hcn) (t:=t)
 have hla:=zoa (zfv T R few hcn) (zaW T R hcn)
 have hsub:=zbb (zal ps rows c)
 have hpick:=zf3 (zal ps rows c)
 have hspl : ∀ j∈spL (zal ps rows c),j < (zal ps rows c).length:=fun j hj=>by
  have:=(ziR (zal ps rows c)).lt hj
  rw [zbe] at this
  exact this
 have ht : inN (zal ps rows c) ((zal ps rows k).take (zax (zal ps rows k) key)) = zax (zbN (zal ps rows c)) key:=by
  unfold inN
  rw [zeL hF,← hcome]
  unfold zax
  rw [List.filter_filter,List.filter_filter]
  congr 2
  funext e
  rw [Bool.and_comm]
 rw [hst,ht]
 have hmem : ∀ e∈zbN (zal ps rows c),e∈zal ps rows k:=fun e he=>by
  rw [← hcome] at he
  exact (List.mem_filter.mp he).1
 clear hst ht hcome hF
 generalize zal ps rows k = F at hmem ⊢
 generalize zal ps rows c = C at *
 have hhd : (zbN C).Pairwise (fun a b=>a.1≤b.1):=hC.sublist hsub
 have hlen : (zbN C).length = (spL C).length:=by rw [hpick,List.length_map]
 have hti:=zcH (zbN C) key
 have hat : ∀ i (h : i < (spL C).length),∃ (h1 : (spL C)[i] < C.length) (h2 : i < (zbN C).length),(zbN C)[i] = C[(spL C)[i]]:=fun i h=>by
  have h1:=hspl _ (List.getElem_mem h)
  refine ⟨h1,by omega,?_⟩
  have e : (zbN C)[i]? = some C[(spL C)[i]]:=by
   rw [hpick,List.getElem?_map,List.getElem?_eq_getElem h]
   show some (C.getD (spL C)[i] (0,0)) = _
   rw [List.getD_eq_getElem?_getD,List.getElem?_eq_getElem h1]
   rfl
  exact (List.getElem?_eq_some_iff.mp e).2
 have bat:=fun i h=>zgM (key:=key) hhd (i:=i) h
 have cat:=fun i h=>zgM (key:=key) hC (i:=i) h
 have hall:=zcW (key:=key) hhd
 generalize zax (zbN C) key = t at *
 have hsp : ∀ i (h : i < (spL C).length),stAt (spL C) (i + 1) = (spL C)[i] + 1:=fun i h=>by
  unfold stAt
  rw [if_neg (by omega),Nat.add_sub_cancel,List.getD_eq_getElem?_getD,List.getElem?_eq_getElem h]
  rfl
 have before : ∀ t',t = t' + 1→∃ (h : t' < (spL C).length) (h1 : (spL C)[t'] < C.length),stAt (spL C) t = (spL C)[t'] + 1∧C[(spL C)[t']]∈zbN C∧C[(spL C)[t']].1 < key:=fun t' e=>by
  have h : t' < (spL C).length:=by omega
  obtain ⟨h1,h2,h3⟩:=hat t' h
  refine ⟨h,h1,by rw [e]; exact hsp t' h,?_,?_⟩
  ·rw [← h3]
   exact List.getElem_mem h2
  ·rw [← h3]
   exact (bat t' h2).1 (by omega)
 refine ⟨?_,?_,?_,?_⟩
 ·cases t with
  | zero=>exact Nat.zero_le _
  | succ t'=>
   obtain ⟨h,h1,e,_,hlt⟩:=before t' rfl
   rw [e]
   refine Nat.succ_le_of_lt (Nat.lt_of_not_le fun z=>(cat _ h1).2 z hlt)
 ·rcases Nat.lt_or_ge t (spL C).length with z | z
  ·obtain ⟨h1,h2,h3⟩:=hat t z
   have hge : ¬ C[(spL C)[t]].1 < key:=by
    rw [← h3]
    exact (bat t h2).2 (Nat.le_refl _)
   have hle : zax C key≤(spL C)[t]:=Nat.le_of_not_lt fun y=>hge ((cat _ h1).1 y)
   have:=hgr t z
   rw [hsp t z] at this
   omega
  ·have e : t = (spL C).length:=by omega
   rw [e]
   have:=zcH C key
   omega
 ·intro z
  cases t with
  | zero=>exact fun e he=>hall.2 e (by simpa using he)
  | succ t'=>
   obtain ⟨_,_,e,_⟩:=before t' rfl
   omega
 ·intro z
  cases t with
  | zero=>exact absurd rfl z
  | succ t'=>
   obtain ⟨h,h1,e,hm,hlt⟩:=before t' rfl
   have e2 : stAt (spL C) (t' + 1) - 1 = (spL C)[t']:=by omega
   refine ⟨by omega,?_⟩
   have e3 : C[stAt (spL C) (t' + 1) - 1]'(by omega) = C[(spL C)[t']]:=by
    congr 1
   rw [e3]
   exact ⟨hm,hlt,hmem _ hm⟩
theorem zbW {β : Type} {F : Nat→β→Prop} {n : Nat} {l : List β} {k : Nat} (h : Paired F (List.range n) l) (hk : k < n) : ∃ b,l[k]? = some b∧F k b:=zbn h (List.getElem?_range hk)
theorem zjl {Av : List Addr} {H : Hp} {es : List En} {ps : List Nat} {rows : List (List Int)} : ∀ {cs : List Nat} {xs : List V},Paired (zbo Av H es ps rows) cs xs→∃ kvs : List (Key×V),Paired (fun (z : V) (kv : Key×V)=>∃ b,z = .ref b∧H b = some (.tup [kV kv.1,kv.2])) xs kvs∧kvs.map (·.1) = cs.map (fun c : Nat=>(Sum.inl (c : Int) : Key))∧
  ∀ c∈cs,cs.Nodup→∃ s,valV kvs (.inl (c : Int)) = some (.ref s)∧H s = some (.lst ((zgc es (zal ps rows c)).map nV))
 | _,_,.nil=>⟨[],.nil,rfl,fun c hc=>nomatch hc⟩
 | c0 :: cs,_,.cons ⟨j,s,e1,_,e3,e4⟩ t=>by
  obtain ⟨kvs,h1,h2,h3⟩:=zjl t
  refine ⟨(.inl (c0 : Int),.ref s) :: kvs,.cons ⟨j,e1,e3⟩ h1,by rw [List.map_cons,h2]; rfl,fun c hc hn=>?_⟩
  rw [List.nodup_cons] at hn
  unfold valV
  by_cases z : c = c0
  ·subst z
   exact ⟨s,by rw [List.find?_cons_of_pos (by simp)]; rfl,e4⟩
  ·rw [List.find?_cons_of_neg (by simp; omega)]
   rcases List.mem_cons.mp hc with y | y
   ·exact absurd y z
   ·exact h3 c y hn.2
theorem zfD (ps : List Nat) (k n : Nat) : (zaL ps k n).Nodup:=by
 unfold zaL
 exact List.Pairwise.filter _ List.nodup_range
def figN (n : Nat) : Nat:=if h : n = 0 then 0 else figN (n / 2) + 1
termination_by n
decreasing_by exact Nat.div_lt_self (Nat.pos_of_ne_zero h) (by decide)
theorem zlR : figN 0 = 0:=by
 unfold figN
 rfl
theorem zgJ {n : Nat} (h : n≠0) : figN n = figN (n / 2) + 1:=by
 rw [figN,dif_neg h]
theorem zhB : ∀ (n a b : Nat),b≤n→a≤b→figN a≤figN b
 | 0,a,b,hb,ha=>by
  have e1 : a = 0:=by omega
  have e2 : b = 0:=by omega
  rw [e1,e2]
  exact Nat.le_refl _
 | n + 1,a,b,hb,ha=>by
  by_cases z : a = 0
  ·rw [z,zlR]
   exact Nat.zero_le _
  ·rw [zgJ z,zgJ (show b≠0 by omega)]
   exact Nat.succ_le_succ (zhB n _ _ (by omega) (by omega))
def znA (P : Program) (w : World) (K : PySem.W.Frag) (mg : Str→Option Value) (base : Heap) : Sp:=fun vs H Q _=>∃ (n : Nat) (f : Addr) (ps : List Str) (sp : Sp) (b : Nat→Bool) (R : List Nat→Hp→Prop),vs = [.int n,.ref f]∧FV P w K mg base 3 f ps sp∧R [] H∧
 (∀ (i : Nat) (L : List Nat) (H1 : Hp) (Q1 : VK),i < n→R L H1→(∀ H2,R (L ++ [i]) H2→Q1 (.bl (b i)) H2)→sp [.int i] H1 Q1 E0)∧(∀ i j,i≤j→j < n→b j = true→b i = true)∧
 ∀ (m : Nat) (L : List Nat) (H' : Hp),m≤n→(∀ i,i < m→b i = true)→(∀ i,m≤i→i < n→b i = false)→L.length≤figN n→R L H'→Q (.int m) H'
def wMesHL : L2.St→Hp→Nat:=fun σ _=>match σ with
 | [_,_,some (.int lo),some (.int hi),_]=>(hi - lo).toNat
 | _=>0
theorem ok_how (T : Txt K mg) (D_how_many_below : DF K mg "how_many_below" zbj zaU) : FC P w K mg base 4 "how_many_below" zaU (znA P w K mg base):=by
 refine D_how_many_below.ok sc_how_many_below (fun vs H Q E h=>?_) (fun f cdv A outer s H vs Q E hr h=>?_)
 ·obtain ⟨n,f,ps,sp,b,R,rfl,_⟩:=h
  rfl
 obtain ⟨n,f,ps,sp,b,R,rfl,hF,hR,hask,hmono,q⟩:=h
 refine ⟨_,(zaf (zap (i:=2) sc_how_many_below.nd rfl (Or.inl rfl) zae)
   (zaf (zap (i:=3) sc_how_many_below.nd rfl (Or.inl rfl) (pv 0))
   (zaf (zgm PassesOwn.never (zav zfL (pv 2) (pv 3) (zaF _)) (zaf (zap (i:=4) sc_how_many_below.nd rfl (Or.inl rfl) (zaq zh4 (zaq za6 (pv 2) (pv 3)) zae))
   (zah (zcy (zhe (zgq (kr:=3) hr (pv 1) (zaa (pv 4) zad))) (zah (zap (i:=2) sc_how_many_below.nd rfl (Or.inl rfl) (zaq za6 (pv 4) zae))) (zah (zap (i:=3) sc_how_many_below.nd rfl (Or.inl rfl) (pv 4)))))))
   (zah (zar (pv 2)))))),?_⟩
 refine ⟨_,rfl,?_⟩
 refine zgS (fun σ H2=>∃ (lo hi : Nat) (x4 : Option V) (L : List Nat),σ = [some (.int n),some (.ref f),some (.int lo),some (.int hi),x4]∧lo≤hi∧hi≤n∧(∀ i,i < lo→b i = true)∧(∀ i,hi≤i→i < n→b i = false)∧L.length + figN (hi - lo)≤figN n∧R L H2) (fun σ H2=>∃ (lo : Nat) (x4 : Option V) (L : List Nat),σ = [some (.int n),some (.ref f),some (.int lo),some (.int lo),x4]∧lo≤n∧(∀ i,i < lo→b i = true)∧(∀ i,lo≤i→i < n→b i = false)∧L.length≤figN n∧R L H2) wMesHL ?_ ?_ ?_ ?_
 ·exact ⟨0,n,_,[],rfl,Nat.zero_le _,Nat.le_refl _,fun i h=>absurd h (Nat.not_lt_zero _),fun i h1 h2=>absurd h2 (Nat.not_lt.mpr h1),by rw [List.length_nil,Nat.sub_zero,Nat.zero_add]; exact Nat.le_refl _,hR⟩
 ·rintro σ H2 ⟨lo,hi,x4,L,rfl,h1,h2,hb1,hb2,hL,hR2⟩
  refine ⟨_,rfl,_,rfl,_,_,rfl,rfl,_,rfl,?_⟩
  refine ite2 (fun c=>?_) (fun c=>?_)
  ·have c1 : (lo : Int) < (hi : Int):=of_decide_eq_true c
   have em : ((lo : Int) + (hi : Int)) / 2 = (((lo + hi) / 2 : Nat) : Int):=by omega
   have m1 : lo≤(lo + hi) / 2:=by omega
   have m2 : (lo + hi) / 2 < hi:=by omega
   have fst : figN (hi - lo) = figN ((hi - lo) / 2) + 1:=zgJ (by omega)
   have fle : ∀ d,d≤(hi - lo) / 2→(L ++ [(lo + hi) / 2]).length + figN d≤figN n:=fun d hd=>by
    have:=zhB _ d _ (Nat.le_refl _) hd
    rw [List.length_append,List.length_singleton]
    omega
   refine ⟨_,rfl,_,rfl,_,_,rfl,rfl,_,_,rfl,rfl,⟨by decide,by decide⟩,?_⟩
   refine ⟨_,rfl,f,3,ps,sp,rfl,hF,Nat.le_refl _,_,rfl,?_⟩
   show sp [V.int (((lo : Int) + (hi : Int)) / 2)] H2 _ E0
   rw [em]
   refine hask ((lo + hi) / 2) L H2 _ (by omega) hR2 fun H3 hR3=>⟨_,rfl,?_⟩
   cases hbm : b ((lo + hi) / 2) with
   | true=>
    refine iteT ?_
    refine ⟨_,rfl,_,_,rfl,rfl,⟨(lo + hi) / 2 + 1,hi,some (V.int (((lo : Int) + (hi : Int)) / 2)),_,?_,by omega,h2,fun i hi'=>hmono i ((lo + hi) / 2) (by omega) (by omega) hbm,hb2,fle _ (by omega),hR3⟩,?_⟩
    ·show [some (V.int n),some (V.ref f),some (V.int (((lo : Int) + (hi : Int)) / 2 + 1)),some (V.int hi),some (V.int (((lo : Int) + (hi : Int)) / 2))] = _
     rw [em,Int.natCast_add]
     rfl
    ·show ((hi : Int) - (((lo : Int) + (hi : Int)) / 2 + 1)).toNat < ((hi : Int) - (lo : Int)).toNat
     omega
   | false=>
    refine iteF ?_
    refine ⟨_,rfl,⟨lo,(lo + hi) / 2,some (V.int (((lo : Int) + (hi : Int)) / 2)),_,?_,m1,by omega,hb1,fun i hi' hin=>?_,fle _ (by omega),hR3⟩,?_⟩
    ·show [some (V.int n),some (V.ref f),some (V.int lo),some (V.int (((lo : Int) + (hi : Int)) / 2)),some (V.int (((lo : Int) + (hi : Int)) / 2))] = _
     rw [em]
    ·cases hbi : b i with
     | false=>rfl
     | true=>
      have:=hmono ((lo + hi) / 2) i hi' hin hbi
      rw [hbm] at this
      cases this
    ·show ((((lo : Int) + (hi : Int)) / 2) - (lo : Int)).toNat < ((hi : Int) - (lo : Int)).toNat
     omega
  ·have c1 : ¬ (lo : Int) < (hi : Int):=of_decide_eq_false (Bool.eq_false_iff.mpr c)
   have e : hi = lo:=by omega
   subst e
   exact ⟨hi,_,L,rfl,h2,hb1,hb2,by omega,hR2⟩
 ·intro σ H Q Q' m h
  obtain ⟨y1,e3,y2,e4,i2,j2,f2,g2,b2,e5,q⟩:=h
  exact ⟨y1,e3,y2,e4,i2,j2,f2,g2,b2,e5,m _ _ q⟩
 rintro σ H2 ⟨lo,x4,L,rfl,h2,hb1,hb2,hL,hR2⟩
 refine ⟨_,rfl,?_⟩
 exact q lo L H2 h2 hb1 hb2 hL hR2
abbrev zlt : Str:=(envOfC ("first_place" : Str) (zai zaN) 0 0 .none).qual ++ "<lambda>"
abbrev zfr : Pos:=⟨126,44,126,73⟩
structure zeu (H : Hp) (wa : Addr) (ps w : List Nat) : Prop where
 at_ : H wa = some (.lst (w.map nV))
 len : w.length≤900
 ne : w≠[]
 ch : zkh ps w
 kn : ∀ x∈w,x < ps.length + 1
theorem cutV_to (xs : List V) (a : Nat) : cutV xs none (some (a : Int)) = xs.take a:=by
 unfold cutV
 rw [zc4,show HT.sIx xs.length 0 none = 0 from rfl,List.drop_zero,Nat.sub_zero]
 by_cases h : a≤xs.length
 ·rw [Nat.min_eq_left h]
 ·rw [Nat.min_eq_right (by omega),List.take_of_length_le (Nat.le_refl _),List.take_of_length_le (by omega)]
theorem zfy (xs : List V) (a : Nat) : cutV xs (some (a : Int)) none = xs.drop a:=by
 unfold cutV
 rw [zc4,show HT.sIx xs.length xs.length none = xs.length from rfl]
 by_cases h : a≤xs.length
 ·rw [Nat.min_eq_left h,List.take_of_length_le (by rw [List.length_drop]; exact Nat.le_refl _)]
 ·rw [Nat.min_eq_right (by omega),List.drop_eq_nil_of_le (Nat.le_refl _),List.drop_eq_nil_of_le (show xs.length≤a by omega),List.take_nil]
def ownB (rows : List (List Int)) (k : Nat) (key : Int) : Nat:=((zaJ rows k).filter fun x=>decide (x < key)).length
theorem zjR {ps : List Nat} (T : zaB ps) {rows : List (List Int)} (R : zaH rows) {k : Nat} (hk : k < ps.length + 1) : ((zal ps rows k).filter fun e=>decide (e.2 = (k : Int))) = ownE rows k:=by
 have hup:=R.at_up k
 refine zkX ((zaW T R hk).filter _) ?_ fun e=>?_
 ·unfold ownE
  refine List.Pairwise.map _ (R:=fun a b : Int=>a < b) (fun a b (h : a < b)=>zco.mpr (.inl h)) hup
 ·rw [List.mem_filter]
  refine ⟨fun ⟨h1,h2⟩=>?_,fun h=>⟨(ze4 T hk).mpr (.inl h),decide_eq_true (zjb hk h).2⟩⟩
  rcases (ze4 T hk).mp h1 with h | ⟨c,hc,h⟩
  ·exact h
  ·exfalso
   have h2:=of_decide_eq_true h2
   have hcn:=(zaV T hc)
   obtain ⟨j,hj,hb,e2,_⟩:=ze6 T R hcn.2 e ((zbb _).subset h)
   have ej : j = k:=by omega
   subst ej
   have:=zeG T hcn.1
   rw [hb] at this
   cases this
theorem own_at {ps : List Nat} (T : zaB ps) {rows : List (List Int)} (R : zaH rows) {k : Nat} (hk : k < ps.length + 1) (key : Int) : zdP k ((zal ps rows k).take (zax (zal ps rows k) key)) = ownB rows k key:=by
 rw [zeL (zd5 (zaW T R hk))]
 unfold zdP
 have e : ((zal ps rows k).filter fun e=>decide (e.1 < key)).filter (fun e=>decide (e.2 = (k : Int))) = (ownE rows k).filter fun e=>decide (e.1 < key):=by
  rw [← zjR T R hk,List.filter_filter,List.filter_filter]
  congr 1
  funext e
  rw [Bool.and_comm]
 rw [e]
 unfold ownE ownB
 rw [List.filter_map,List.length_map]
 rfl
def KpV (Av : List Addr) (H H' : Hp) : Prop:=∀ b o,b∉Av→H b = some o→H' b = some o
def KpA (Av : List Addr) (mp : Addr) (H H' : Hp) : Prop:=∀ b o,b∉Av→b≠mp→H b = some o→H' b = some o
theorem KpA.trans {Av : List Addr} {mp : Addr} {H H1 H2 : Hp} (a : KpA Av mp H H1) (b : KpA Av mp H1 H2) : KpA Av mp H H2:=fun c o n1 n2 h=>b c o n1 n2 (a c o n1 n2 h)
theorem KpV.a {Av : List Addr} {mp : Addr} {H H1 : Hp} (a : KpV Av H H1) : KpA Av mp H H1:=fun c o n1 _ h=>a c o n1 h
theorem KpA.of {Av : List Addr} {mp : Addr} {H H1 : Hp} (a : Same H H1) : KpA Av mp H H1:=fun c o _ _ h=>a c o h
theorem KpA.gro {Av : List Addr} {mp : Addr} {H H1 : Hp} (a : Gro mp H H1) : KpA Av mp H H1:=fun c o _ n h=>a c o n h
theorem FV.mono {P : Program} {w : World} {K : PySem.W.Frag} {mg : Str→Option Value} {base : Heap} {j k : Nat} {f : Addr} {ps : List Str} {sp : Sp} (F : FV P w K mg base j f ps sp) (h : j≤k) : FV P w K mg base k f ps sp:=by
 obtain ⟨fd,ok,r⟩:=F.ex
 exact ⟨fd,ok.mono h,r⟩
structure AskF (P : Program) (w : World) (K : PySem.W.Frag) (mg : Str→Option Value) (base : Heap) (f : Addr) (Av : List Addr) (mp : Addr) (fp : Addr→Prop) (R : List (Nat×Nat)→Hp→Prop) (ps : List Nat) (rows : List (List Int)) (key : Int) : Prop where
 keep : ∀ L H H',R L H→(∀ b o,fp b→H b = some o→H' b = some o)→R L H'
 alloc : ∀ L H b,R L H→fp b→H b≠none
 avl : ∀ L H,R L H→∀ a∈Av,∃ zs,H a = some (.lst zs)
 nmp : ¬ fp mp
 ask : ∃ (pn : List Str) (sp : Sp),FV P w K mg base 2 f pn sp∧∀ (kn i : Nat) (L : List (Nat×Nat)) (H : Hp) (Q : VK),kn < ps.length + 1→i < (zal ps rows kn).length→R L H→
  (∀ H',R (L ++ [(kn,i)]) H'→KpV Av H H'→Q (.bl (decide (((zal ps rows kn).getD i (0,0)).1 < key))) H')→sp [.int kn,.int i] H Q E0
theorem AskF.lift {P : Program} {w : World} {K : PySem.W.Frag} {mg : Str→Option Value} {b1 b2 : Heap} {f : Addr} {Av : List Addr} {mp : Addr} {fp : Addr→Prop} {R : List (Nat×Nat)→Hp→Prop} {ps : List Nat} {rows : List (List Int)} {key : Int} (A : AskF P w K mg b1 f Av mp fp R ps rows key) (S : Sub K mg b1 b2) : AskF P w K mg b2 f Av mp fp R ps rows key:=by
 obtain ⟨a,b,c,d,pn,sp,hF,r⟩:=A
 exact ⟨a,b,c,d,pn,sp,hF.lift S,r⟩
structure zbQ (Av : List Addr) (mp : Addr) (R : List (Nat×Nat)→Hp→Prop) (ps : List Nat) (rows : List (List Int)) (br : Addr) (xs : List V) (L : List (Nat×Nat)) (H : Hp) : Prop where
 r : R L H
 avs : ∀ a∈Av,∃ zs,H a = some (.lst zs)
 at_ : H br = some (.lst xs)
 nb : br∉Av
 ba : Paired (BrAt Av H ps rows) (List.range (ps.length + 1)) xs
 tb : zbh H mp zfr zlt
section
variable {Av : List Addr} {mp : Addr} {R : List (Nat×Nat)→Hp→Prop} {ps : List Nat} {rows : List (List Int)} {br : Addr} {xs : List V} {L L' : List (Nat×Nat)} {H H' : Hp}
theorem zbQ.nm (S : zbQ Av mp R ps rows br xs L H) {b : Addr} {o : HO} (h : H b = some o) (n : ∀ tab,o≠.tbl tab) : b≠mp:=fun z=>by
 obtain ⟨tab,e,_⟩:=S.tb.ex
 rw [← z,h] at e
 exact n _ (Option.some.inj e)
theorem zbQ.na (S : zbQ Av mp R ps rows br xs L H) {b : Addr} {o : HO} (h : H b = some o) (n : ∀ zs,o≠.lst zs) : b∉Av:=fun z=>by
 obtain ⟨zs,e⟩:=S.avs b z
 rw [h] at e
 exact n _ (Option.some.inj e)
theorem zbQ.tup (S : zbQ Av mp R ps rows br xs L H) (k : KpA Av mp H H') {b : Addr} {us : List V} (h : H b = some (.tup us)) : H' b = some (.tup us):=k _ _ (S.na h (fun _ z=>nomatch z)) (S.nm h (fun _ z=>nomatch z)) h
theorem zbQ.lst (S : zbQ Av mp R ps rows br xs L H) (k : KpA Av mp H H') {b : Addr} {us : List V} (h : H b = some (.lst us)) (n : b∉Av) : H' b = some (.lst us):=k _ _ n (S.nm h (fun _ z=>nomatch z)) h
theorem zbQ.kp (S : zbQ Av mp R ps rows br xs L H) (k : KpA Av mp H H') (hT : zbh H' mp zfr zlt) (hR : R L' H') (ha : ∀ a∈Av,∃ zs,H' a = some (.lst zs)) : zbQ Av mp R ps rows br xs L' H':=
 ⟨hR,ha,S.lst k S.at_ S.nb,S.nb,zaG (fun j x ⟨b,o,j',ys,h1,h2,h3,h4,h5,h6,h7⟩=>⟨b,o,j',ys,h1,h2,h3,S.tup k h4,S.lst k h5 h2,S.lst k h6 h3,zaG (fun c y ⟨a,s,g1,g2,g3,g4⟩=>⟨a,s,g1,g2,S.tup k g3,S.lst k g4 g2⟩) h7⟩) S.ba,hT⟩
theorem zbQ.tbv (S : zbQ Av mp R ps rows br xs L H) (k : KpV Av H H') : zbh H' mp zfr zlt:=by
 obtain ⟨tab,h1,h2,h3⟩:=S.tb.ex
 refine ⟨tab,k _ _ (S.na h1 (fun _ z=>nomatch z)) h1,h2,?_⟩
 rcases h3 with h3 | ⟨c,h3,h4⟩
 ·exact .inl h3
 ·exact .inr ⟨c,h3,k _ _ (S.na h4 (fun _ z=>nomatch z)) h4⟩
end
theorem zhk {K : PySem.W.Frag} {H H' : Hp} (k : ∀ b us,H b = some (.tup us)→H' b = some (.tup us)) : ∀ {es : List (Int×Int)} {ws : List V},zak K H es ws→zak K H' es ws
 | _,_,.nil=>.nil
 | _,_,.cons h t=>by
  refine .cons ?_ (zhk k t)
  obtain ⟨a,x1,x2,rfl,hT,e1,e2⟩:=(show hasP K H _ _ from h)
  exact ⟨a,x1,x2,rfl,k _ _ hT,e1,e2⟩
theorem zn3 {H : Hp} {Pt D : Addr} {pos : Pos} {q : Str} {xs : List V} {o : HO} (x : zbh H Pt pos q) (hD : H D = some (.lst xs)) : zbh (upd H D o) Pt pos q:=by
 obtain ⟨tab,h1,h2,h3⟩:=x.ex
 have n1 : Pt≠D:=fun z=>by
  rw [z,hD] at h1
  cases h1
 refine ⟨tab,by rw [zag n1]; exact h1,h2,?_⟩
 rcases h3 with h3 | ⟨c,h3,h4⟩
 ·exact .inl h3
 ·refine .inr ⟨c,h3,?_⟩
  have n2 : c≠D:=fun z=>by
   rw [z] at h4
   rw [show H D = _ from h4] at hD
   cases hD
  show upd H D o c = _
  rw [zag n2]
  exact h4
theorem zbQ.free {Av : List Addr} {mp : Addr} {R : List (Nat×Nat)→Hp→Prop} {ps : List Nat} {rows : List (List Int)} {br : Addr} {xs : List V} {L : List (Nat×Nat)} {H H1 : Hp} (S : zbQ Av mp R ps rows br xs L H1) (k : KpA Av mp H H1) {D : Addr} (h : H1 D = none) : H D = none∧D∉Av∧D≠mp:=by
 have n1 : D∉Av:=fun z=>by
  obtain ⟨zs,e⟩:=S.avs D z
  rw [h] at e
  cases e
 have n2 : D≠mp:=fun z=>by
  obtain ⟨tab,e,_⟩:=S.tb.ex
  rw [← z,h] at e
  cases e
 refine ⟨?_,n1,n2⟩
 cases e : H D with
 | none=>rfl
 | some o=>
  have:=k _ _ n1 n2 e
  rw [h] at this
  cases this
theorem zja {ps : List Nat} (T : zaB ps) {rows : List (List Int)} (R : zaH rows) {k : Nat} (hk : k < ps.length + 1) (key : Int) : atI ((zmF k (zal ps rows k)).map nV) ((zax (zal ps rows k) key : Nat) : Int) = some (.int ((ownB rows k key : Nat) : Int)):=by
 have hle:=zcH (zal ps rows k) key
 refine zaX ?_
 rw [List.getElem?_map]
 unfold zmF
 rw [List.getElem?_map,List.getElem?_range (by omega),← own_at T R hk key]
 rfl
theorem zgT {wy : List Nat} {i : Nat} (h : i < wy.length) : (wy.map nV)[i]? = some (nV (wy.getD i 0)):=by
 rw [List.getElem?_map,List.getD_eq_getElem?_getD,List.getElem?_eq_getElem h]
 rfl
theorem zfP {wy : List Nat} {i : Nat} (h : i < wy.length) : wy.getD i 0∈wy:=by
 rw [List.getD_eq_getElem?_getD,List.getElem?_eq_getElem h]
 exact List.getElem_mem h
theorem zhS {α : Type} (f : Nat→α) {wy : List Nat} {i : Nat} (h : i < wy.length) : (wy.take (i + 1)).map f = (wy.take i).map f ++ [f (wy.getD i 0)]:=by
 rw [List.take_succ_eq_append_getElem h,List.map_append,List.getD_eq_getElem?_getD,List.getElem?_eq_getElem h]
 rfl
theorem cut_one (l : List Nat) : cutV (l.map nV) (some 1) none = (l.drop 1).map nV:=by
 rw [show (1 : Int) = ((1 : Nat) : Int) from rfl,zfy,← List.map_drop]
def zkN (P : Program) (w : World) (K : PySem.W.Frag) (mg : Str→Option Value) (base : Heap) (mp : Addr) : Sp:=fun vs H Q _=>∃ (br f : Addr) (xs : List V) (ps : List Nat) (rows : List (List Int)) (k : Nat) (key : Int) (Av : List Addr) (fp : Addr→Prop) (R : List (Nat×Nat)→Hp→Prop) (L : List (Nat×Nat)),vs = [.ref br,.int k,.ref f]∧
 AskF P w K mg base f Av mp fp R ps rows key∧zbQ Av mp R ps rows br xs L H∧zaB ps∧zaH rows∧k < ps.length + 1∧
 ∀ (H' : Hp) (L' : List (Nat×Nat)),zbQ Av mp R ps rows br xs (L ++ L') H'→KpA Av mp H H'→L'.length≤figN (zal ps rows k).length→Q (.int (zax (zal ps rows k) key : Nat)) H'
theorem zmS (T : Txt K mg) {mc mp : Addr} (D_first_place : DFT K mg "first_place" zaN za4 mc mp) (hBM : BMAt mg base) (F_how_many_below : ∀ b,Sub K mg base b→FC P w K mg b 4 "how_many_below" zaU (znA P w K mg b)) : FC P w K mg base 5 "first_place" za4 (zkN P w K mg base mp):=by
 refine D_first_place.ok sc_first_place (fun vs H Q E h=>?_) (fun f A outer s H vs Q E hr h=>?_)
 ·obtain ⟨br,f,xs,ps,rows,k,key,Av,fp,R,L,rfl,_⟩:=h
  rfl
 obtain ⟨br,f,xs,ps,rows,k,key,Av,fp,R,L,rfl,AF,S,hT,hR,hk,q⟩:=h
 refine ⟨_,(zah (zar (zh2 (kf:=2) F_how_many_below hr (zaA zaM (zaA zaE (pv 0) (pv 1) (fun _ _=>rfl)) zae (fun _ _=>rfl)) (znO (osc:=zai zaN) (N:=["bridges","knot","is_below"]) (ps:=["at"]) (caps:=["is_below","knot"]) (cap:=[2,1]) ⟨rfl,rfl,rfl,by decide +kernel,by decide +kernel,by decide +kernel,by decide +kernel⟩ (by decide +kernel) (by decide +kernel) rfl rfl rfl rfl (fun _ _ _ _ us hl=>match us,hl with | [_],_=>rfl) (fun _=>rfl)) rfl D_first_place.hd hBM (fun b _ _ _ _ _ _ _ S hr=>(zmD P w K mg b (kr:=2) hr (pv 1) (zaa (pv 2) (zaa (pv 0) zad))))))),?_⟩
 obtain ⟨x,hx,b,o,j,ys,rfl,_,_,hb,ho,hj,hJ⟩:=zbW S.ba hk
 have hF:=zd5 (zaW hT hR hk (rows:=rows))
 refine ⟨_,rfl,_,rfl,_,_,_,_,rfl,rfl,SqL.of S.at_,zaX hx,_,_,_,_,rfl,rfl,SqT.of hb,rfl,S.tb,[.ref f,.int k],rfl,?_,fun bs g c' H2 hg hT2 hC SB hV=>?_⟩
 ·intro j i v h1 h2
  rcases j with _ | _ | j
  ·cases h1; cases h2; rfl
  ·cases h1; cases h2; rfl
  ·cases h1
 obtain ⟨pn,sp,hFV,hask⟩:=(AF.lift SB).ask
 have hR2 : R L H2:=AF.keep _ _ _ S.r fun b o hb e=>hg _ _ (fun z=>AF.nmp (z ▸ hb)) e
 have S2 : zbQ Av mp R ps rows br xs L H2:=S.kp (.gro hg) hT2 hR2 (AF.avl _ _ hR2)
 refine ⟨(zal ps rows k).length,g,_,_,fun i=>decide (((zal ps rows k).getD i (0,0)).1 < key),fun L1 H1=>R (L ++ L1.map fun i=>(k,i)) H1∧KpV Av H2 H1,rfl,hV,⟨by rw [List.map_nil,List.append_nil]; exact hR2,fun _ _ _ h=>h⟩,fun i L1 H1 Q1 hi hR1 hQ=>?_,fun i j hij hj hb=>?_,fun m L1 H' hm hb1 hb2 hL hR1=>?_⟩
 ·refine ⟨rfl,hR1.2 _ _ (S2.na hC (fun _ z=>nomatch z)) hC,?_⟩
  refine ⟨_,rfl,f,2,pn,sp,rfl,hFV,Nat.le_refl _,_,rfl,_,rfl,?_⟩
  refine hask k i _ H1 _ hk hi hR1.1 fun H3 hR3 k3=>hQ _ ⟨?_,fun b o n h=>k3 _ _ n (hR1.2 _ _ n h)⟩
  rw [List.map_append,← List.append_assoc]
  exact hR3
 ·refine decide_eq_true ?_
  have hb:=of_decide_eq_true hb
  by_cases e : i = j
  ·subst e
   exact hb
  ·have:=List.pairwise_iff_getElem.mp hF i j (by omega) hj (by omega)
   rw [List.getD_eq_getElem?_getD,List.getElem?_eq_getElem (by omega)] at hb ⊢
   exact Int.lt_of_le_of_lt this hb
 ·have e:=zme hm hb1 hb2
  have q2:=q H' _ (S2.kp hR1.2.a (S2.tbv hR1.2) hR1.1 (AF.avl _ _ hR1.1)) (KpA.trans (.gro hg) hR1.2.a) (by rw [List.length_map]; exact hL)
  rw [e] at q2
  exact q2
def zkE (K : PySem.W.Frag) : Sp:=fun vs H Q _=>∃ (Av : List Addr) (br : Addr) (ps : List Nat) (rows : List (List Int)) (xs : List V) (k c m : Nat),vs = [.ref br,.int k,.int m,.int c]∧H br = some (.lst xs)∧Paired (BrAt Av H ps rows) (List.range (ps.length + 1)) xs∧zaB ps∧k < ps.length + 1∧par ps c = some k∧m≤(zal ps rows k).length∧
 ∀ H',Same H H'→Q (.int (stN (zal ps rows c) ((zal ps rows k).take m) : Nat)) H'
theorem zmH (T : Txt K mg) (D_start_in : DF K mg "start_in" zdr zbZ) : FC P w K mg base 1 "start_in" zbZ (zkE K):=by
 refine D_start_in.ok sc_start_in (fun vs H Q E h=>?_) (fun f cdv A outer s H vs Q E hr h=>?_)
 ·obtain ⟨Av,br,ps,rows,xs,k,c,m,rfl,_⟩:=h
  rfl
 obtain ⟨Av,br,ps,rows,xs,k,c,m,rfl,hbr,hB,hT,hk,hc,hm,q⟩:=h
 obtain ⟨x,hx,b,o,j,ys,rfl,_,_,hb,ho,hj,hJ⟩:=zbW hB hk
 obtain ⟨kvs,h1,h2,h3⟩:=zjl hJ
 have hcm : c∈zaL ps k (ps.length + 1):=zaz.mpr ⟨(zaV hT hc).2,hc⟩
 obtain ⟨sa,hv,hsa⟩:=h3 c hcm (zfD _ _ _)
 refine ⟨_,(zah (zar (zaA zaE (zdh (zdQ hr) (zaO (zkf rfl) rfl T.m_dict boot_dict (zaa (zaA zaM (zaA zaE (pv 0) (pv 1) (fun _ _=>rfl)) zae (fun _ _=>rfl)) zad)) (pv 3) (fun _ _=>rfl)) (pv 2) (fun _ _=>rfl)))),?_⟩
 refine ⟨_,rfl,_,rfl,_,_,_,_,rfl,rfl,SqL.of hbr,zaX hx,_,_,_,_,rfl,rfl,SqT.of hb,rfl,?_⟩
 refine ⟨j,ys,kvs,rfl,SqL.of hj,h1,?_,fun d hd=>?_⟩
 ·rw [h2]
  exact List.Pairwise.map (R:=fun a b : Nat=>a≠b) _ (fun a b (n : a≠b) z=>n (by have:=Sum.inl.inj z; omega)) (zfD ps k _)
 have sd:=zaj hd (.dK kvs)
 refine ⟨_,rfl,d,.ref sa,rfl,?_,?_⟩
 ·have:=DGet.k (k:=(.inl (c : Int))) (zac (H:=H) (a:=d) (o:=.dK kvs))
  rw [hv] at this
  exact this
 refine ⟨_,rfl,_,_,_,_,rfl,rfl,SqL.of (sd _ _ hsa),zaX (v:=nV (stN (zal ps rows c) ((zal ps rows k).take m))) ?_,q _ sd⟩
 rw [List.getElem?_map]
 unfold zgc
 rw [List.getElem?_map,List.getElem?_range (by omega)]
 rfl
def znx (P : Program) (w : World) (K : PySem.W.Frag) (mg : Str→Option Value) (base : Heap) (mp : Addr) : Sp:=fun vs H Q _=>∃ (br f : Addr) (xs : List V) (ps : List Nat) (rows : List (List Int)) (k st : Nat) (key : Int) (Av : List Addr) (fp : Addr→Prop) (R : List (Nat×Nat)→Hp→Prop) (L : List (Nat×Nat)),vs = [.ref br,.int k,.int st,.ref f]∧
 AskF P w K mg base f Av mp fp R ps rows key∧zbQ Av mp R ps rows br xs L H∧zaB ps∧zaH rows∧k < ps.length + 1∧st≤zax (zal ps rows k) key∧zax (zal ps rows k) key≤st + 2∧
 ∀ (H' : Hp) (L' : List (Nat×Nat)),zbQ Av mp R ps rows br xs (L ++ L') H'→KpA Av mp H H'→L'.length≤2→Q (.int (zax (zal ps rows k) key : Nat)) H'
theorem zot (T : Txt K mg) {mp : Addr} (D_next_place : DF K mg "next_place" zcd zbs) : FC P w K mg base 3 "next_place" zbs (znx P w K mg base mp):=by
 refine D_next_place.ok sc_next_place (fun vs H Q E h=>?_) (fun f cdv A outer s H vs Q E hr h=>?_)
 ·obtain ⟨br,f,xs,ps,rows,k,st,key,Av,fp,R,L,rfl,_⟩:=h
  rfl
 obtain ⟨br,f,xs,ps,rows,k,st,key,Av,fp,R,L,rfl,AF,S,hT,hR,hk,hlo,hhi,q⟩:=h
 refine ⟨_,(zaf (zap (i:=4) sc_next_place.nd rfl (Or.inl rfl) (zau (zl7 rfl) rfl T.m_min boot_min (zaa (zaq za6 (pv 2) (zgp rfl T.g_MOST_BEHIND_START)) (zaa (zaA zaM (zaA zaE (pv 0) (pv 1) (fun _ _=>rfl)) zae (fun _ _=>rfl)) zad))))
   (zaf (zap (i:=5) sc_next_place.nd rfl (Or.inl rfl) (pv 2))
   (zaf (zgm PassesOwn.never (PW.pt (zhd (zav zfL (pv 5) (pv 4) (zaF _)) (zfh (zhe (zgq (kr:=2) hr (pv 3) (zaa (pv 1) (zaa (pv 5) zad))))))) (zah (zap (i:=5) sc_next_place.nd rfl (Or.inl rfl) (zaq za6 (pv 5) zae))))
   (zah (zar (pv 5)))))),?_⟩
 obtain ⟨x,hx,b,o,j,ys,rfl,_,_,hb,ho,hj,hJ⟩:=zbW S.ba hk
 have hF:=zd5 (zaW hT hR hk (rows:=rows))
 have hle:=zcH (zal ps rows k) key
 have hat:=fun i h=>zgM (key:=key) hF (i:=i) h
 obtain ⟨pn,sp,hFV,hask⟩:=AF.ask
 refine ⟨_,rfl,_,_,rfl,rfl,_,rfl,_,rfl,_,_,_,_,rfl,rfl,SqL.of S.at_,zaX hx,_,_,_,_,rfl,rfl,SqT.of hb,rfl,_,_,rfl,?_⟩
 have eb : ∃ m : Nat,(if (((zal ps rows k).length : Nat) : Int) < (st : Int) + 2 then (((zal ps rows k).length : Nat) : Int) else (st : Int) + 2) = (m : Int)∧m≤(zal ps rows k).length∧m≤st + 2∧zax (zal ps rows k) key≤m:=by
  by_cases c : (((zal ps rows k).length : Nat) : Int) < (st : Int) + 2
  ·exact ⟨_,if_pos c,Nat.le_refl _,by omega,hle⟩
  ·exact ⟨st + 2,by rw [if_neg c]; rfl,by omega,Nat.le_refl _,hhi⟩
 obtain ⟨m,em,hm1,hm2,hm3⟩:=eb
 rw [em]
 refine ⟨_,rfl,?_⟩
 refine ⟨fun n σ H1=>∃ (at_ : Nat) (L1 : List (Nat×Nat)),σ = [some (.ref br),some (.int k),some (.int st),some (.ref f),some (.int m),some (.int at_)]∧st≤at_∧at_≤zax (zal ps rows k) key∧at_ + n = m∧L1.length + st = at_∧zbQ Av mp R ps rows br xs (L ++ L1) H1∧KpA Av mp H H1,⟨m - st,st,[],rfl,Nat.le_refl _,hlo,by omega,by rw [List.length_nil,Nat.zero_add],by rw [List.append_nil]; exact S,fun _ _ _ _ h=>h⟩,?_⟩
 rintro n σ H1 ⟨at_,L1,rfl,h1,h2,h3,h4,S1,k1⟩
 refine ⟨_,rfl,_,rfl,_,_,rfl,rfl,_,rfl,?_⟩
 refine ite2 (fun c=>?_) (fun c=>?_)
 ·have c1 : (at_ : Int) < (m : Int):=of_decide_eq_true c
  refine ⟨_,rfl,f,2,pn,sp,rfl,hFV,Nat.le_refl _,_,rfl,_,rfl,?_⟩
  refine hask k at_ _ H1 _ hk (by omega) S1.r fun H2 hR2 k2=>?_
  have S2:=S1.kp k2.a (S1.tbv k2) hR2 (AF.avl _ _ hR2)
  rw [List.append_assoc] at S2
  have k02 : KpA Av mp H H2:=k1.trans k2.a
  have hL2 : (L1 ++ [(k,at_)]).length = L1.length + 1:=by rw [List.length_append,List.length_singleton]
  have hge : (zal ps rows k).getD at_ (0,0) = (zal ps rows k)[at_]'(by omega):=by
   rw [List.getD_eq_getElem?_getD,List.getElem?_eq_getElem (by omega)]
   rfl
  refine ⟨_,rfl,?_⟩
  refine ite2 (fun c2=>?_) (fun c2=>?_)
  ·have c3:=of_decide_eq_true c2
   rw [hge] at c3
   have hlt : at_ < zax (zal ps rows k) key:=Nat.lt_of_not_le fun z=>(hat at_ (by omega)).2 z c3
   refine ⟨fun σ' H'=>σ' = [some (.ref br),some (.int k),some (.int st),some (.ref f),some (.int m),some (.int ((at_ : Int) + 1))]∧H' = H2,?_,?_⟩
   ·rintro σ' H' ⟨rfl,rfl⟩
    exact ⟨n - 1,by omega,at_ + 1,_,rfl,by omega,by omega,by omega,by omega,S2,k02⟩
   ·exact ⟨_,rfl,_,_,rfl,rfl,rfl,rfl⟩
  ·have hge2 : zax (zal ps rows k) key≤at_:=Nat.le_of_not_lt fun z=>c2 (decide_eq_true (by rw [hge]; exact (hat at_ (by omega)).1 z))
   have e : at_ = zax (zal ps rows k) key:=by omega
   refine ⟨_,rfl,?_⟩
   rw [e]
   exact q _ _ S2 k02 (by omega)
 ·have c1 : ¬ (at_ : Int) < (m : Int):=of_decide_eq_false (Bool.eq_false_iff.mpr c)
  have e : at_ = zax (zal ps rows k) key:=by omega
  refine iteF ?_
  refine ⟨_,rfl,?_⟩
  rw [e]
  exact q _ _ S1 k1 (by omega)
def ziO (P : Program) (w : World) (K : PySem.W.Frag) (mg : Str→Option Value) (base : Heap) (mp : Addr) : Sp:=fun vs H Q _=>∃ (br wa f : Addr) (xs : List V) (ps : List Nat) (rows : List (List Int)) (wy : List Nat) (key : Int) (Av : List Addr) (fp : Addr→Prop) (R : List (Nat×Nat)→Hp→Prop) (L : List (Nat×Nat)),vs = [.ref br,.ref wa,.ref f]∧
 AskF P w K mg base f Av mp fp R ps rows key∧zbQ Av mp R ps rows br xs L H∧zaB ps∧zaH rows∧ps.length≤40∧zeu H wa ps wy∧wa∉Av∧
 ∀ (D : Addr) (zs : List V) (H' : Hp) (L' : List (Nat×Nat)),zbQ Av mp R ps rows br xs (L ++ L') H'→KpA Av mp H H'→H D = none→H' D = some (.lst zs)→zak K H' (wy.map fun k=>(((zax (zal ps rows k) key : Nat) : Int),((ownB rows k key : Nat) : Int))) zs→L'.length≤figN (zal ps rows (wy.getD 0 0)).length + 2 * (wy.length - 1)→Q (.ref D) H'
theorem zla (T : Txt K mg) {mp : Addr} (D_search : DF K mg "search" zeR zc7) (F_first_place : FC P w K mg base 5 "first_place" za4 (zkN P w K mg base mp)) (F_start_in : FC P w K mg base 1 "start_in" zbZ (zkE K)) (F_next_place : FC P w K mg base 3 "next_place" zbs (znx P w K mg base mp)) : FC P w K mg base 6 "search" zc7 (ziO P w K mg base mp):=by
 refine D_search.ok sc_search (fun vs H Q E h=>?_) (fun f cdv A outer s H vs Q E hr h=>?_)
 ·obtain ⟨br,wa,f,xs,ps,rows,wy,key,Av,fp,R,L,rfl,_⟩:=h
  rfl
 obtain ⟨br,wa,f,xs,ps,rows,wy,key,Av,fp,R,L,rfl,AF,S,hT,hR,few,W,nwa,q⟩:=h
 have hwl:=W.len
 have hpos : 0 < wy.length:=List.length_pos_iff.mpr W.ne
 refine ⟨_,(zaf (zap (i:=3) sc_search.nd rfl (Or.inl rfl) (zas F_first_place hr (zaa (pv 0) (zaa (zaA zaE (pv 1) zae (fun _ _=>rfl)) (zaa (pv 2) zad)))))
   (zaf (zap (i:=4) sc_search.nd rfl (Or.inl rfl) (zbR (zaa (zbL (zaa (pv 3) (zaa (zaA zaE (zaA zaM (zaA zaE (pv 0) (zaA zaE (pv 1) zae (fun _ _=>rfl)) (fun _ _=>rfl)) zae (fun _ _=>rfl)) (pv 3) (fun _ _=>rfl)) zad))) zad)))
   (zaf (zbv PassesOwn.never rfl (znI rfl T.m_zip (zaa (pv 1) (zaa (zec zhV (pv 1) (zdN zae) zhZ) zad))) (zfm rfl (zaT (zao (i:=5) sc_search.nd rfl (Or.inl rfl)) (zaT (zao (i:=6) sc_search.nd rfl (Or.inl rfl)) zdf))) (zaf (zap (i:=3) sc_search.nd rfl (Or.inl rfl) (zas F_next_place hr (zaa (pv 0) (zaa (pv 6) (zaa (zas F_start_in hr (zaa (pv 0) (zaa (pv 5) (zaa (pv 3) (zaa (pv 6) zad))))) (zaa (pv 2) zad))))))
   (zah (zbz (zeM F.plainAttrs_list F.slot_list_append F.type_list_append za3 (pv 4) (zaa (zbL (zaa (pv 3) (zaa (zaA zaE (zaA zaM (zaA zaE (pv 0) (pv 6) (fun _ _=>rfl)) zae (fun _ _=>rfl)) (pv 3) (fun _ _=>rfl)) zad))) zad))))))
   (zah (zar (pv 4)))))),?_⟩
 have hk0 : wy.getD 0 0 < ps.length + 1:=W.kn _ (zfP hpos)
 have hw0 : atI (wy.map nV) 0 = some (nV (wy.getD 0 0)):=zaX (j:=0) (zgT hpos)
 refine ⟨_,rfl,_,rfl,_,_,_,_,rfl,rfl,SqL.of W.at_,hw0,_,rfl,br,f,xs,ps,rows,wy.getD 0 0,key,Av,fp,R,L,rfl,AF,S,hT,hR,hk0,fun H1 L1 S1 k1 hL1=>?_⟩
 have W1:=S.lst k1 W.at_ nwa
 obtain ⟨x0,hx0,b0,o0,j0,ys0,rfl,_,_,hb0,ho0,_,_⟩:=zbW S1.ba hk0
 refine ⟨_,rfl,_,rfl,_,rfl,_,_,_,_,rfl,rfl,SqL.of W1,hw0,_,_,_,_,rfl,rfl,SqL.of S1.at_,zaX hx0,_,_,_,_,rfl,rfl,SqT.of hb0,rfl,_,rfl,_,_,_,_,rfl,rfl,SqL.of ho0,zja hT hR hk0 key,(by show 2≤sizeLine; decide),fun t ht=>⟨(by show 1≤sizeLine; decide),fun D hD=>?_⟩⟩
 have st:=zaj ht (.tup [.int ((zax (zal ps rows (wy.getD 0 0)) key : Nat) : Int),.int ((ownB rows (wy.getD 0 0) key : Nat) : Int)])
 have sD:=zaj hD (.lst [.ref t])
 have hD1 : H1 D = none:=st.free hD
 obtain ⟨hDn,nDA,nDm⟩:=S1.free k1 hD1
 have nfD : ¬ fp D:=fun z=>AF.alloc _ _ _ S1.r z hD1
 have s13:=st.trans sD
 have tb3:=S1.tb.ext s13.ext
 have hR3:=AF.keep _ _ _ S1.r fun b o _ e=>s13 b o e
 have S3:=S1.kp (.of s13) tb3 hR3 (AF.avl _ _ hR3)
 have k03 : KpA Av mp H _:=k1.trans (.of s13)
 have h3D : upd (upd H1 t (.tup [.int ((zax (zal ps rows (wy.getD 0 0)) key : Nat) : Int),.int ((ownB rows (wy.getD 0 0) key : Nat) : Int)])) D (.lst [.ref t]) D = some (.lst [.ref t]):=zac
 have h3t:=sD _ _ (zac (H:=H1) (a:=t) (o:=.tup [.int ((zax (zal ps rows (wy.getD 0 0)) key : Nat) : Int),.int ((ownB rows (wy.getD 0 0) key : Nat) : Int)]))
 generalize upd (upd H1 t (.tup [.int ((zax (zal ps rows (wy.getD 0 0)) key : Nat) : Int),.int ((ownB rows (wy.getD 0 0) key : Nat) : Int)])) D (.lst [.ref t]) = H3 at S3 k03 h3D h3t ⊢
 clear tb3 hR3 s13 sD hD st ht hb0 ho0 hx0
 have W3:=S.lst k03 W.at_ nwa
 refine ⟨_,rfl,_,rfl,1,rfl,wa,_,rfl,SqL.of W3,fun y hy=>?_⟩
 rw [cut_one]
 have sy:=zaj hy (.lst ((wy.drop 1).map nV))
 obtain ⟨hyn,nyA,nym⟩:=S3.free k03 hy
 have nDy : D≠y:=zab h3D hy
 have tb4:=S3.tb.ext sy.ext
 have hR4:=AF.keep _ _ _ S3.r fun b o _ e=>sy b o e
 have S4:=S3.kp (.of sy) tb4 hR4 (AF.avl _ _ hR4)
 have k04 : KpA Av mp H _:=k03.trans (.of sy)
 have h4y : upd H3 y (.lst ((wy.drop 1).map nV)) y = some (.lst ((wy.drop 1).map nV)):=zac
 have h4D:=sy _ _ h3D
 have h4t:=sy _ _ h3t
 generalize upd H3 y (.lst ((wy.drop 1).map nV)) = H4 at S4 k04 h4D h4t h4y ⊢
 clear tb4 hR4 sy hy h3D h3t S3 k03 W3
 refine ⟨wa,y,rfl,⟨_,SqL.of (S.lst k04 W.at_ nwa)⟩,⟨_,SqL.of h4y⟩,?_⟩
 have hdl : ((wy.drop 1).map nV).length = wy.length - 1:=by rw [List.length_map,List.length_drop]
 refine znf (xs:=wy.map nV) (ys:=(wy.drop 1).map nV) (by rw [hdl,List.length_map]; omega) (fun i σ H5=>∃ (x5 x6 : Option V) (zs : List V) (L2 : List (Nat×Nat)),σ = [some (.ref br),some (.ref wa),some (.ref f),some (.int ((zax (zal ps rows (wy.getD i 0)) key : Nat) : Int)),some (.ref D),x5,x6]∧H5 D = some (.lst zs)∧zak K H5 ((wy.take (i + 1)).map fun k=>(((zax (zal ps rows k) key : Nat) : Int),((ownB rows k key : Nat) : Int))) zs∧zbQ Av mp R ps rows br xs (L ++ L2) H5∧KpA Av mp H H5∧L2.length≤figN (zal ps rows (wy.getD 0 0)).length + 2 * i∧H5 y = some (.lst ((wy.drop 1).map nV))) ?_ ?_ ?_ ?_
 ·refine ⟨_,_,[.ref t],L1,rfl,h4D,?_,S4,k04,by omega,h4y⟩
  rw [zhS _ hpos,List.take_zero]
  exact .cons ⟨t,_,_,rfl,h4t,rfl,rfl⟩ .nil
 ·rintro i σ H5 _ ⟨x5,x6,zs,L2,rfl,h5,hA,S5,k05,hL2,h5y⟩
  exact ⟨SqL.of (S.lst k05 W.at_ nwa),SqL.of h5y⟩
 ·rintro i x x' σ H5 p hx hx' ⟨x5,x6,zs,L2,rfl,h5,hA,S5,k05,hL2,h5y⟩ hp
  have hi : i + 1 < wy.length:=by
   have:=(List.getElem?_eq_some_iff.mp hx').1
   omega
  rw [zgT (by omega)] at hx
  cases hx
  rw [List.map_drop,List.getElem?_drop,Nat.add_comm 1 i,zgT hi] at hx'
  cases hx'
  have hpar:=W.ch i hi
  have hki : wy.getD i 0 < ps.length + 1:=W.kn _ (zfP (by omega))
  have hkj : wy.getD (i + 1) 0 < ps.length + 1:=W.kn _ (zfP hi)
  have NO:=zoA hT hR few hki hpar (rows:=rows) key
  refine ⟨p,_,rfl,SqT.of zac,rfl,_,_,rfl,_,_,rfl,rfl,?_⟩
  have s6:=zaj hp (.tup [nV (wy.getD i 0),nV (wy.getD (i + 1) 0)])
  have hR6:=AF.keep _ _ _ S5.r fun b o _ e=>s6 b o e
  have S6:=S5.kp (.of s6) (S5.tb.ext s6.ext) hR6 (AF.avl _ _ hR6)
  refine ⟨_,rfl,_,rfl,_,rfl,_,rfl,_,rfl,_,rfl,Av,br,ps,rows,xs,wy.getD i 0,wy.getD (i + 1) 0,_,rfl,S6.at_,S6.ba,hT,hki,hpar,zcH _ _,fun H7 s7=>?_⟩
  have s57:=s6.trans s7
  have hR7:=AF.keep _ _ _ S5.r fun b o _ e=>s57 b o e
  have S7:=S5.kp (.of s57) (S5.tb.ext s57.ext) hR7 (AF.avl _ _ hR7)
  refine ⟨_,rfl,br,f,xs,ps,rows,wy.getD (i + 1) 0,_,key,Av,fp,R,_,rfl,AF,S7,hT,hR,hkj,NO.lo,NO.hi,fun H8 L3 S8 k8 hL3=>?_⟩
  have k58 : KpA Av mp H5 H8:=(KpA.of s57).trans k8
  have k08:=k05.trans k58
  have h8:=k58 _ _ nDA nDm h5
  have h8y:=k58 _ _ nyA nym h5y
  obtain ⟨x1,hx1,b1,o1,j1,ys1,rfl,_,_,hb1,ho1,_,_⟩:=zbW S8.ba hkj
  have hzl:=hA.length
  rw [List.length_map,List.length_take] at hzl
  refine ⟨_,rfl,.inl ⟨rfl,_,SqL.of h8⟩,_,rfl,_,rfl,_,rfl,_,_,_,_,rfl,rfl,SqL.of S8.at_,zaX hx1,_,_,_,_,rfl,rfl,SqT.of hb1,rfl,_,rfl,_,_,_,_,rfl,rfl,SqL.of ho1,zja hT hR hkj key,(by show 2≤sizeLine; decide),fun t2 ht2=>?_⟩
  have s9:=zaj ht2 (.tup [.int ((zax (zal ps rows (wy.getD (i + 1) 0)) key : Nat) : Int),.int ((ownB rows (wy.getD (i + 1) 0) key : Nat) : Int)])
  have h9t : upd H8 t2 (.tup [.int ((zax (zal ps rows (wy.getD (i + 1) 0)) key : Nat) : Int),.int ((ownB rows (wy.getD (i + 1) 0) key : Nat) : Int)]) t2 = _:=zac
  have h9:=s9 _ _ h8
  have h9y:=s9 _ _ h8y
  have k09:=k08.trans (.of s9)
  have hR9:=AF.keep _ _ _ S8.r fun b o _ e=>s9 b o e
  have tb9:=S8.tb.ext s9.ext
  have hA9:=zhk (H':=upd H8 t2 (.tup [.int ((zax (zal ps rows (wy.getD (i + 1) 0)) key : Nat) : Int),.int ((ownB rows (wy.getD (i + 1) 0) key : Nat) : Int)])) (fun b us e=>s9 _ _ (S5.tup k58 e)) hA
  generalize upd H8 t2 (.tup [.int ((zax (zal ps rows (wy.getD (i + 1) 0)) key : Nat) : Int),.int ((ownB rows (wy.getD (i + 1) 0) key : Nat) : Int)]) = H9 at h9t h9 h9y k09 hR9 tb9 hA9 ⊢
  have k0D : KpA Av mp H (upd H9 D (.lst (zs ++ [.ref t2]))):=fun b o n1 n2 e=>by
   rw [zag (zab e hDn)]
   exact k09 _ _ n1 n2 e
  have hRD : R (L ++ L2 ++ L3) (upd H9 D (.lst (zs ++ [.ref t2]))):=AF.keep _ _ _ hR9 fun b o hb e=>by
   have n : b≠D:=fun z=>by
    rw [z] at hb
    exact nfD hb
   rw [zag n]
   exact e
  refine ⟨_,_,_,rfl,rfl,h9,zam (by omega),_,_,_,L2 ++ L3,rfl,zac,?_,?_,k0D,?_,?_⟩
  ·rw [zhS _ hi]
   exact zak.append (zbD h9 hA9) (.cons ⟨t2,_,_,rfl,by rw [zag (fun z=>by rw [z,h9] at h9t; cases h9t)]; exact h9t,rfl,rfl⟩ .nil)
  ·rw [← List.append_assoc]
   exact S.kp k0D (zn3 tb9 h9) hRD (AF.avl _ _ hRD)
  ·rw [List.length_append]
   omega
  ·rw [zag (Ne.symm nDy)]
   exact h9y
 ·rintro σ H5 ⟨x5,x6,zs,L2,rfl,h5,hA,S5,k05,hL2,h5y⟩
  rw [hdl] at hA hL2
  rw [List.take_of_length_le (by omega)] at hA
  refine ⟨_,rfl,?_⟩
  exact q D zs H5 L2 S5 k05 hDn h5 hA hL2
inductive zgP (K : PySem.W.Frag) (H : Hp) : V→Bool→Prop where
 | int (i : Int) : zgP K H (.int i) true
 | bl (b : Bool) : zgP K H (.bl b) false
 | oth (x : V) (t : String) (ty : TyOf K H x (.type t)) (h2 : kitO t "int" = some false) : zgP K H x false
def zkD (K : PySem.W.Frag) : Sp:=fun vs H Q _=>∃ (x : V) (b : Bool),vs = [x]∧zgP K H x b∧Q (.bl b) H
theorem zmG (T : Txt K mg) (D_is_whole : DF K mg "is_whole" zdt zb1) : FC P w K mg base 1 "is_whole" zb1 (zkD K):=by
 refine D_is_whole.ok sc_is_whole (fun vs H Q E h=>?_) (fun f cdv A outer s H vs Q E hr h=>?_)
 ·obtain ⟨x,b,rfl,_⟩:=h
  rfl
 obtain ⟨x,b,rfl,hk,q⟩:=h
 refine ⟨_,(zah (zar (znK (zau zjx rfl T.m_isinstance boot_isinstance (zaa (pv 0) (zaa (zk2 (v:=.ty "int") rfl T.m_int boot_int rfl) zad))) (znJ (pe_not (zau zjx rfl T.m_isinstance boot_isinstance (zaa (pv 0) (zaa (zk2 (v:=.ty "bool") rfl T.m_bool boot_bool rfl) zad)))))))),?_⟩
 cases hk with
 | int i=>
  refine ⟨_,rfl,_,_,_,_,rfl,.int _,kit_ii,_,rfl,?_⟩
  refine iteT ?_
  refine ⟨_,rfl,_,_,_,_,rfl,.int _,kit_ib,_,rfl,?_⟩
  exact q
 | bl c=>
  refine ⟨_,rfl,_,_,_,_,rfl,.bl _,(show kitO "bool" "int" = some true by decide +kernel),_,rfl,?_⟩
  refine iteT ?_
  refine ⟨_,rfl,_,_,_,_,rfl,.bl _,kit_bb,_,rfl,?_⟩
  exact q
 | oth x t ty h2=>
  refine ⟨_,rfl,_,_,_,_,rfl,ty,h2,_,rfl,?_⟩
  refine iteF ?_
  exact q
inductive zmk (K : PySem.W.Frag) (H : Hp) : V→Bool→Prop where
 | int (i : Int) (b : Bool) (h : b = decide ((if i < 0 then -i else i) < 10 ^ 60)) : zmk K H (.int i) b
 | bl (b : Bool) : zmk K H (.bl b) false
 | oth (x : V) (t : String) (ty : TyOf K H x (.type t)) (h1 : kitO t "bool" = some false) (h2 : kitO t "int" = some false) : zmk K H x false
def zkM (K : PySem.W.Frag) : Sp:=fun vs H Q _=>∃ (x : V) (b : Bool),vs = [x]∧zmk K H x b∧Q (.bl b) H
theorem zmQ (T : Txt K mg) (D_is_key : DF K mg "is_key" zeX zdc) (F_is_whole : FC P w K mg base 1 "is_whole" zb1 (zkD K)) : FC P w K mg base 2 "is_key" zdc (zkM K):=by
 refine D_is_key.ok sc_is_key (fun vs H Q E h=>?_) (fun f cdv A outer s H vs Q E hr h=>?_)
 ·obtain ⟨x,b,rfl,_⟩:=h
  rfl
 obtain ⟨x,b,rfl,hk,q⟩:=h
 refine ⟨_,(zah (zar (znK (zas F_is_whole hr (zaa (pv 0) zad)) (znJ (zh1 zfL (zau zfb rfl T.m_abs boot_abs (zaa (pv 0) zad)) (zaq zed zae zae) (zaF _)))))),?_⟩
 cases hk with
 | int i b hb=>
  refine ⟨_,rfl,_,true,rfl,.int i,_,rfl,?_⟩
  refine iteT ?_
  refine ⟨_,rfl,_,rfl,_,_,rfl,rfl,⟨by decide,by decide,by decide⟩,_,_,rfl,rfl,?_⟩
  rw [hb] at q
  exact q
 | bl c=>
  refine ⟨_,rfl,_,false,rfl,.bl c,_,rfl,?_⟩
  refine iteF ?_
  exact q
 | oth x t ty h1 h2=>
  refine ⟨_,rfl,_,false,rfl,.oth x t ty h2,_,rfl,?_⟩
  refine iteF ?_
  exact q
def zdp (k : Int) : Prop:=(if k < 0 then -k else k) < 10 ^ 60
instance (k : Int) : Decidable (zdp k):=by unfold zdp; exact inferInstance
theorem zkR {zs : List V} {k : Nat} {x : V} (h : k < zs.length) : zs.set k x = zs.take k ++ [x] ++ zs.drop (k + 1):=by
 rw [List.set_eq_take_append_cons_drop,if_pos h,List.append_assoc]
 rfl
def znt (K : PySem.W.Frag) : Sp:=fun vs H Q _=>∃ (st t rs : Addr) (zs : List V) (k : Nat) (x : V),vs = [.ref st,.int k,x]∧H st = some (.tup [.ref t,.ref rs])∧H rs = some (.tup zs)∧k < zs.length∧zs.length≤60∧
 ∀ (st' rs' : Addr) (H' : Hp),Same H H'→H' st' = some (.tup [.ref t,.ref rs'])→H' rs' = some (.tup (zs.set k x))→Q (.ref st') H'
theorem zoq (T : Txt K mg) (D_with_row : DF K mg "with_row" zdq zbY) : FC P w K mg base 1 "with_row" zbY (znt K):=by
 refine D_with_row.ok sc_with_row (fun vs H Q E h=>?_) (fun f cdv A outer s H vs Q E hr h=>?_)
 ·obtain ⟨st,t,rs,zs,k,x,rfl,_⟩:=h
  rfl
 obtain ⟨st,t,rs,zs,k,x,rfl,hst,hrs,hk,hz,q⟩:=h
 refine ⟨_,(zaf (zap (i:=3) sc_with_row.nd rfl (Or.inl rfl) (zaA zaM (pv 0) zae (fun _ _=>rfl)))
   (zah (zar (zbL (zaa (zaA zaM (pv 0) zae (fun _ _=>rfl)) (zaa (zaq zk7 (zaq zop (zec zkQ (pv 3) zhZ (zdN (pv 1))) (zbL (zaa (pv 2) zad))) (zec zkQ (pv 3) (zdN (zaq za6 (pv 1) zae)) zhZ)) zad)))))),?_⟩
 refine ⟨_,rfl,_,_,_,_,rfl,rfl,SqT.of hst,rfl,?_⟩
 refine ⟨_,rfl,_,_,_,_,rfl,rfl,SqT.of hst,rfl,?_⟩
 refine ⟨_,rfl,_,rfl,_,rfl,rs,zs,rfl,SqT.of hrs,(fun z=>?_),fun _ p hp=>?_⟩
 ·have:=z.2
  rw [zc4] at this
  omega
 rw [cutV_to]
 have g1:=zaj hp (.tup (zs.take k))
 have w1 : upd H p (.tup (zs.take k)) p = some (.tup (zs.take k)):=zac
 generalize upd H p (.tup (zs.take k)) = H1 at g1 w1 ⊢
 refine ⟨_,rfl,(by show 1≤sizeLine; decide),fun m hm=>?_⟩
 have g2:=zaj hm (.tup [x])
 have w2 : upd H1 m (.tup [x]) m = some (.tup [x]):=zac
 have w12:=g2 _ _ w1
 generalize upd H1 m (.tup [x]) = H2 at g2 w2 w12 ⊢
 have hl1 : (zs.take k).length = k:=by rw [List.length_take]; omega
 have rest : ∀ (u : Addr) (H3 : Hp),Same H2 H3→H3 u = some (.tup (zs.take k ++ [x]))→∀ {Q' : VK},(∀ (v : Addr) (H' : Hp),Same H3 H'→H' v = some (.tup (zs.set k x))→Q' (.ref v) H')→∀ (p2 : Addr) (H4 : Hp),Same H3 H4→H4 p2 = some (.tup (zs.drop (k + 1)))→rCatT K (.ref u) (.ref p2) H4 Q':=fun u H3 _ hu Q' q' p2 H4 s4 hp2=>by
  refine ⟨u,p2,_,_,rfl,rfl,SqT.of (s4 _ _ hu),SqT.of hp2,by simp,?_,fun z=>?_,fun z v hv=>?_⟩
  ·refine Nat.le_of_lt (zam ?_)
   rw [List.length_append,hl1,List.length_drop,List.length_singleton]
   omega
  ·refine q' u H4 s4 ?_
   rw [zkR hk,z,List.append_nil]
   exact s4 _ _ hu
  ·refine q' v _ (s4.trans (zaj hv _)) ?_
   rw [zac,zkR hk]
 have fin : ∀ (u : Addr) (H3 : Hp),Same H2 H3→H3 u = some (.tup (zs.take k ++ [x]))→∀ (v : Addr) (H' : Hp),Same H3 H'→H' v = some (.tup (zs.set k x))→∀ p,H' p = none→Q (.ref p) (upd H' p (.tup [.ref t,.ref v])):=fun u H3 s3 _ v H' s' hv p hp=>by
  have gp:=zaj hp (.tup [.ref t,.ref v])
  exact q p v _ (g1.trans (g2.trans (s3.trans (s'.trans gp)))) zac (gp _ _ hv)
 have e1k : (k : Int) + 1 = ((k + 1 : Nat) : Int):=by omega
 refine ⟨p,m,_,_,rfl,rfl,SqT.of w12,SqT.of w2,by simp,Nat.le_of_lt (zam (by rw [hl1]; show k + 1≤1000; omega)),fun z=>?_,fun z u hu=>?_⟩
 ·have e0 : zs.take k ++ [x] = [x]:=by rw [z]; rfl
  refine ⟨_,rfl,_,rfl,_,_,rfl,rfl,_,rfl,rs,zs,rfl,SqT.of (g2 _ _ (g1 _ _ hrs)),(fun z=>?_),fun _ p2 hp2=>?_⟩
  ·have:=z.1
   rw [e1k,zc4] at this
   omega
  rw [e1k,zfy]
  exact rest m H2 (fun _ _ e=>e) (by rw [e0]; exact w2) (fun v H' s' hv=>⟨(by show 2≤sizeLine; decide),fin m H2 (fun _ _ e=>e) (by rw [e0]; exact w2) v H' s' hv⟩) p2 _ (zaj hp2 _) zac
 ·have gu:=zaj hu (.tup (zs.take k ++ [x]))
  have wu : upd H2 u (.tup (zs.take k ++ [x])) u = some (.tup (zs.take k ++ [x])):=zac
  generalize upd H2 u (.tup (zs.take k ++ [x])) = H3 at gu wu ⊢
  refine ⟨_,rfl,_,rfl,_,_,rfl,rfl,_,rfl,rs,zs,rfl,SqT.of (gu _ _ (g2 _ _ (g1 _ _ hrs))),(fun z=>?_),fun _ p2 hp2=>?_⟩
  ·have:=z.1
   rw [e1k,zc4] at this
   omega
  rw [e1k,zfy]
  exact rest u H3 gu wu (fun v H' s' hv=>⟨(by show 2≤sizeLine; decide),fin u H3 gu wu v H' s' hv⟩) p2 _ (zaj hp2 _) zac
theorem key_fit (i : Int) {K : PySem.W.Frag} {H : Hp} : zmk K H (.int i) (decide (zdp i)):=.int i _ (by unfold zdp; rfl)
def znC (K : PySem.W.Frag) : Sp:=fun vs H Q _=>∃ (st t rs : Addr) (zs : List V) (k m : Nat) (x y : V),vs = [.ref st,.int k,.int m]∧H st = some (.tup [.ref t,.ref rs])∧H rs = some (.tup zs)∧zs[k]? = some x∧zs[m]? = some y∧zs.length≤60∧
 ∀ (st' rs' : Addr) (H' : Hp),Same H H'→H' st' = some (.tup [.ref t,.ref rs'])→H' rs' = some (.tup ((zs.set k y).set m x))→Q (.ref st') H'
theorem zow (T : Txt K mg) (D_exchanged : DF K mg "exchanged" zcN zbJ) (F_with_row : FC P w K mg base 1 "with_row" zbY (znt K)) : FC P w K mg base 2 "exchanged" zbJ (znC K):=by
 refine D_exchanged.ok sc_exchanged (fun vs H Q E h=>?_) (fun f cdv A outer s H vs Q E hr h=>?_)
 ·obtain ⟨st,t,rs,zs,k,m,x,y,rfl,_⟩:=h
  rfl
 obtain ⟨st,t,rs,zs,k,m,x,y,rfl,hst,hrs,hx,hy,hz,q⟩:=h
 have hk:=(List.getElem?_eq_some_iff.mp hx).1
 have hm:=(List.getElem?_eq_some_iff.mp hy).1
 refine ⟨_,(zaf (zap (i:=3) sc_exchanged.nd rfl (Or.inl rfl) (zaA zaM (pv 0) zae (fun _ _=>rfl)))
   (zah (zar (zas F_with_row hr (zaa (zas F_with_row hr (zaa (pv 0) (zaa (pv 1) (zaa (zaA zaM (pv 3) (pv 2) (fun _ _=>rfl)) zad)))) (zaa (pv 2) (zaa (zaA zaM (pv 3) (pv 1) (fun _ _=>rfl)) zad))))))),?_⟩
 refine ⟨_,rfl,_,_,_,_,rfl,rfl,SqT.of hst,rfl,?_⟩
 refine ⟨_,rfl,_,rfl,_,rfl,_,rfl,_,_,_,_,rfl,rfl,SqT.of hrs,zaX hy,?_⟩
 refine ⟨st,t,rs,zs,k,y,rfl,hst,hrs,hk,hz,fun st' rs' H' s' h1 h2=>?_⟩
 refine ⟨_,rfl,_,rfl,_,rfl,_,_,_,_,rfl,rfl,SqT.of (s' _ _ hrs),zaX hx,?_⟩
 exact ⟨st',t,rs',zs.set k y,m,x,rfl,h1,h2,by rw [List.length_set]; exact hm,by rw [List.length_set]; exact hz,fun st2 rs2 H2 s2 w1 w2=>q st2 rs2 H2 (s'.trans s2) w1 w2⟩
def zkI (K : PySem.W.Frag) : Sp:=fun vs H Q _=>∃ i : Int,vs = [.int i]∧zdp i∧Q .non H
theorem zmJ (T : Txt K mg) (D_need_key : DF K mg "need_key" zds zb0) (F_is_key : FC P w K mg base 2 "is_key" zdc (zkM K)) : FC P w K mg base 3 "need_key" zb0 (zkI K):=by
 refine D_need_key.ok sc_need_key (fun vs H Q E h=>?_) (fun f cdv A outer s H vs Q E hr h=>?_)
 ·obtain ⟨i,rfl,_⟩:=h
  rfl
 obtain ⟨i,rfl,c,q0⟩:=h
 refine ⟨_,(zah (zcy (znH (zhe (zas F_is_key hr (zaa (pv 0) zad)))) (zah zmz) za5)),?_⟩
 refine ⟨_,rfl,_,_,rfl,key_fit i,_,rfl,?_⟩
 rw [decide_eq_true c]
 refine iteF ?_
 exact q0
def zfd (K : PySem.W.Frag) : Sp:=fun vs H Q _=>∃ (r : Addr) (row : List Int) (b : Int),vs = [.ref r,.int b]∧H r = some (.tup (row.map V.int))∧row.length≤900∧(∀ k∈row,zdp (k + b))∧
 ∀ (p : Addr) (H' : Hp),Same H H'→H' p = some (.tup ((row.map (· + b)).map V.int))→Q (.ref p) H'
theorem zhl (T : Txt K mg) (D_raised_row : DF K mg "raised_row" zcc zbr) (F_need_key : FC P w K mg base 3 "need_key" zb0 (zkI K)) : FC P w K mg base 4 "raised_row" zbr (zfd K):=by
 refine D_raised_row.ok sc_raised_row (fun vs H Q E h=>?_) (fun f cdv A outer s H vs Q E hr h=>?_)
 ·obtain ⟨r,row,b,rfl,_⟩:=h
  rfl
 obtain ⟨r,row,b,rfl,hr0,hz,hfit,q0⟩:=h
 refine ⟨_,(zaf (zap (i:=2) sc_raised_row.nd rfl (Or.inl rfl) (zaO zaK rfl T.m_tuple boot_tuple (zaa (zbf (N:=["key","by"]) (own:=1) (cap:=[1]) rfl (zdF (pv 0)) ⟨rfl,rfl,rfl,rfl,rfl,rfl⟩ (fun _ _ _ _ _=>(zao (i:=0) (show List.Nodup (["key","by"] : List Str) by decide +kernel) rfl (Or.inl rfl))) (fun _ _ _ _ _=>zbk) (fun _ _ _ _ _=>(zaq za6 (pv 0) (pv 1)))) zad)))
   (zaf (zbv PassesOwn.never rfl (zdF (pv 2)) (zao (i:=3) sc_raised_row.nd rfl (Or.inl rfl)) (zah (zbz (zas F_need_key hr (zaa (pv 3) zad)))))
   (zah (zar (pv 2))))),?_⟩
 refine ⟨_,rfl,r,rfl,⟨_,SqT.of hr0⟩,fun D hD=>?_⟩
 refine zcm (xs:=row.map V.int) (fun i σ H2=>∃ (x0 : Option V),σ = [x0,some (.int b)]∧H2 D = some (.lst (((row.take i).map (· + b)).map V.int))∧But D H H2) ?_ ?_ ?_ ?_
 ·exact ⟨_,rfl,zac,fun b o n e=>by rw [zag n]; exact e⟩
 ·rintro i σ H2 _ ⟨x0,rfl,_,k2⟩
  exact SqT.of (k2 _ _ (zab hr0 hD) hr0)
 ·rintro i m x σ H2 hx hm ⟨x0,rfl,h2,k2⟩
  rw [List.getElem?_map] at hx
  obtain ⟨k,hk,rfl⟩:=Option.map_eq_some_iff.mp hx
  have hi:=(List.getElem?_eq_some_iff.mp hk).1
  rw [List.length_map] at hm
  refine zcZ ?_
  refine ⟨_,rfl,_,rfl,_,_,rfl,rfl,_,h2,zam (by rw [List.length_map,List.length_map,List.length_take]; omega),m - 1,by omega,by rw [List.length_map]; omega,_,rfl,?_,fun b o n e=>by rw [zag n]; exact k2 b o n e⟩
  rw [zac,List.take_succ_eq_append_getElem hi,(List.getElem?_eq_some_iff.mp hk).2,List.map_append,List.map_append]
  rfl
 rintro σ H2 ⟨x0,rfl,h2,k2⟩
 rw [List.length_map,List.take_of_length_le (Nat.le_refl _)] at h2
 have s2 : Same H H2:=fun b o e=>k2 b o (zab e hD) e
 refine ⟨D,_,rfl,.inl ⟨SqL.of h2,fun p hp=>?_⟩⟩
 have g3:=zaj hp (.tup ((row.map (· + b)).map V.int))
 have w3 : upd H2 p (.tup ((row.map (· + b)).map V.int)) p = some (.tup ((row.map (· + b)).map V.int)):=zac
 generalize upd H2 p (.tup ((row.map (· + b)).map V.int)) = H3 at g3 w3 ⊢
 have s3:=s2.trans g3
 refine ⟨_,rfl,p,rfl,⟨_,SqT.of w3⟩,?_⟩
 refine zil (xs:=(row.map (· + b)).map V.int) (fun i σ H4=>∃ x3 : Option V,σ = [some (.ref r),some (.int b),some (.ref p),x3]∧H3 = H4) ?_ ?_ ?_ ?_
 ·exact ⟨_,rfl,rfl⟩
 ·rintro i σ H4 _ ⟨x3,rfl,rfl⟩
  exact SqT.of w3
 ·rintro i x σ H4 hx ⟨x3,rfl,rfl⟩
  rw [List.getElem?_map,List.getElem?_map] at hx
  obtain ⟨k',hk',rfl⟩:=Option.map_eq_some_iff.mp hx
  obtain ⟨k,hk,rfl⟩:=Option.map_eq_some_iff.mp hk'
  exact ⟨_,rfl,_,rfl,hfit k (List.mem_of_getElem? hk),_,rfl,rfl⟩
 rintro σ H4 ⟨x3,rfl,rfl⟩
 exact ⟨_,rfl,q0 p H3 s3 w3⟩
theorem zel {rows : List (List Int)} {f : List Int→List Int} {i : Nat} {row : List Int} (h : rows[i]? = some row) : (rows.take (i + 1)).map f = (rows.take i).map f ++ [f row]:=by
 obtain ⟨hi,rfl⟩:=List.getElem?_eq_some_iff.mp h
 rw [List.take_succ_eq_append_getElem hi,List.map_append]
 rfl
def ziP (K : PySem.W.Frag) : Sp:=fun vs H Q _=>∃ (st t rs : Addr) (as : List Addr) (rows : List (List Int)) (b : Int),vs = [.ref st,.int b]∧H st = some (.tup [.ref t,.ref rs])∧H rs = some (.tup (as.map V.ref))∧zaC H as rows∧rows.length≤60∧(∀ r∈rows,r.length≤900)∧(∀ r∈rows,∀ k∈r,zdp (k + b))∧
 ∀ (st' rs' : Addr) (bs : List Addr) (H' : Hp),Same H H'→H' st' = some (.tup [.ref t,.ref rs'])→H' rs' = some (.tup (bs.map V.ref))→zaC H' bs (rows.map fun r=>r.map (· + b))→Q (.ref st') H'
theorem zlb (T : Txt K mg) (D_raised : DF K mg "raised" zeS zc8) (F_raised_row : FC P w K mg base 4 "raised_row" zbr (zfd K)) : FC P w K mg base 5 "raised" zc8 (ziP K):=by
 refine D_raised.ok sc_raised (fun vs H Q E h=>?_) (fun f cdv A outer s H vs Q E hr h=>?_)
 ·obtain ⟨st,t,rs,as,rows,b,rfl,_⟩:=h
  rfl
 obtain ⟨st,t,rs,as,rows,b,rfl,hst,hrs,hA,hz,h9,hfit,q0⟩:=h
 have hal:=hA.length
 refine ⟨_,(zah (zar (zbL (zaa (zaA zaM (pv 0) zae (fun _ _=>rfl)) (zaa (zaO zaK rfl T.m_tuple boot_tuple (zaa (zbf (N:=["row","by"]) (own:=1) (cap:=[1]) rfl (zdF (zaA zaM (pv 0) zae (fun _ _=>rfl))) ⟨rfl,rfl,rfl,rfl,rfl,rfl⟩ (fun _ _ _ _ _=>(zao (i:=0) (show List.Nodup (["row","by"] : List Str) by decide +kernel) rfl (Or.inl rfl))) (fun _ _ _ _ _=>zbk) (fun _ _ _ _ _=>(zas F_raised_row hr (zaa (pv 0) (zaa (pv 1) zad))))) zad)) zad))))),?_⟩
 refine ⟨_,rfl,_,_,_,_,rfl,rfl,SqT.of hst,rfl,?_⟩
 refine ⟨_,rfl,_,_,_,_,rfl,rfl,SqT.of hst,rfl,rs,rfl,⟨_,SqT.of hrs⟩,fun D hD=>?_⟩
 refine zcm (xs:=as.map V.ref) (fun i σ H2=>∃ (bs : List Addr) (x0 : Option V),σ = [x0,some (.int b)]∧H2 D = some (.lst (bs.map V.ref))∧zaC H2 bs ((rows.take i).map fun r=>r.map (· + b))∧But D H H2) ?_ ?_ ?_ ?_
 ·exact ⟨[],_,rfl,zac,.nil,fun b o n e=>by rw [zag n]; exact e⟩
 ·rintro i σ H2 _ ⟨bs,x0,rfl,_,_,k2⟩
  exact SqT.of (k2 _ _ (zab hrs hD) hrs)
 ·rintro i m x σ H2 hx hm ⟨bs,x0,rfl,h2,hB,k2⟩
  rw [List.getElem?_map] at hx
  obtain ⟨r,hr1,rfl⟩:=Option.map_eq_some_iff.mp hx
  obtain ⟨row,hrow,hr2⟩:=zbn hA hr1
  have hi:=(List.getElem?_eq_some_iff.mp hrow).1
  have hbl:=hB.length
  rw [List.length_map,List.length_take] at hbl
  rw [List.length_map] at hm
  have s02 : Same H H2:=fun b o e=>k2 b o (zab e hD) e
  have hm9:=h9 row (List.mem_of_getElem? hrow)
  refine zcZ ?_
  refine ⟨_,rfl,_,rfl,r,row,b,rfl,s02 _ _ hr2,hm9,hfit row (List.mem_of_getElem? hrow),fun p H3 s3 h3=>?_⟩
  ·have h3D:=s3 _ _ h2
   have ncD : ∀ {x : Addr} {o : List V},H3 x = some (.tup o)→x≠D:=fun {x o} e z=>by
    rw [z,h3D] at e
    cases e
   have kD : ∀ b o,b≠D→H3 b = some o→upd H3 D (.lst (bs.map V.ref ++ [.ref p])) b = some o:=fun b o n e=>by rw [zag n]; exact e
   refine ⟨_,h3D,zam (by rw [List.length_map]; omega),m - 1,by omega,by rw [List.length_map]; omega,bs ++ [p],_,rfl,?_,?_,fun b o n e=>kD _ _ n (s3 _ _ (k2 b o n e))⟩
   ·rw [zac,List.map_append]
    rfl
   ·rw [zel hrow]
    exact zaC.snoc (zaC.keep (p:=D) (d:=D) (fun a row e=>ncD e) kD (hB.ext s3)) (kD _ _ (ncD h3) h3)
 rintro σ H2 ⟨bs,x0,rfl,h2,hB,k2⟩
 rw [List.length_map,List.take_of_length_le (by omega)] at hB
 have s2 : Same H H2:=fun b o e=>k2 b o (zab e hD) e
 refine ⟨D,_,rfl,.inl ⟨SqL.of h2,fun r2 hr2=>?_⟩⟩
 have s3:=zaj hr2 (.tup (bs.map V.ref))
 have h3 : upd H2 r2 (.tup (bs.map V.ref)) r2 = some (.tup (bs.map V.ref)):=zac
 have B3:=hB.ext s3
 have s13:=s2.trans s3
 generalize upd H2 r2 (.tup (bs.map V.ref)) = H3 at s3 h3 s13 B3 ⊢
 refine ⟨(by show 2≤sizeLine; decide),fun st' hst'=>?_⟩
 have ss:=zaj hst' (.tup [.ref t,.ref r2])
 exact q0 st' r2 bs _ (s13.trans ss) zac (ss _ _ h3) (B3.ext ss)
def zkP (K : PySem.W.Frag) : Sp:=fun vs H Q _=>∃ (r : Addr) (row : List Int),vs = [.ref r]∧H r = some (.tup (row.map V.int))∧row.length≤900∧
 ∀ (p : Addr) (H' : Hp),Same H H'→H' p = some (.tup ((row.reverse.map (- ·)).map V.int))→Q (.ref p) H'
theorem zmU (T : Txt K mg) (D_row_about : DF K mg "row_about" zcK zbH) : FC P w K mg base 1 "row_about" zbH (zkP K):=by
 refine D_row_about.ok sc_row_about (fun vs H Q E h=>?_) (fun f cdv A outer s H vs Q E hr h=>?_)
 ·obtain ⟨r,row,rfl,_⟩:=h
  rfl
 obtain ⟨r,row,rfl,hr0,hz,q⟩:=h
 refine ⟨_,(zah (zar (zaO zaK rfl T.m_tuple boot_tuple (zaa (zbf (N:=["key"]) (own:=1) (cap:=[]) rfl (zhh rfl T.m_reversed (zaa (pv 0) zad)) ⟨rfl,rfl,rfl,rfl,rfl,rfl⟩ (fun _ _ _ _ _=>(zao (i:=0) (show List.Nodup (["key"] : List Str) by decide +kernel) rfl (Or.inl rfl))) (fun _ _ _ _ _=>zbk) (fun _ _ _ _ _=>(zfK zdD (pv 0)))) zad)))),?_⟩
 refine ⟨_,rfl,r,_,rfl,SqT.of hr0,fun D hD=>?_⟩
 refine zl0 (xs:=row.map V.int) (fun i σ H2=>∃ (x0 : Option V),σ = [x0]∧H2 D = some (.lst (((row.reverse.take i).map (- ·)).map V.int))∧But D H H2) ?_ ?_ ?_ ?_
 ·exact ⟨_,rfl,zac,fun b o n e=>by rw [zag n]; exact e⟩
 ·rintro i σ H2 _ ⟨x0,rfl,_,k2⟩
  exact SqT.of (k2 _ _ (zab hr0 hD) hr0)
 ·rintro i m x σ H2 hx hm ⟨x0,rfl,h2,k2⟩
  rw [← List.map_reverse,List.getElem?_map] at hx
  obtain ⟨k,hk,rfl⟩:=Option.map_eq_some_iff.mp hx
  have hi:=(List.getElem?_eq_some_iff.mp hk).1
  have hil:=hi
  rw [List.length_reverse] at hil
  rw [List.length_map] at hm
  refine zcZ ?_
  refine ⟨_,rfl,_,rfl,_,h2,zam (by rw [List.length_map,List.length_map,List.length_take,List.length_reverse]; omega),m - 1,by omega,by rw [List.length_map]; omega,_,rfl,?_,fun b o n e=>by rw [zag n]; exact k2 b o n e⟩
  rw [zac,List.take_succ_eq_append_getElem hi,(List.getElem?_eq_some_iff.mp hk).2,List.map_append,List.map_append]
  rfl
 rintro σ H2 ⟨x0,rfl,h2,k2⟩
 rw [List.length_map,List.take_of_length_le (by rw [List.length_reverse]; exact Nat.le_refl _)] at h2
 have s2 : Same H H2:=fun b o e=>k2 b o (zab e hD) e
 refine ⟨D,_,rfl,.inl ⟨SqL.of h2,fun p hp=>?_⟩⟩
 exact q p _ (s2.trans (zaj hp _)) zac
def zg0 (K : PySem.W.Frag) : Sp:=fun vs H Q _=>∃ (st t rs : Addr) (as : List Addr) (rows : List (List Int)),vs = [.ref st]∧H st = some (.tup [.ref t,.ref rs])∧H rs = some (.tup (as.map V.ref))∧zaC H as rows∧rows.length≤60∧(∀ r∈rows,r.length≤900)∧
 ∀ (st' rs' : Addr) (bs : List Addr) (H' : Hp),Same H H'→H' st' = some (.tup [.ref t,.ref rs'])→H' rs' = some (.tup (bs.map V.ref))→zaC H' bs (rows.map fun r=>r.reverse.map (- ·))→Q (.ref st') H'
theorem zjS (T : Txt K mg) (D_turned_about : DF K mg "turned_about" zbC za8) (F_row_about : FC P w K mg base 1 "row_about" zbH (zkP K)) : FC P w K mg base 2 "turned_about" za8 (zg0 K):=by
 refine D_turned_about.ok sc_turned_about (fun vs H Q E h=>?_) (fun f cdv A outer s H vs Q E hr h=>?_)
 ·obtain ⟨st,t,rs,as,rows,rfl,_⟩:=h
  rfl
 obtain ⟨st,t,rs,as,rows,rfl,hst,hrs,hA,hz,h9,q⟩:=h
 have hal:=hA.length
 refine ⟨_,(zah (zar (zbL (zaa (zaA zaM (pv 0) zae (fun _ _=>rfl)) (zaa (zaO zaK rfl T.m_tuple boot_tuple (zaa (zbf (N:=["row"]) (own:=1) (cap:=[]) rfl (zdF (zaA zaM (pv 0) zae (fun _ _=>rfl))) ⟨rfl,rfl,rfl,rfl,rfl,rfl⟩ (fun _ _ _ _ _=>(zao (i:=0) (show List.Nodup (["row"] : List Str) by decide +kernel) rfl (Or.inl rfl))) (fun _ _ _ _ _=>zbk) (fun _ _ _ _ _=>(zas F_row_about hr (zaa (pv 0) zad)))) zad)) zad))))),?_⟩
 refine ⟨_,rfl,_,_,_,_,rfl,rfl,SqT.of hst,rfl,?_⟩
 refine ⟨_,rfl,_,_,_,_,rfl,rfl,SqT.of hst,rfl,rs,rfl,⟨_,SqT.of hrs⟩,fun D hD=>?_⟩
 refine zcm (xs:=as.map V.ref) (fun i σ H2=>∃ (bs : List Addr) (x0 : Option V),σ = [x0]∧H2 D = some (.lst (bs.map V.ref))∧zaC H2 bs ((rows.take i).map fun r=>r.reverse.map (- ·))∧But D H H2) ?_ ?_ ?_ ?_
 ·exact ⟨[],_,rfl,zac,.nil,(fun b o n e=>by rw [zag n]; exact e)⟩
 ·rintro i σ H2 _ ⟨bs,x0,rfl,_,_,k2⟩
  exact SqT.of (k2 _ _ (zab hrs hD) hrs)
 ·rintro i m x σ H2 hx hm ⟨bs,x0,rfl,h2,hB,k2⟩
  rw [List.getElem?_map] at hx
  obtain ⟨r,hr1,rfl⟩:=Option.map_eq_some_iff.mp hx
  obtain ⟨row,hrow,hr2⟩:=zbn hA hr1
  have hi:=(List.getElem?_eq_some_iff.mp hrow).1
  have hbl:=hB.length
  rw [List.length_map,List.length_take] at hbl
  rw [List.length_map] at hm
  have s02 : Same H H2:=fun b o e=>k2 b o (zab e hD) e
  have hm9:=h9 row (List.mem_of_getElem? hrow)
  refine zcZ ?_
  refine ⟨_,rfl,r,row,rfl,s02 _ _ hr2,hm9,fun p H3 s3 h3=>?_⟩
  have h3D:=s3 _ _ h2
  have ncD : ∀ {x : Addr} {o : List V},H3 x = some (.tup o)→x≠D:=fun {x o} e z=>by
   rw [z,h3D] at e
   cases e
  have kD : ∀ b o,b≠D→H3 b = some o→upd H3 D (.lst (bs.map V.ref ++ [.ref p])) b = some o:=fun b o n e=>by rw [zag n]; exact e
  refine ⟨_,h3D,zam (by rw [List.length_map]; omega),m - 1,by omega,by rw [List.length_map]; omega,bs ++ [p],_,rfl,?_,?_,fun b o n e=>kD _ _ n (s3 _ _ (k2 b o n e))⟩
  ·rw [zac,List.map_append]
   rfl
  ·rw [zel hrow]
   exact zaC.snoc (zaC.keep (p:=D) (d:=D) (fun a row e=>ncD e) kD (hB.ext s3)) (kD _ _ (ncD h3) h3)
 rintro σ H2 ⟨bs,x0,rfl,h2,hB,k2⟩
 rw [List.length_map,List.take_of_length_le (by omega)] at hB
 have s2 : Same H H2:=fun b o e=>k2 b o (zab e hD) e
 refine ⟨D,_,rfl,.inl ⟨SqL.of h2,fun r2 hr2=>?_⟩⟩
 have s3:=zaj hr2 (.tup (bs.map V.ref))
 have h3 : upd H2 r2 (.tup (bs.map V.ref)) r2 = some (.tup (bs.map V.ref)):=zac
 have B3:=hB.ext s3
 have s13:=s2.trans s3
 generalize upd H2 r2 (.tup (bs.map V.ref)) = H3 at s3 h3 s13 B3 ⊢
 refine ⟨(by show 2≤sizeLine; decide),fun st' hst'=>?_⟩
 have ss:=zaj hst' (.tup [.ref t,.ref r2])
 exact q st' r2 bs _ (s13.trans ss) zac (ss _ _ h3) (B3.ext ss)
theorem zhm (T : Txt K mg) (D_l_children : DF K mg "_law_children" zch zbu) : FC P w K mg base 1 "_law_children" zbu (zcr K):=by
 refine D_l_children.ok sc_l_children (fun vs H Q E h=>?_) (fun f cdv A outer s H vs Q E hr h=>?_)
 ·obtain ⟨t,ps,k,rfl,_⟩:=h
  rfl
 obtain ⟨t,ps,k,rfl,ht,hz,q⟩:=h
 refine ⟨_,(zah (zar (zbf (N:=["_law_k","_law_tree_here","_law_knot"]) (own:=1) (cap:=[0,1]) rfl (zbK rfl T.m_range (zaa (zau zat rfl T.m_len boot_len (zaa (pv 0) zad)) zad)) ⟨rfl,rfl,rfl,rfl,rfl,rfl⟩ (fun _ _ _ _ _=>(zao (i:=0) (show List.Nodup (["_law_k","_law_tree_here","_law_knot"] : List Str) by decide +kernel) rfl (Or.inl rfl))) (fun _ _ _ _ _=>(zc5 (zav zfo (zaA (zfs (K:=K)) (pv 1) (pv 0) (fun _ _=>rfl)) (pv 2) (zaF _)))) (fun _ _ _ _ _=>(pv 0))))),?_⟩
 refine ⟨_,rfl,_,_,rfl,.inr (SqT.of ht),_,rfl,by omega,by rw [zaw]; omega,fun D hD=>?_⟩
 have el : ((((zcI ps).length : Nat) : Int)).toNat = ps.length + 1:=by rw [zaw,Int.toNat_natCast]
 rw [el]
 refine zep (n:=ps.length + 1) (fun j σ H3=>∃ x0 : Option V,σ = [x0,some (.ref t),some (.int k)]∧H3 D = some (.lst ((zaL ps k j).map nV))∧But D H H3) ?_ ?_ ?_
 ·exact ⟨_,rfl,zac,fun b o n e=>by rw [zag n]; exact e⟩
 ·rintro j m σ H3 hm hj ⟨x0,rfl,h3,k3⟩
  rw [Int.zero_add]
  have h3t:=k3 _ _ (zab ht hD) ht
  have hlen:=zcG ps k j
  refine ⟨_,rfl,_,rfl,_,_,_,_,rfl,rfl,SqT.of h3t,ziy hj,_,rfl,zg5 _ _ _,_,rfl,?_⟩
  refine ite2 (fun c=>?_) (fun c=>?_)
  ·have c' : par ps j = some k:=zgs.mp (of_decide_eq_true c)
   refine ⟨_,rfl,_,h3,zam (by rw [List.length_map]; omega),m - 1,by omega,by omega,_,rfl,?_,fun b o n e=>by rw [zag n]; exact k3 b o n e⟩
   rw [zac,zcU,if_pos c',List.map_append]
   rfl
  ·have c' : ¬ par ps j = some k:=fun z=>c (decide_eq_true (zgs.mpr z))
   refine ⟨m - 1,by omega,by omega,_,rfl,?_,k3⟩
   rw [h3,zcU,if_neg c',List.append_nil]
 ·rintro σ H3 ⟨x0,rfl,h3,k3⟩
  exact q D H3 hD (fun b o e=>k3 b o (zab e hD) e) h3
theorem ziA {α : Type} {f : α→V} {us : List α} {c : α} : atI ((us ++ [c]).map f) (-1) = some (f c):=by
 unfold atI ixN
 rw [List.map_append]
 simp
 rw [if_pos (by omega)]
 show (List.map f us ++ [f c])[(-1 + ((us.length : Int) + 1)).toNat]? = _
 rw [show (-1 + ((us.length : Int) + 1)).toNat = us.length by omega,List.getElem?_append_right (by rw [List.length_map]; exact Nat.le_refl _),List.length_map,Nat.sub_self]
 rfl
theorem zl5 {ps us : List Nat} {c ch : Nat} (h : zkh ps (us ++ [c])) (hp : par ps ch = some c) : zkh ps ((us ++ [c]) ++ [ch]):=zkd h fun _=>by
 rw [hp,List.length_append,List.length_singleton,Nat.add_sub_cancel,List.getD_eq_getElem?_getD,List.getElem?_append_right (Nat.le_refl _),Nat.sub_self]
 rfl
def zny (K : PySem.W.Frag) : Sp:=fun vs H Q _=>∃ (d L t : Addr) (ps : List Nat),vs = [.ref d,.ref t]∧H t = some (.tup (zcI ps))∧zaB ps∧ps.length≤40∧LS K L d H∧
 ∀ (wa : Addr) (w : List Nat) (H' : Hp),H wa = none→zeu H' wa ps w→Keep d H H'→LS K L d H'→Q (.ref wa) H'
theorem zou (T : Txt K mg) (D_l_way : DF K mg "_law_way" zgg zd8) (F_l_take : FC P w K mg base 2 "_law_take" za9 (zey K)) (F_l_children : FC P w K mg base 1 "_law_children" zbu (zcr K)) : FC P w K mg base 3 "_law_way" zd8 (zny K):=by
 refine D_l_way.ok sc_l_way (fun vs H Q E h=>?_) (fun f cdv A outer s H vs Q E hr h=>?_)
 ·obtain ⟨d,L,t,ps,rfl,_⟩:=h
  rfl
 obtain ⟨d,L,t,ps,rfl,ht,hT,hl,hs,q⟩:=h
 have ndT : ∀ {H' : Hp} {a : Addr} {o : List V},LS K L d H'→H' a = some (.tup o)→a≠d:=fun {H' a o} s e z=>by
  obtain ⟨_,_,_,e2,_⟩:=s.ex
  rw [← z,e] at e2
  cases e2
 have nd : ∀ {H' : Hp} {a : Addr},LS K L d H'→H' a = none→a≠d:=fun {H' a} s e z=>by
  obtain ⟨_,_,_,e2,_⟩:=s.ex
  rw [← z,e] at e2
  cases e2
 have free : ∀ {H' : Hp} {a : Addr},Keep d H H'→LS K L d H'→H' a = none→H a = none:=fun {H' a} k s e=>by
  cases e2 : H a with
  | none=>rfl
  | some o=>
   have:=k _ _ (nd s e) e2
   rw [e] at this
   cases this
 refine ⟨_,(zaf (zap (i:=2) sc_l_way.nd rfl (Or.inl rfl) (zbR (zaa (zas F_l_take hr (zaa (pv 0) (zaa (zau zat rfl T.m_len boot_len (zaa (pv 1) zad)) zad))) zad)))
   (zbc (zcy (zav zfo (zas F_l_take hr (zaa (pv 0) (zaa zae zad))) zae (zaF _)) (zah (zap (i:=2) sc_l_way.nd rfl (Or.inl rfl) (zbR (zaa zae zad)))) za5)
   (zaf (zgm PassesOwn.never (PW.pt (zhd (zav (zeA (List Int) (huD hr)) (zas F_l_children hr (zaa (pv 1) (zaa (zaA zaE (pv 2) (zfK zdD zae) (fun _ _=>rfl)) zad))) (zbR zad) (zaF _)) (zfh (zav zk6 (zas F_l_take hr (zaa (pv 0) (zaa zae zad))) zae (zaF _))))) (zaf (zap (i:=3) sc_l_way.nd rfl (Or.inl rfl) (zas F_l_children hr (zaa (pv 1) (zaa (zaA zaE (pv 2) (zfK zdD zae) (fun _ _=>rfl)) zad))))
   (zah (zbz (zeM F.plainAttrs_list F.slot_list_append F.type_list_append za3 (pv 2) (zaa (zaA zaE (pv 3) (zas F_l_take hr (zaa (pv 0) (zaa (zau zat rfl T.m_len boot_len (zaa (pv 3) zad)) zad))) (fun _ _=>rfl)) zad))))))
   (zah (zar (pv 2)))))),?_⟩
 refine ⟨_,rfl,_,rfl,_,_,rfl,.inr (SqT.of ht),d,L,_,rfl,by rw [zaw]; omega,hs,fun v H1 v0 v1 k1 s1=>?_⟩
 rw [zaw] at v1
 obtain ⟨k0,rfl⟩:=zfZ v0
 refine ⟨(by show 1≤sizeLine; decide),fun p hp=>?_⟩
 have sp:=zaj hp (.lst [nV k0])
 have hpp : upd H1 p (.lst [nV k0]) p = some (.lst [nV k0]):=zac
 have s1p:=s1.same sp
 have k1p : Keep d H (upd H1 p (.lst [nV k0])):=fun b o nb e=>sp _ _ (k1 _ _ nb e)
 have hp0:=free k1 s1 hp
 generalize upd H1 p (.lst [nV k0]) = H2 at hpp s1p k1p ⊢
 refine ⟨fun σ' H'=>∃ (p : Addr) (k0 : Nat),σ' = [some (.ref d),some (.ref t),some (.ref p),none]∧H' p = some (.lst [nV k0])∧k0 < ps.length + 1∧H p = none∧Keep d H H'∧LS K L d H',?_,?_⟩
 ·refine ⟨_,rfl,d,L,2,rfl,by decide,s1p,fun v H3 _ _ k3 s3=>⟨rfl,_,rfl,?_⟩⟩
  have hpd : p≠d:=nd s1 hp
  have k03 : Keep d H H3:=fun b o nb e=>k3 _ _ nb (k1p _ _ nb e)
  refine ite2 (fun _=>?_) (fun _=>?_)
  ·refine ⟨(by show 1≤sizeLine; decide),fun u hu=>?_⟩
   have su:=zaj hu (.lst [nV 0])
   exact ⟨u,0,rfl,zac,by omega,free k03 s3 hu,fun b o nb e=>su _ _ (k03 _ _ nb e),s3.same su⟩
  ·exact ⟨p,k0,rfl,k3 _ _ hpd hpp,by omega,hp0,k03,s3⟩
 clear hpp s1p k1p hp0 sp hp k1 s1
 rintro σ' H3 ⟨p,k0,rfl,h3,hk0,hp,k3,s3⟩
 have hpd : p≠d:=nd hs hp
 have htp : t≠p:=zab ht hp
 have htd:=ndT hs ht
 refine zgS (fun σ HW=>∃ (us : List Nat) (c : Nat) (x3 : Option V),σ = [some (.ref d),some (.ref t),some (.ref p),x3]∧HW p = some (.lst ((us ++ [c]).map nV))∧us.length≤c∧c < ps.length + 1∧zkh ps (us ++ [c])∧(∀ x∈us ++ [c],x < ps.length + 1)∧(∀ b o,b≠d→b≠p→H b = some o→HW b = some o)∧LS K L d HW)
  (fun σ HW=>∃ (w : List Nat) (x3 : Option V),σ = [some (.ref d),some (.ref t),some (.ref p),x3]∧zeu HW p ps w∧(∀ b o,b≠d→b≠p→H b = some o→HW b = some o)∧LS K L d HW)
  (fun _ H2=>match H2 p with | some (.lst xs)=>1000 - xs.length | _=>0) ?_ ?_ ?_ ?_
 ·refine ⟨[],k0,_,rfl,h3,Nat.zero_le _,hk0,fun t ht=>?_,fun x hx=>?_,fun b o nb _ e=>k3 _ _ nb e,s3⟩
  ·rw [List.nil_append,List.length_singleton] at ht
   omega
  ·rw [List.mem_singleton.mp hx]
   exact hk0
 ·rintro σ HW ⟨us,c,x3,rfl,hw,hul,hc,hch,hkn,kw,sw⟩
  have hwt:=kw _ _ htd htp ht
  have done : ∀ {HX : Hp} {x3 : Option V},(∀ b o,b≠d→HW b = some o→HX b = some o)→LS K L d HX→∃ (w : List Nat) (x3' : Option V),[some (V.ref d),some (.ref t),some (.ref p),x3] = [some (.ref d),some (.ref t),some (.ref p),x3']∧zeu HX p ps w∧(∀ b o,b≠d→b≠p→H b = some o→HX b = some o)∧LS K L d HX:=fun {HX x3} k s=>
   ⟨us ++ [c],x3,rfl,⟨k _ _ hpd hw,by rw [List.length_append,List.length_singleton]; omega,by simp,hch,hkn⟩,fun b o n1 n2 e=>k _ _ n1 (kw _ _ n1 n2 e),s⟩
  refine ⟨_,rfl,_,rfl,_,rfl,_,_,_,_,rfl,rfl,SqL.of hw,ziA,t,ps,c,rfl,hwt,by omega,fun cl HX hcl sx hx=>?_⟩
  refine ⟨(by show 0≤sizeLine; decide),fun e he=>?_⟩
  have se:=zaj he (.lst [])
  have sxe:=sx.trans se
  have swe:=sw.same sxe
  refine ⟨(zaL ps c (ps.length + 1)).map (fun n : Nat=>(n : Int)),[],⟨_,_,rfl,SqL.of (se _ _ hx),zmW⟩,⟨_,_,rfl,SqL.of zac,.nil⟩,_,rfl,?_⟩
  generalize upd HX e (.lst []) = HE at sxe swe ⊢
  refine ite2 (fun cne=>?_) (fun _=>?_)
  ·refine ⟨_,rfl,d,L,6,rfl,by decide,swe,fun v H4 _ _ k4 s4=>?_⟩
   have k04 : ∀ b o,b≠d→HW b = some o→H4 b = some o:=fun b o nb e=>k4 _ _ nb (sxe _ _ e)
   refine ⟨_,_,rfl,rfl,_,rfl,?_⟩
   refine ite2 (fun _=>?_) (fun _=>?_)
   ·have h4:=k04 _ _ hpd hw
    have h4t:=k04 _ _ htd hwt
    refine ⟨_,rfl,_,rfl,_,rfl,_,_,_,_,rfl,rfl,SqL.of h4,ziA,t,ps,c,rfl,h4t,by omega,fun c2 H5 hc2 s5 h5=>?_⟩
    have hcne : zaL ps c (ps.length + 1)≠[]:=fun z=>by
     rw [z] at cne
     cases cne
    have hcmem:=fun m=>zaz (ps:=ps) (k:=c) (n:=ps.length + 1) (j:=m)
    have hcl:=zcG ps c (ps.length + 1)
    generalize zaL ps c (ps.length + 1) = cs at hcne h5 hcmem hcl
    have hpos : 0 < cs.length:=List.length_pos_iff.mpr hcne
    have h5p:=s5 _ _ h4
    have s45:=s4.same s5
    refine ⟨_,rfl,.inl ⟨rfl,_,SqL.of h5p⟩,_,rfl,_,rfl,_,rfl,_,_,rfl,.inl (SqL.of h5),d,L,_,rfl,by rw [List.length_map]; omega,s45,fun v2 H6 v20 v21 k6 s6=>?_⟩
    rw [List.length_map] at v21
    obtain ⟨j,rfl⟩:=zfZ v20
    have hj : j < cs.length:=by omega
    have h6:=k6 _ _ hpd h5p
    have hc2d : c2≠d:=nd s4 hc2
    refine ⟨_,_,_,_,rfl,rfl,SqL.of (k6 _ _ hc2d h5),zjz hj,?_⟩
    have hm : cs.getD j 0∈cs:=by
     rw [List.getD_eq_getElem?_getD,List.getElem?_eq_getElem hj]
     exact List.getElem_mem hj
    generalize cs.getD j 0 = ch at hm ⊢
    obtain ⟨hchn,hchp⟩:=(hcmem ch).mp hm
    have hlt:=(zaV hT hchp).1
    refine ⟨_,_,_,rfl,rfl,h6,zam (by rw [List.length_map,List.length_append,List.length_singleton]; omega),?_⟩
    have k06 : ∀ b o,b≠d→HW b = some o→H6 b = some o:=fun b o nb e=>k6 _ _ nb (s5 _ _ (k04 _ _ nb e))
    refine ⟨⟨us ++ [c],ch,_,rfl,?_,?_,hchn,?_,?_,fun b o n1 n2 e=>?_,?_⟩,?_⟩
    ·rw [zac,List.map_append (l₂:=[ch])]
     rfl
    ·rw [List.length_append,List.length_singleton]
     omega
    ·exact zl5 hch hchp
    ·intro x hx
     rcases List.mem_append.mp hx with z | z
     ·exact hkn x z
     ·rw [List.mem_singleton.mp z]
      exact hchn
    ·rw [zag n2]
     exact k06 _ _ n1 (kw _ _ n1 n2 e)
    ·exact LS.put hs hp (fun b o n1 n2 e=>k06 _ _ n1 (kw _ _ n1 n2 e)) s6
    ·show (match upd H6 p _ p with | some (.lst xs)=>1000 - xs.length | _=>0) < (match HW p with | some (.lst xs)=>1000 - xs.length | _=>0)
     rw [zac,hw]
     show 1000 - (((us ++ [c]).map nV) ++ [nV ch]).length < 1000 - ((us ++ [c]).map nV).length
     rw [List.length_append,List.length_map,List.length_append,List.length_singleton,List.length_singleton]
     omega
   ·exact done k04 s4
  ·refine iteF ?_
   exact done (fun b o _ e=>sxe _ _ e) swe
 ·refine zky (fun σ H Q Q' m h=>?_) (fun σ H Q Q' m h=>?_)
  ·obtain ⟨y1,e1,y2,e2,y3,e3,y4,y5,y6,y7,e4,e5,e6,e7,t,ps,k,e8,e9,e10,q⟩:=h
   refine ⟨y1,e1,y2,e2,y3,e3,y4,y5,y6,y7,e4,e5,e6,e7,t,ps,k,e8,e9,e10,fun p H' a1 a2 a3=>?_⟩
   obtain ⟨z1,z2⟩:=q p H' a1 a2 a3
   refine ⟨z1,fun e he=>?_⟩
   obtain ⟨as,bs,g1,g2,b,g3,q⟩:=z2 e he
   exact ⟨as,bs,g1,g2,b,g3,m _ _ q⟩
  ·obtain ⟨y1,e1,d,L,z,e2,e3,e4,q⟩:=h
   refine ⟨y1,e1,d,L,z,e2,e3,e4,fun v H' a1 a2 a3 a4=>?_⟩
   obtain ⟨i,j,g1,g2,b,g3,q⟩:=q v H' a1 a2 a3 a4
   exact ⟨i,j,g1,g2,b,g3,m _ _ q⟩
 rintro σ HW ⟨w,x3,rfl,W,kw,sw⟩
 refine ⟨_,rfl,?_⟩
 exact q p w HW hp W (fun b o nb e=>kw _ _ nb (zab e hp) e) sw
def Kp0 (H H' : Hp) : Prop:=∀ b o,(∀ tab,o≠.tbl tab)→H b = some o→H' b = some o
theorem zi8 {K : PySem.W.Frag} {H H' : Hp} (k : Kp0 H H') : ∀ {es : List (Int×Int)} {ws : List V},zak K H es ws→zak K H' es ws
 | _,_,.nil=>.nil
 | _,_,.cons h t=>by
  refine .cons ?_ (zi8 k t)
  obtain ⟨a,x1,x2,rfl,hT,e1,e2⟩:=(show hasP K H _ _ from h)
  exact ⟨a,x1,x2,rfl,k _ _ (fun _ z=>nomatch z) hT,e1,e2⟩
theorem zne {K : PySem.W.Frag} {H H' : Hp} {ps : List Nat} {rows : List (List Int)} {js : List Nat} {qs : List Addr} (k : Kp0 H H') (h : zay K H ps rows js qs) : zay K H' ps rows js qs:=zaG (fun j q ⟨ws,h1,h2⟩=>⟨ws,k _ _ (fun _ z=>by cases z) h1,zi8 k h2⟩) h
theorem br_kp {H H' : Hp} {ps : List Nat} {rows : List (List Int)} {js : List Nat} {xs : List V} (k : Kp0 H H') (h : Paired (BrAt [] H ps rows) js xs) : Paired (BrAt [] H' ps rows) js xs:=zaG (fun j x ⟨b,o,j',ys,h1,h2,h3,h4,h5,h6,h7⟩=>
 ⟨b,o,j',ys,h1,h2,h3,k _ _ (fun _ z=>by cases z) h4,k _ _ (fun _ z=>by cases z) h5,k _ _ (fun _ z=>by cases z) h6,zaG (fun c y ⟨a,s,g1,g2,g3,g4⟩=>⟨a,s,g1,g2,k _ _ (fun _ z=>by cases z) g3,k _ _ (fun _ z=>by cases z) g4⟩) h7⟩) h
theorem zn4 {σ : L2.St} {H : Hp} {Q : Bool→Hp→Prop} (h : Q true H) : tYes σ H Q:=h
theorem Kp0.trans {H H1 H2 : Hp} (a : Kp0 H H1) (b : Kp0 H1 H2) : Kp0 H H2:=fun c o n h=>b c o n (a c o n h)
theorem Kp0.of {H H1 : Hp} (a : Same H H1) : Kp0 H H1:=fun c o _ h=>a c o h
theorem Kp0.tup {H H1 : Hp} (a : Kp0 H H1) {b : Addr} {us : List V} (h : H b = some (.tup us)) : H1 b = some (.tup us):=a _ _ (fun _ z=>nomatch z) h
theorem Kp0.lst {H H1 : Hp} (a : Kp0 H H1) {b : Addr} {us : List V} (h : H b = some (.lst us)) : H1 b = some (.lst us):=a _ _ (fun _ z=>nomatch z) h
theorem zhX {H H' : Hp} (e : Kp0 H H') : ∀ {as : List Addr} {rows : List (List Int)},zaC H as rows→zaC H' as rows
 | _,_,.nil=>.nil
 | _,_,.cons h t=>.cons (e.tup h) (zhX e t)
theorem zbS {H H' : Hp} {st t rs : Addr} {ps : List Nat} {rows : List (List Int)} {as : List Addr} (e : Kp0 H H') (S : zaY H st ps rows t rs as) : zaY H' st ps rows t rs as:=
 ⟨e.tup S.st,e.tup S.tr,e.tup S.rs,zhX e S.at_,S.len,S.T,S.R,S.few,S.keys⟩
theorem zev {H H' : Hp} {wa : Addr} {ps w : List Nat} (e : Kp0 H H') (h : zeu H wa ps w) : zeu H' wa ps w:=⟨e.lst h.at_,h.len,h.ne,h.ch,h.kn⟩
def zbF (row : List Int) : List Int:=row.filter fun k=>decide ((if k < 0 then -k else k) < 10 ^ 59)
theorem zd4 {rows : List (List Int)} {r : List Int} (h : r∈rows) : r.length≤zb7 rows:=by
 unfold zb7
 induction rows with
 | nil=>cases h
 | cons a l ih=>
  rw [List.map_cons,List.sum_cons]
  rcases List.mem_cons.mp h with z | z
  ·rw [z]
   omega
  ·have:=ih z
   omega
theorem ze1 {f : List Int→List Int} (hf : ∀ r,(f r).length≤r.length) : ∀ rows : List (List Int),zb7 (rows.map f)≤zb7 rows
 | []=>Nat.le_refl _
 | r :: rows=>by
  have h1:=hf r
  have h2:=ze1 hf rows
  unfold zb7 at h2 ⊢
  rw [List.map_cons,List.map_cons,List.map_cons,List.sum_cons,List.sum_cons]
  omega
theorem ziU {rows : List (List Int)} (R : zaH rows) : zaH (rows.map zbF)∧∀ r∈rows.map zbF,∀ x∈r,-(10 ^ 59) < x∧x < 10 ^ 59:=by
 refine ⟨⟨fun r hr=>?_,fun r hr=>?_⟩,fun r hr x hx=>?_⟩
 ·obtain ⟨r,hr1,rfl⟩:=List.mem_map.mp hr
  exact (R.up r hr1).filter _
 ·obtain ⟨r,hr1,rfl⟩:=List.mem_map.mp hr
  exact fun x hx=>R.key r hr1 x (List.mem_filter.mp hx).1
 ·obtain ⟨r,hr,rfl⟩:=List.mem_map.mp hr
  have:=of_decide_eq_true (List.mem_filter.mp hx).2
  split at this <;> omega
def zkG (K : PySem.W.Frag) : Sp:=fun vs H Q _=>∃ (st : Addr) (ps : List Nat) (rows : List (List Int)) (t rs : Addr) (as : List Addr),vs = [.ref st]∧zaY H st ps rows t rs as∧
 ∀ (st' rs' : Addr) (bs : List Addr) (H' : Hp),Same H H'→zaY H' st' ps (rows.map zbF) t rs' bs→Q (.ref st') H'
theorem zmI (T : Txt K mg) (D_l_small : DF K mg "_law_small" zdY zcu) : FC P w K mg base 1 "_law_small" zcu (zkG K):=by
 refine D_l_small.ok sc_l_small (fun vs H Q E h=>?_) (fun f cdv A outer s H vs Q E hr h=>?_)
 ·obtain ⟨st,ps,rows,t,rs,as,rfl,_⟩:=h
  rfl
 obtain ⟨st,ps,rows,t,rs,as,rfl,S,q⟩:=h
 have hal:=S.at_.length
 have hlen:=S.len
 have hfew:=S.few
 have hkeys:=S.keys
 refine ⟨_,(zah (zar (zbL (zaa (zaA zaM (pv 0) zae (fun _ _=>rfl)) (zaa (zaO zaK rfl T.m_tuple boot_tuple (zaa (zbf (N:=["_law_row_here"]) (own:=1) (cap:=[]) rfl (zdF (zaA zaM (pv 0) zae (fun _ _=>rfl))) ⟨rfl,rfl,rfl,rfl,rfl,rfl⟩ (fun _ _ _ _ _=>(zao (i:=0) (show List.Nodup (["_law_row_here"] : List Str) by decide +kernel) rfl (Or.inl rfl))) (fun _ _ _ _ _=>zbk) (fun _ _ _ _ _=>(zaO (zfO (K:=K)) rfl T.m_tuple boot_tuple (zaa (zbf (N:=["_law_key_here"]) (own:=1) (cap:=[]) rfl (zgo (K:=K) (pv 0)) ⟨rfl,rfl,rfl,rfl,rfl,rfl⟩ (fun _ _ _ _ _=>(zao (i:=0) (show List.Nodup (["_law_key_here"] : List Str) by decide +kernel) rfl (Or.inl rfl))) (fun _ _ _ _ _=>(zc5 (zav zfL (zau zfb rfl T.m_abs boot_abs (zaa (pv 0) zad)) (zaq zed zae zae) (zaF _)))) (fun _ _ _ _ _=>(pv 0))) zad)))) zad)) zad))))),?_⟩
 refine ⟨_,rfl,_,_,_,_,rfl,rfl,SqT.of S.st,rfl,?_⟩
 refine ⟨_,rfl,_,_,_,_,rfl,rfl,SqT.of S.st,rfl,rs,rfl,⟨_,SqT.of S.rs⟩,fun D hD=>?_⟩
 refine zcm (xs:=as.map V.ref) (fun i σ H2=>∃ (bs : List Addr) (x0 : Option V),σ = [x0]∧H2 D = some (.lst (bs.map V.ref))∧zaC H2 bs ((rows.take i).map zbF)∧But D H H2) ?_ ?_ ?_ ?_
 ·exact ⟨[],_,rfl,zac,.nil,(fun b o n e=>by rw [zag n]; exact e)⟩
 ·rintro i σ H2 _ ⟨bs,x0,rfl,_,_,k2⟩
  exact SqT.of (k2 _ _ (zab S.rs hD) S.rs)
 ·rintro i m x σ H2 hx hm ⟨bs,x0,rfl,h2,hB,k2⟩
  rw [List.getElem?_map] at hx
  obtain ⟨r,hr1,rfl⟩:=Option.map_eq_some_iff.mp hx
  obtain ⟨row,hrow,hr2⟩:=zbn S.at_ hr1
  have hi:=(List.getElem?_eq_some_iff.mp hrow).1
  have hbl:=hB.length
  rw [List.length_map,List.length_take] at hbl
  rw [List.length_map] at hm
  have s02 : Same H H2:=fun b o e=>k2 b o (zab e hD) e
  have hr4:=s02 _ _ hr2
  have hm9:=zd4 (List.mem_of_getElem? hrow)
  refine zcZ ?_
  refine ⟨_,rfl,r,rfl,⟨_,SqT.of hr4⟩,fun D2 hD2=>?_⟩
  refine zcm (xs:=row.map V.int) (fun j σ H5=>∃ (x0 : Option V),σ = [x0]∧H5 D2 = some (.lst ((zbF (row.take j)).map V.int))∧But D2 H2 H5) ?_ ?_ ?_ ?_
  ·exact ⟨_,rfl,zac,fun b o n e=>by rw [zag n]; exact e⟩
  ·rintro j σ H5 _ ⟨x0,rfl,_,k5⟩
   exact SqT.of (k5 _ _ (zab hr4 hD2) hr4)
  ·rintro j m x σ H5 hx hm ⟨x0,rfl,h5,k5⟩
   rw [List.getElem?_map] at hx
   obtain ⟨y,hy,rfl⟩:=Option.map_eq_some_iff.mp hx
   have hj:=(List.getElem?_eq_some_iff.mp hy).1
   rw [List.length_map] at hm
   have htk : row.take (j + 1) = row.take j ++ [y]:=by rw [List.take_succ_eq_append_getElem hj,(List.getElem?_eq_some_iff.mp hy).2]
   have hsl : (zbF (row.take j)).length≤j:=Nat.le_trans (List.length_filter_le _ _) (by rw [List.length_take]; omega)
   have htk2 : zbF (row.take (j + 1)) = zbF (row.take j) ++ zbF [y]:=by
    rw [htk]
    exact List.filter_append ..
   refine ⟨_,rfl,y,rfl,_,_,rfl,rfl,(by walk_at "side"),_,_,rfl,rfl,_,rfl,?_⟩
   refine ite2 (fun c=>?_) (fun c=>?_)
   ·refine ⟨_,rfl,_,h5,zam (by rw [List.length_map]; omega),m - 1,by omega,by rw [List.length_map]; omega,_,rfl,?_,fun b o n e=>by rw [zag n]; exact k5 b o n e⟩
    have e : zbF [y] = [y]:=List.filter_cons_of_pos c
    rw [zac,htk2,e,List.map_append]
    rfl
   ·refine ⟨m - 1,by omega,by rw [List.length_map]; omega,_,rfl,?_,k5⟩
    have e : zbF [y] = []:=List.filter_cons_of_neg c
    rw [htk2,e,List.append_nil]
    exact h5
  rintro σ H5 ⟨y0,rfl,h5,k5⟩
  rw [List.length_map,List.take_of_length_le (Nat.le_refl _)] at h5
  have s5 : Same H2 H5:=fun b o e=>k5 b o (zab e hD2) e
  refine ⟨D2,_,rfl,.inl ⟨SqL.of h5,fun p hp=>?_⟩⟩
  have s3:=s5.trans (zaj hp (.tup ((zbF row).map V.int)))
  have h3 : upd H5 p (.tup ((zbF row).map V.int)) p = some (.tup ((zbF row).map V.int)):=zac
  generalize upd H5 p (.tup ((zbF row).map V.int)) = H3 at s3 h3 ⊢
  have h3D:=s3 _ _ h2
  have ncD : ∀ {x : Addr} {o : List V},H3 x = some (.tup o)→x≠D:=fun {x o} e z=>by
   rw [z,h3D] at e
   cases e
  have kD : ∀ b o,b≠D→H3 b = some o→upd H3 D (.lst (bs.map V.ref ++ [.ref p])) b = some o:=fun b o n e=>by rw [zag n]; exact e
  refine ⟨_,h3D,zam (by rw [List.length_map]; omega),m - 1,by omega,by rw [List.length_map]; omega,bs ++ [p],_,rfl,?_,?_,fun b o n e=>kD _ _ n (s3 _ _ (k2 b o n e))⟩
  ·rw [zac,List.map_append]
   rfl
  ·rw [zel hrow]
   exact zaC.snoc (zaC.keep (p:=D) (d:=D) (fun a row e=>ncD e) kD (hB.ext s3)) (kD _ _ (ncD h3) h3)
 rintro σ H2 ⟨bs,x0,rfl,h2,hB,k2⟩
 rw [List.length_map,List.take_of_length_le (by omega)] at hB
 have s2 : Same H H2:=fun b o e=>k2 b o (zab e hD) e
 refine ⟨D,_,rfl,.inl ⟨SqL.of h2,fun r2 hr2=>?_⟩⟩
 have s3:=zaj hr2 (.tup (bs.map V.ref))
 have h3 : upd H2 r2 (.tup (bs.map V.ref)) r2 = some (.tup (bs.map V.ref)):=zac
 have B3:=hB.ext s3
 have s13:=s2.trans s3
 generalize upd H2 r2 (.tup (bs.map V.ref)) = H3 at s3 h3 s13 B3 ⊢
 refine ⟨(by show 2≤sizeLine; decide),fun st' hst'=>?_⟩
 have ss:=zaj hst' (.tup [.ref t,.ref r2])
 have s04:=s13.trans ss
 have hkm:=ze1 (f:=zbF) (fun r=>List.length_filter_le _ _) rows
 exact q st' r2 bs _ s04 ⟨zac,s04 _ _ S.tr,ss _ _ h3,B3.ext ss,by rw [List.length_map]; exact hlen,S.T,(ziU S.R).1,hfew,by omega⟩
abbrev lamQL : Str:=(envOfC ("_law_owns" : Str) (zai zcg) 0 0 .none).qual ++ "<lambda>"
abbrev zoF : Pos:=⟨225,71,225,155⟩
structure TwoT (m1 m2 : Addr) (H : Hp) : Prop where
 t1 : zbh H m1 zfr zlt
 t2 : zbh H m2 zoF lamQL
 ne : m1≠m2
theorem TwoT.same {m1 m2 : Addr} {H H' : Hp} (x : TwoT m1 m2 H) (e : Same H H') : TwoT m1 m2 H':=⟨x.t1.ext e.ext,x.t2.ext e.ext,x.ne⟩
def zkH (K : PySem.W.Frag) (m1 m2 : Addr) : Sp:=fun vs H Q _=>∃ (st wa : Addr) (ps : List Nat) (rows : List (List Int)) (t rs : Addr) (as : List Addr) (wy : List Nat) (key : Int),vs = [.ref st,.ref wa,.int key]∧zaY H st ps rows t rs as∧zeu H wa ps wy∧TwoT m1 m2 H∧
 ∀ (D : Addr) (H' : Hp),Kp0 H H'→TwoT m1 m2 H'→H' D = some (.lst ((wy.map fun k=>((ownB rows k key : Nat) : Int)).map V.int))→Q (.ref D) H'
theorem zmP (T : Txt K mg) {mc mp m1 : Addr} (D_l_owns : DFT K mg "_law_owns" zcg zcv mc mp) (hBM : BMAt mg base) (F_full_rows : FC P w K mg base 8 "full_rows" zbm (zhU K)) (F_bridges : FC P w K mg base 9 "bridges" zcA (spBr K)) (F_search : ∀ b,Sub K mg base b→FC P w K mg b 6 "search" zc7 (ziO P w K mg b m1)) : FC P w K mg base 10 "_law_owns" zcv (zkH K m1 mp):=by
 refine D_l_owns.ok sc_l_owns (fun vs H Q E h=>?_) (fun f A outer s H vs Q E hr h=>?_)
 ·obtain ⟨st,wa,ps,rows,t,rs,as,wy,key,rfl,_⟩:=h
  rfl
 obtain ⟨st,wa,ps,rows,t,rs,as,wy,key,rfl,S,W,TT,q⟩:=h
 have hwl:=W.len
 refine ⟨_,(zaf (zap (i:=3) sc_l_owns.nd rfl (Or.inr rfl) (zas F_full_rows hr (zaa (pv 0) zad)))
   (zaf (zap (i:=4) sc_l_owns.nd rfl (Or.inl rfl) (zhi (kf:=1) F_search hr (zas F_bridges hr (zaa (pv 0) zad)) (zaO zdm rfl T.m_list boot_list (zaa (pv 1) zad)) (znO (osc:=zai zcg) (N:=["_law_stand_here","_law_way_here","_law_key_here","_law_fulls","_law_found"]) (ps:=["_law_knot","_law_number"]) (caps:=["_law_key_here","_law_fulls"]) (cap:=[2,3]) ⟨rfl,rfl,rfl,by decide +kernel,by decide +kernel,by decide +kernel,by decide +kernel⟩ (by decide +kernel) (by decide +kernel) rfl rfl rfl rfl (fun _ _ _ _ us hl=>match us,hl with | [_,_],_=>rfl) (fun _=>rfl)) rfl D_l_owns.hd hBM (fun b _ _ _ _ _ _ _ S hr=>(zh1 zfL (zaA (zfs (K:=K)) (zaA (ze2 (K:=K)) (zaA (ze2 (K:=K)) (pv 3) (pv 0) (fun _ _=>rfl)) (pv 1) (fun _ _=>rfl)) zae (fun _ _=>rfl)) (pv 2) (zaF _)))))
   (zah (zar (zbf (N:=["_law_spot","_law_own"]) (own:=2) (cap:=[]) rfl (zb2 (pv 4)) ⟨rfl,rfl,rfl,rfl,rfl,rfl⟩ (fun _ _ _ _ _=>(zk1 (K:=K) (n:=2) rfl (zaT (zao (i:=0) (show List.Nodup (["_law_spot","_law_own"] : List Str) by decide +kernel) rfl (Or.inl rfl)) (zaT (zao (i:=1) (show List.Nodup (["_law_spot","_law_own"] : List Str) by decide +kernel) rfl (Or.inl rfl)) zdf)))) (fun _ _ _ _ _=>zbk) (fun _ _ _ _ _=>(pv 1))))))),?_⟩
 refine ⟨_,rfl,st,ps,rows,t,rs,as,rfl,S,fun pf qs H1 hpf s1 h1 _ _ _ hF=>?_⟩
 refine ⟨_,rfl,st,ps,rows,t,rs,as,rfl,S.same s1,fun br xs H2 _ s2 h2 hB=>?_⟩
 have s02:=s1.trans s2
 refine ⟨_,rfl,wa,_,rfl,.inl (SqL.of (s02 _ _ W.at_)),fun y hy=>?_⟩
 have sy:=zaj hy (.lst (wy.map nV))
 have s13:=s2.trans sy
 have s03:=s02.trans sy
 have hyy : upd H2 y (.lst (wy.map nV)) y = some (.lst (wy.map nV)):=zac
 have h3:=s13 _ _ h1
 have hF3:=hF.same s13
 have hbr3:=sy _ _ h2
 have hB3:=br_kp (fun b o _ e=>sy b o e) hB
 have TT3:=TT.same s03
 generalize upd H2 y (.lst (wy.map nV)) = H3 at sy s13 s03 hyy h3 hF3 hbr3 hB3 TT3 ⊢
 refine ⟨TT3.t2,[.int key,.ref pf],rfl,?_,fun bs g c' H4 hg hT4 hC SB hV=>?_⟩
 ·intro j i v h1 h2
  rcases j with _ | _ | j
  ·cases h1; cases h2; rfl
  ·cases h1; cases h2; rfl
  ·cases h1
 have nm2 : ∀ {x : Addr} {o : HO},H3 x = some o→(∀ tab,o≠.tbl tab)→x≠mp:=fun {x o} e n z=>by
  obtain ⟨tab,e2,_⟩:=TT3.t2.ex
  rw [← z,e] at e2
  exact n _ (Option.some.inj e2)
 have k34 : Kp0 H3 H4:=fun b o n e=>hg _ _ (nm2 e n) e
 have t41 : zbh H4 m1 zfr zlt:=TT3.t1.gro hg TT3.ne (by
  obtain ⟨tab,e,_⟩:=TT3.t2.ex
  exact ⟨tab,e⟩)
 have nm1 : ∀ {x : Addr} {o : HO},H4 x = some o→(∀ tab,o≠.tbl tab)→x≠m1:=fun {x o} e n z=>by
  obtain ⟨tab,e2,_⟩:=t41.ex
  rw [← z,e] at e2
  exact n _ (Option.some.inj e2)
 have h4:=k34.lst h3
 have hF4:=zne k34 hF3
 have hB4:=br_kp k34 hB3
 have AF : AskF P w K mg bs g [] m1 (fun b=>b≠m1∧H4 b≠none) (fun _ H'=>Gro m1 H4 H') ps rows key:=by
  refine ⟨fun L Ha Hb hR hk b o n e=>hk b o ⟨n,by rw [e]; exact fun z=>nomatch z⟩ (hR b o n e),fun L Ha b hR hb=>?_,fun L Ha hR a ha=>absurd ha List.not_mem_nil,fun z=>z.1 rfl,_,_,hV,fun kn i L Ha Q hkn hi hR hQ=>⟨rfl,hR _ _ (nm1 hC (fun _ z=>nomatch z)) hC,?_⟩⟩
  ·cases e : H4 b with
   | none=>exact absurd e hb.2
   | some o=>
    rw [hR b o hb.1 e]
    exact fun z=>nomatch z
  ·obtain ⟨qk,hqk,wk,hwk,hak⟩:=zbW hF4 hkn
   have hge : (zal ps rows kn)[i]? = some ((zal ps rows kn).getD i (0,0)):=by
    rw [List.getD_eq_getElem?_getD,List.getElem?_eq_getElem hi]
    rfl
   obtain ⟨v,hv,bb,x1,x2,rfl,hb,e1,e2⟩ : ∃ v,wk[i]? = some v∧hasP K H4 ((zal ps rows kn).getD i (0,0)) v:=zbn hak hge
   have e1' : x1 = .int ((zal ps rows kn).getD i (0,0)).1:=e1
   subst e1'
   have ha:=hR _ _ (nm1 h4 (fun _ z=>nomatch z)) h4
   have hwa:=hR _ _ (nm1 hwk (fun _ z=>nomatch z)) hwk
   have hba:=hR _ _ (nm1 hb (fun _ z=>nomatch z)) hb
   refine ⟨_,rfl,_,rfl,_,_,_,_,rfl,rfl,SqL.of ha,zaX (v:=.ref qk) (by rw [List.getElem?_map,hqk]; rfl),_,rfl,_,_,_,_,rfl,rfl,SqL.of hwa,zaX hv,_,_,_,_,rfl,rfl,SqT.of hba,rfl,_,rfl,_,_,rfl,rfl,?_⟩
   exact hQ _ hR fun _ _ _ h=>h
 have SE : zbQ [] m1 (fun _ H'=>Gro m1 H4 H') ps rows br xs [] H4:=⟨Gro.refl _ _,fun a ha=>absurd ha List.not_mem_nil,k34.lst hbr3,List.not_mem_nil,hB4,t41⟩
 refine ⟨br,y,g,xs,ps,rows,wy,key,[],_,_,[],rfl,AF,SE,S.T,S.R,S.few,⟨k34.lst hyy,hwl,W.ne,W.ch,W.kn⟩,List.not_mem_nil,fun D zs H5 L' S5 k5 hDn h5 hA _=>?_⟩
 have k45 : Gro m1 H4 H5:=fun b o n e=>k5 b o List.not_mem_nil n e
 have k05 : Kp0 H H5:=fun b o n e=>by
  have e4:=k34 _ _ n (s03 _ _ e)
  exact k45 _ _ (nm1 e4 n) e4
 have TT5 : TwoT m1 mp H5:=⟨S5.tb,hT4.gro k45 (Ne.symm TT.ne) (by
  obtain ⟨tab,e,_⟩:=t41.ex
  exact ⟨tab,e⟩),TT.ne⟩
 have hzl:=hA.length
 rw [List.length_map] at hzl
 refine ⟨_,rfl,D,rfl,⟨_,SqL.of h5⟩,fun E hE=>?_⟩
 refine zcE (xs:=zs) (fun i σ H6=>∃ x0 x1 : Option V,σ = [x0,x1]∧H6 E = some (.lst (((wy.take i).map fun k=>((ownB rows k key : Nat) : Int)).map V.int))∧But E H5 H6) ?_ ?_ ?_ ?_
 ·exact ⟨_,_,rfl,zac,fun b o n e=>by rw [zag n]; exact e⟩
 ·rintro i σ H6 _ ⟨x0,x1,rfl,_,k6⟩
  exact k6.sq (SqL.of h5) hE
 ·rintro i m x σ H6 hx hm ⟨x0,x1,rfl,h6,k6⟩
  obtain ⟨e,he,hh⟩:=hA.get hx
  have hi:=(List.getElem?_eq_some_iff.mp he).1
  rw [List.length_map] at hi
  rw [List.getElem?_map,List.getElem?_eq_getElem hi] at he
  obtain rfl:=Option.some.inj he
  obtain ⟨a,y1,y2,rfl,ha,e1,e2⟩:=(show hasP K H5 _ x from hh)
  have e2' : y2 = .int ((ownB rows wy[i] key : Nat) : Int):=e2
  subst e2'
  have h6a:=k6 _ _ (zab ha hE) ha
  refine ⟨a,_,rfl,SqT.of h6a,rfl,_,_,rfl,_,_,rfl,rfl,?_⟩
  refine zn4 (iteT ?_)
  refine ⟨_,rfl,_,h6,zam (by rw [List.length_map,List.length_map,List.length_take]; omega),m - 1,by omega,by omega,_,_,rfl,?_,fun b o n e=>by rw [zag n]; exact k6 b o n e⟩
  rw [zac,List.take_succ_eq_append_getElem hi,List.map_append,List.map_append]
  rfl
 rintro σ H6 ⟨x0,x1,rfl,h6,k6⟩
 rw [List.take_of_length_le (by omega)] at h6
 have s6 : Same H5 H6:=fun b o e=>k6 b o (zab e hE) e
 exact q E H6 (k05.trans (.of s6)) (TT5.same s6) h6
theorem zha {f : List Int→List Int} {rows : List (List Int)} {k : Nat} (h : k < rows.length) : zaJ (rows.map f) k = f (zaJ rows k):=by
 unfold zaJ
 rw [List.getD_eq_getElem?_getD,List.getD_eq_getElem?_getD,List.getElem?_map,List.getElem?_eq_getElem h]
 rfl
theorem zkW {rows : List (List Int)} {k : Nat} (h : k < rows.length) : zaJ rows k∈rows:=by
 unfold zaJ
 rw [List.getD_eq_getElem?_getD,List.getElem?_eq_getElem h]
 exact List.getElem_mem h
theorem zjQ {rows : List (List Int)} {k : Nat} (h : k < rows.length) (b key : Int) : ownB (rows.map fun r=>r.map (· + b)) k (key + b) = ownB rows k key:=by
 unfold ownB
 rw [zha h,List.filter_map,List.length_map]
 congr 2
 funext x
 show decide (x + b < key + b) = decide (x < key)
 exact decide_eq_decide.mpr (by omega)
theorem zjP {rows : List (List Int)} {k : Nat} (h : k < rows.length) (key : Int) : ownB (rows.map fun r=>r.reverse.map (- ·)) k (0 - key) = ((zaJ rows k).filter fun x=>decide (x > key)).length:=by
 unfold ownB
 rw [zha h,List.filter_map,List.length_map,List.filter_reverse,List.length_reverse]
 congr 2
 funext x
 show decide (-x < 0 - key) = decide (x > key)
 exact decide_eq_decide.mpr (by omega)
def Few (rows : List (List Int)) : Prop:=∀ r∈rows,∀ x∈r,-(10 ^ 59) < x∧x < 10 ^ 59
theorem zhc {rows : List (List Int)} (R : zaH rows) (F : Few rows) {b : Int} (hb : -(10 ^ 59) < b∧b < 10 ^ 59) : zaH (rows.map fun r=>r.map (· + b))∧∀ r∈rows,∀ k∈r,zdp (k + b):=by
 refine ⟨⟨fun r hr=>?_,fun r hr x hx=>?_⟩,fun r hr k hk=>?_⟩
 ·obtain ⟨r,hr1,rfl⟩:=List.mem_map.mp hr
  exact List.Pairwise.map _ (fun a b (h : a < b)=>by show a + _ < b + _; omega) (R.up r hr1)
 ·obtain ⟨r,hr1,rfl⟩:=List.mem_map.mp hr
  obtain ⟨y,hy,rfl⟩:=List.mem_map.mp hx
  have:=F r hr1 y hy
  show -(10 ^ 60) < y + b∧y + b < 10 ^ 60
  omega
 ·have:=F r hr k hk
  unfold zdp
  split <;> omega
theorem zko {rows : List (List Int)} (R : zaH rows) : zaH (rows.map fun r=>r.reverse.map (- ·)):=by
 refine ⟨fun r hr=>?_,fun r hr x hx=>?_⟩
 ·obtain ⟨r,hr1,rfl⟩:=List.mem_map.mp hr
  rw [List.map_reverse,List.pairwise_reverse]
  exact List.Pairwise.map _ (fun a b (h : a < b)=>by show -b < -a; omega) (R.up r hr1)
 ·obtain ⟨r,hr1,rfl⟩:=List.mem_map.mp hr
  obtain ⟨y,hy,rfl⟩:=List.mem_map.mp hx
  have:=R.key r hr1 y (List.mem_reverse.mp hy)
  show -(10 ^ 60) < -y∧-y < 10 ^ 60
  omega
theorem zhY (rows : List (List Int)) (b : Int) : (rows.map fun r=>r.map (· + b)).map (fun r=>r.map (· + (0 - b))) = rows:=by
 rw [List.map_map]
 conv=>rhs; rw [← List.map_id rows]
 refine List.map_congr_left fun r _=>?_
 show (r.map (· + b)).map (· + (0 - b)) = r
 rw [List.map_map]
 conv=>rhs; rw [← List.map_id r]
 exact List.map_congr_left fun x _=>by show x + b + (0 - b) = x; omega
theorem zhT (rows : List (List Int)) : (rows.map fun r=>r.reverse.map (- ·)).map (fun r=>r.reverse.map (- ·)) = rows:=by
 rw [List.map_map]
 conv=>rhs; rw [← List.map_id rows]
 refine List.map_congr_left fun r _=>?_
 show (r.reverse.map (- ·)).reverse.map (- ·) = r
 rw [← List.map_reverse,List.reverse_reverse,List.map_map]
 conv=>rhs; rw [← List.map_id r]
 exact List.map_congr_left fun x _=>by show - -x = x; omega
theorem zgD {r : List Int} : ∀ {rows : List (List Int)} {k : Nat},k < rows.length→zb7 (rows.set k r) + (zaJ rows k).length = zb7 rows + r.length
 | [],k,h=>absurd h (Nat.not_lt_zero _)
 | a :: rows,0,_=>by
  show (r.length :: rows.map List.length).sum + a.length = (a.length :: rows.map List.length).sum + r.length
  rw [List.sum_cons,List.sum_cons]
  omega
 | a :: rows,k + 1,h=>by
  have ih:=zgD (r:=r) (rows:=rows) (k:=k) (by simpa using h)
  have e1 : zb7 ((a :: rows).set (k + 1) r) = a.length + zb7 (rows.set k r):=by
   rw [List.set_cons_succ]
   unfold zb7
   rw [List.map_cons,List.sum_cons]
  have e2 : zb7 (a :: rows) = a.length + zb7 rows:=by
   unfold zb7
   rw [List.map_cons,List.sum_cons]
  have e3 : zaJ (a :: rows) (k + 1) = zaJ rows k:=by
   unfold zaJ
   rw [List.getD_eq_getElem?_getD,List.getD_eq_getElem?_getD,List.getElem?_cons_succ]
  rw [e1,e2,e3]
  omega
def zby {α : Type} (l : List α) (k m : Nat) (x y : α) : List α:=(l.set k y).set m x
theorem ziI {α : Type} {l : List α} {k m : Nat} {x y z : α} (hx : x∈l) (hy : y∈l) (h : z∈zby l k m x y) : z∈l:=by
 rcases List.mem_or_eq_of_mem_set h with h | h
 ·rcases List.mem_or_eq_of_mem_set h with h | h
  ·exact h
  ·rw [h]
   exact hy
 ·rw [h]
  exact hx
theorem zkz {rows : List (List Int)} {k m : Nat} {x y : List Int} (hx : rows[k]? = some x) (hy : rows[m]? = some y) : zb7 (zby rows k m x y) = zb7 rows:=by
 have hk:=(List.getElem?_eq_some_iff.mp hx).1
 have hm:=(List.getElem?_eq_some_iff.mp hy).1
 have h1:=zgD (r:=y) hk
 have h2:=zgD (r:=x) (rows:=rows.set k y) (k:=m) (by rw [List.length_set]; exact hm)
 have e1 : zaJ rows k = x:=by
  unfold zaJ
  rw [List.getD_eq_getElem?_getD,hx]
  rfl
 have e2 : zaJ (rows.set k y) m = y:=by
  unfold zaJ
  rw [List.getD_eq_getElem?_getD,List.getElem?_set]
  split
  ·rfl
  ·rw [hy]
   rfl
 rw [e1] at h1
 rw [e2] at h2
 unfold zby
 omega
theorem zn7 {rows : List (List Int)} (R : zaH rows) {k m : Nat} {x y : List Int} (hx : rows[k]? = some x) (hy : rows[m]? = some y) : zaH (zby rows k m x y):=
 ⟨fun r hr=>R.up r (ziI (List.mem_of_getElem? hx) (List.mem_of_getElem? hy) hr),fun r hr=>R.key r (ziI (List.mem_of_getElem? hx) (List.mem_of_getElem? hy) hr)⟩
theorem zn8 {α : Type} {l : List α} {k m : Nat} {x y : α} (hx : l[k]? = some x) (hy : l[m]? = some y) : (zby l k m x y)[k]? = some y∧(zby l k m x y)[m]? = some x:=by
 have hk:=(List.getElem?_eq_some_iff.mp hx).1
 have hm:=(List.getElem?_eq_some_iff.mp hy).1
 unfold zby
 refine ⟨?_,by rw [List.getElem?_set_self (by rw [List.length_set]; exact hm)]⟩
 by_cases c : m = k
 ·subst c
  rw [List.getElem?_set_self (by rw [List.length_set]; exact hm)]
  rw [hx] at hy
  exact hy
 ·rw [List.getElem?_set_ne c,List.getElem?_set_self hk]
theorem zkA {α : Type} {l : List α} {k m : Nat} {x y : α} (hx : l[k]? = some x) (hy : l[m]? = some y) : zby (zby l k m x y) k m y x = l:=by
 have hk:=(List.getElem?_eq_some_iff.mp hx).1
 have hm:=(List.getElem?_eq_some_iff.mp hy).1
 refine List.ext_getElem? fun i=>?_
 unfold zby
 by_cases c1 : m = i
 ·subst c1
  rw [List.getElem?_set_self (by simpa using hm),hy]
 ·rw [List.getElem?_set_ne c1]
  by_cases c2 : k = i
  ·subst c2
   rw [List.getElem?_set_self (by simpa using hk),hx]
  ·rw [List.getElem?_set_ne c2,List.getElem?_set_ne c1,List.getElem?_set_ne c2]
theorem zgt {α β : Type} {F : α→β→Prop} : ∀ {l : List α} {r : List β} {k : Nat} {a : α} {b : β},Paired F l r→F a b→Paired F (l.set k a) (r.set k b)
 | _,_,_,_,_,.nil,_=>.nil
 | _,_,0,_,_,.cons _ t,h=>.cons h t
 | _,_,_ + 1,_,_,.cons f t,h=>.cons f (zgt t h)
def optL (ps : List Nat) : List (Option Int):=none :: ps.map fun (p : Nat)=>some (Int.ofNat p)
theorem zmr {K : PySem.W.Frag} {H : Hp} (ps : List Nat) : zak K H (optL ps) (zcI ps):=by
 refine .cons rfl ?_
 induction ps with
 | nil=>exact .nil
 | cons p ps ih=>exact .cons rfl ih
theorem ziX {K : PySem.W.Frag} {H : Hp} : ∀ {as : List Addr} {rows : List (List Int)},zaC H as rows→zak K H (rows.map Tup.mk) (as.map V.ref)
 | _,_,.nil=>.nil
 | _,_,.cons h t=>.cons ⟨_,_,rfl,SqT.of h,zak.ints⟩ (ziX t)
abbrev stV (ps : List Nat) (rows : List (List Int)) : Tup (Option Int)×Tup (Tup Int):=((⟨optL ps⟩ : Tup (Option Int)),(⟨rows.map Tup.mk⟩ : Tup (Tup Int)))
theorem zfU {K : PySem.W.Frag} {H : Hp} {st t rs : Addr} {as : List Addr} {ps : List Nat} {rows : List (List Int)} (h1 : H st = some (.tup [.ref t,.ref rs])) (h2 : H t = some (.tup (zcI ps))) (h3 : H rs = some (.tup (as.map V.ref))) (h4 : zaC H as rows) : Rep.has K H (stV ps rows) (.ref st):=
 ⟨st,_,_,rfl,h1,⟨_,_,rfl,SqT.of h2,zmr ps⟩,⟨_,_,rfl,SqT.of h3,ziX h4⟩⟩
theorem ls_kp0 {L d : Addr} {H H' : Hp} (s : LS K L d H) (g : Kp0 H H') : LS K L d H':=by
 obtain ⟨ns,a,l,e,q⟩:=s.ex
 refine ⟨ns,a,l,g _ _ (fun _ z=>nomatch z) e,?_⟩
 rcases q with (q | ⟨o,q⟩) | q
 ·exact .inl (.inl (g _ _ (fun _ z=>nomatch z) q))
 ·exact .inl (.inr ⟨o,g _ _ (fun _ z=>nomatch z) q⟩)
 ·exact .inr q
def cntL (rows : List (List Int)) (wy : List Nat) (f : Int→Bool) : List Int:=wy.map fun k=>(((zaJ rows k).filter f).length : Int)
theorem zgL {K : PySem.W.Frag} {ixr : V→V→Hp→VK→Prop} {f : Int→Int→V} (g : Int→Int→Bool) {σ : L2.St} {H : Hp} {Q : Hp→Prop} {wa ra D : Addr} {key : Int} {ps wy : List Nat} (rows : List (List Int)) (W : zeu H wa ps wy) (hD : H D = none) (hst : σ = [none,some (.ref ra),some (.int key)]) (hf : ∀ i j,f i j = .bl (g i j)) (hz : ∀ k∈wy,(zaJ rows k).length≤63)
  (hix : ∀ k∈wy,∃ b,H b = some (.tup ((zaJ rows k).map V.int))∧∀ (H2 : Hp) (Q2 : VK),Same H H2→Q2 (.ref b) H2→ixr (.ref ra) (.int k) H2 Q2)
  (q : ∀ (H' : Hp),Same H H'→H' D = some (.lst ((cntL rows wy fun x=>g x key).map V.int))→Q H') :
  ∃ W : Nat→Nat→L2.St→Hp→Prop,(∃ m,W 0 m σ (upd H D (.lst [])))∧∀ i m σ H,W i m σ H→((Itl K wa).stop i H∧Q H)∨((Itl K wa).go i H∧∀ x H',(Itl K wa).yld i H x H'→zij 0 x σ H' fun σ2 H2=>tYes σ2 H2 fun b H3=>if b = true then (tCB (fun xs H Q=>∃ p ys,xs = [V.ref p]∧(SqL K H p ys∨SqT K H p ys)∧Q (V.int ys.length) H) (tCons (zn6 1 [2] (iTup K (tOp ixr (tVar 1) (tVar 0))) (zij 0) (tTest (tOp (rI0 f) (tVar 0) (tVar 1))) (tVar 0)) tNil)) σ2 H3 fun y H4=>∃ xs,H4 D = some (.lst xs)∧xs.length < sizeLine∧∃ m',m' < m∧W (i + 1) m' σ2 (upd H4 D (.lst (xs ++ [y]))) else ∃ m',m' < m∧W (i + 1) m' σ2 H3):=by
 obtain rfl : f = fun i j=>.bl (g i j):=funext fun i=>funext fun j=>hf i j
 have hwl:=W.len
 rw [hst]
 refine zcE (xs:=wy.map nV) (fun i σ H2=>∃ x0 : Option V,σ = [x0,some (.ref ra),some (.int key)]∧H2 D = some (.lst ((cntL rows (wy.take i) fun x=>g x key).map V.int))∧But D H H2) ?_ ?_ ?_ ?_
 ·exact ⟨_,rfl,zac,fun b o n e=>by rw [zag n]; exact e⟩
 ·rintro i σ H2 _ ⟨x0,rfl,_,k2⟩
  exact k2.sq (SqL.of W.at_) hD
 ·rintro i m x σ H2 hx hm ⟨x0,rfl,h2,k2⟩
  have hi:=(List.getElem?_eq_some_iff.mp hx).1
  rw [List.length_map] at hi hm
  rw [zgT hi] at hx
  obtain rfl:=Option.some.inj hx
  have s02 : Same H H2:=fun b o e=>k2 b o (zab e hD) e
  obtain ⟨b,hb,hrow⟩:=hix _ (zfP hi)
  have hb2:=s02 _ _ hb
  have hz1:=hz _ (zfP hi)
  refine zcZ ?_
  refine ⟨_,rfl,_,rfl,hrow _ _ s02 ⟨b,rfl,⟨_,SqT.of hb2⟩,fun D2 hD2=>?_⟩⟩
  refine zcm (xs:=(zaJ rows (wy.getD i 0)).map V.int) (fun j σ H5=>∃ (x0 : Option V),σ = [x0,some (.int key)]∧H5 D2 = some (.lst ((((zaJ rows (wy.getD i 0)).take j).filter fun x=>g x key).map V.int))∧But D2 H2 H5) ?_ ?_ ?_ ?_
  ·exact ⟨_,rfl,zac,fun b o n e=>by rw [zag n]; exact e⟩
  ·rintro j σ H5 _ ⟨x0,rfl,_,k5⟩
   exact SqT.of (k5 _ _ (zab hb2 hD2) hb2)
  ·rintro j m x σ H5 hx hm ⟨x0,rfl,h5,k5⟩
   rw [List.getElem?_map] at hx
   obtain ⟨y,hy,rfl⟩:=Option.map_eq_some_iff.mp hx
   have hj:=(List.getElem?_eq_some_iff.mp hy).1
   rw [List.length_map] at hm
   have htk : (zaJ rows (wy.getD i 0)).take (j + 1) = (zaJ rows (wy.getD i 0)).take j ++ [y]:=by rw [List.take_succ_eq_append_getElem hj,(List.getElem?_eq_some_iff.mp hy).2]
   have hsl : (((zaJ rows (wy.getD i 0)).take j).filter fun x=>g x key).length≤j:=Nat.le_trans (List.length_filter_le _ _) (by rw [List.length_take]; omega)
   refine ⟨_,rfl,_,rfl,_,_,rfl,rfl,_,rfl,?_⟩
   refine ite2 (fun c=>?_) (fun c=>?_)
   ·refine ⟨_,rfl,_,h5,zam (by rw [List.length_map]; omega),m - 1,by omega,by rw [List.length_map]; omega,_,rfl,?_,fun b o n e=>by rw [zag n]; exact k5 b o n e⟩
    rw [zac,htk,List.filter_append,List.filter_cons_of_pos (p:=fun x=>g x key) c,List.map_append]
    rfl
   ·refine ⟨m - 1,by omega,by rw [List.length_map]; omega,_,rfl,?_,k5⟩
    rw [htk,List.filter_append,List.filter_cons_of_neg (p:=fun x=>g x key) c,List.filter_nil,List.append_nil]
    exact h5
  rintro σ H5 ⟨y0,rfl,h5,k5⟩
  rw [List.length_map,List.take_of_length_le (Nat.le_refl _)] at h5
  have s5 : Same H2 H5:=fun b o e=>k5 b o (zab e hD2) e
  refine ⟨D2,_,rfl,.inl (SqL.of h5),?_⟩
  refine ⟨_,s5 _ _ h2,zam (by unfold cntL; rw [List.length_map,List.length_map,List.length_take]; omega),m - 1,by omega,by rw [List.length_map]; omega,_,rfl,?_,fun b o n e=>by rw [zag n]; exact s5 _ _ (k2 b o n e)⟩
  unfold cntL
  rw [zac,zhS _ hi,List.map_append,List.length_map]
  rfl
 rintro σ H2 ⟨x0,rfl,h2,k2⟩
 rw [List.length_map,List.take_of_length_le (Nat.le_refl _)] at h2
 exact q H2 (fun b o e=>k2 b o (zab e hD) e) h2
def zkJ (K : PySem.W.Frag) (m1 m2 : Addr) : Sp:=fun vs H Q _=>∃ (d L st wa : Addr) (ps : List Nat) (rows : List (List Int)) (t rs : Addr) (as : List Addr) (wy : List Nat) (key : Int),vs = [.ref d,.ref st,.ref wa,.int key]∧LS K L d H∧zaY H st ps rows t rs as∧Few rows∧zeu H wa ps wy∧TwoT m1 m2 H∧
 ∀ H' : Hp,(∀ b o,b≠d→(∀ tab,o≠.tbl tab)→H b = some o→H' b = some o)→TwoT m1 m2 H'→LS K L d H'→Q (.bl true) H'
theorem zmK (T : Txt K mg) {m1 m2 : Addr} (D_l_moved_right : DF K mg "_law_moved_right" zbq za2) (F_l_take : FC P w K mg base 2 "_law_take" za9 (zey K)) (F_l_owns : FC P w K mg base 10 "_law_owns" zcv (zkH K m1 m2)) (F_raised : FC P w K mg base 5 "raised" zc8 (ziP K)) (F_exchanged : FC P w K mg base 2 "exchanged" zbJ (znC K)) (F_turned_about : FC P w K mg base 2 "turned_about" za8 (zg0 K)) : FC P w K mg base 11 "_law_moved_right" za2 (zkJ K m1 m2):=by
 refine D_l_moved_right.ok sc_l_moved_right (fun vs H Q E h=>?_) (fun f cdv A outer s H vs Q E hr h=>?_)
 ·obtain ⟨d,L,st,wa,ps,rows,t,rs,as,wy,key,rfl,_⟩:=h
  rfl
 obtain ⟨d,L,st,wa,ps,rows,t,rs,as,wy,key,rfl,hs,S,hFew,W,TT,q⟩:=h
 refine ⟨_,(zaf (zi2 (pv 1) (zfm rfl (zaT (zao (i:=4) sc_l_moved_right.nd rfl (Or.inl rfl)) (zaT (zao (i:=5) sc_l_moved_right.nd rfl (Or.inr rfl)) zdf))))
   (zaf (zap (i:=6) sc_l_moved_right.nd rfl (Or.inl rfl) (zaq zcj (zaq zbM (zas F_l_take hr (zaa (pv 0) (zaa zae zad))) zae) (zaA zaE (zbR (zaa zae (zaa (zaq zed zae zae) (zaa (zaq zed zae zae) zad)))) (zas F_l_take hr (zaa (pv 0) (zaa zae zad))) (fun _ _=>rfl))))
   (zaf (zap (i:=7) sc_l_moved_right.nd rfl (Or.inl rfl) (zas F_l_take hr (zaa (pv 0) (zaa (zau zat rfl T.m_len boot_len (zaa (pv 4) zad)) zad))))
   (zaf (zap (i:=8) sc_l_moved_right.nd rfl (Or.inl rfl) (zaA zaE (pv 2) (zas F_l_take hr (zaa (pv 0) (zaa (zau zat rfl T.m_len boot_len (zaa (pv 2) zad)) zad))) (fun _ _=>rfl)))
   (zaf (zdM (i:=9) (N:=["_law_knot","_law_rows_here","_law_key_here"]) (own:=1) (cap:=[5,3]) sc_l_moved_right.nd rfl rfl rfl (zb2 (pv 2)) ⟨rfl,rfl,rfl,rfl,rfl,rfl⟩ (fun _ _ _ _ _=>(zao (i:=0) (show List.Nodup (["_law_knot","_law_rows_here","_law_key_here"] : List Str) by decide +kernel) rfl (Or.inl rfl))) (fun _ _ _ _ _=>zbk) (fun _ _ _ _ _=>(zau (zcV (K:=K)) rfl T.m_len boot_len (zaa (zbf (N:=["_law_other_key","_law_key_here"]) (own:=1) (cap:=[2]) rfl (zgo (K:=K) (zaA (zfs (K:=K)) (pv 1) (pv 0) (fun _ _=>rfl))) ⟨rfl,rfl,rfl,rfl,rfl,rfl⟩ (fun _ _ _ _ _=>(zao (i:=0) (show List.Nodup (["_law_other_key","_law_key_here"] : List Str) by decide +kernel) rfl (Or.inl rfl))) (fun _ _ _ _ _=>(zc5 (zav zfL (pv 0) (pv 1) (zaF _)))) (fun _ _ _ _ _=>(pv 0))) zad))))
   (zbc (zcy (PW.pt (zmy (zav (zeA (List Int) (huD hr)) (zas F_l_owns hr (zaa (pv 1) (zaa (pv 2) (zaa (pv 3) zad)))) (pv 9) (zaF _)) (zi0 (zav (zeA (List Int) (huD hr)) (zas F_l_owns hr (zaa (zas F_raised hr (zaa (pv 1) (zaa (pv 6) zad))) (zaa (pv 2) (zaa (zaq za6 (pv 3) (pv 6)) zad)))) (pv 9) (zaF _))))) (zah (zar zgr)) za5)
   (zaf (zap (i:=10) sc_l_moved_right.nd rfl (Or.inl rfl) (zas F_exchanged hr (zaa (pv 1) (zaa (pv 7) (zaa (pv 8) zad)))))
   (zaf (zap (i:=11) sc_l_moved_right.nd rfl (Or.inr rfl) (zaO zdm rfl T.m_list boot_list (zaa (pv 5) zad)))
   (zaf (zi2 (zbL (zaa (zaA zaE (pv 11) (pv 8) (fun _ _=>rfl)) (zaa (zaA zaE (pv 11) (pv 7) (fun _ _=>rfl)) zad))) (zfm rfl (zaT (zi3 (pv 11) (pv 7) zeP) (zaT (zi3 (pv 11) (pv 8) zeP) zdf))))
   (zaf (zdM (i:=12) (N:=["_law_knot","_law_now","_law_key_here"]) (own:=1) (cap:=[11,3]) sc_l_moved_right.nd rfl rfl rfl (zb2 (pv 2)) ⟨rfl,rfl,rfl,rfl,rfl,rfl⟩ (fun _ _ _ _ _=>(zao (i:=0) (show List.Nodup (["_law_knot","_law_now","_law_key_here"] : List Str) by decide +kernel) rfl (Or.inl rfl))) (fun _ _ _ _ _=>zbk) (fun _ _ _ _ _=>(zau (zcV (K:=K)) rfl T.m_len boot_len (zaa (zbf (N:=["_law_other_key","_law_key_here"]) (own:=1) (cap:=[2]) rfl (zgo (K:=K) (zaA (ze2 (K:=K)) (pv 1) (pv 0) (fun _ _=>rfl))) ⟨rfl,rfl,rfl,rfl,rfl,rfl⟩ (fun _ _ _ _ _=>(zao (i:=0) (show List.Nodup (["_law_other_key","_law_key_here"] : List Str) by decide +kernel) rfl (Or.inl rfl))) (fun _ _ _ _ _=>(zc5 (zav zfL (pv 0) (pv 1) (zaF _)))) (fun _ _ _ _ _=>(pv 0))) zad))))
   (zbc (zcy (PW.pt (zmy (zav (zeA (List Int) (huD hr)) (zas F_l_owns hr (zaa (pv 10) (zaa (pv 2) (zaa (pv 3) zad)))) (pv 12) (zaF _)) (zi0 (zav (zeA (Tup (Option Int)×Tup (Tup Int)) (huD hr)) (zas F_exchanged hr (zaa (pv 10) (zaa (pv 7) (zaa (pv 8) zad)))) (pv 1) (zaF _))))) (zah (zar zgr)) za5)
   (zaf (zdM (i:=13) (N:=["_law_knot","_law_rows_here","_law_key_here"]) (own:=1) (cap:=[5,3]) sc_l_moved_right.nd rfl rfl rfl (zb2 (pv 2)) ⟨rfl,rfl,rfl,rfl,rfl,rfl⟩ (fun _ _ _ _ _=>(zao (i:=0) (show List.Nodup (["_law_knot","_law_rows_here","_law_key_here"] : List Str) by decide +kernel) rfl (Or.inl rfl))) (fun _ _ _ _ _=>zbk) (fun _ _ _ _ _=>(zau (zcV (K:=K)) rfl T.m_len boot_len (zaa (zbf (N:=["_law_other_key","_law_key_here"]) (own:=1) (cap:=[2]) rfl (zgo (K:=K) (zaA (zfs (K:=K)) (pv 1) (pv 0) (fun _ _=>rfl))) ⟨rfl,rfl,rfl,rfl,rfl,rfl⟩ (fun _ _ _ _ _=>(zao (i:=0) (show List.Nodup (["_law_other_key","_law_key_here"] : List Str) by decide +kernel) rfl (Or.inl rfl))) (fun _ _ _ _ _=>(zc5 (zav zk6 (pv 0) (pv 1) (zaF _)))) (fun _ _ _ _ _=>(pv 0))) zad))))
   (zbc (zcy (PW.pt (zmy (zav (zeA (List Int) (huD hr)) (zas F_l_owns hr (zaa (zas F_turned_about hr (zaa (pv 1) zad)) (zaa (pv 2) (zaa (zaq zbM zae (pv 3)) zad)))) (pv 13) (zaF _)) (zi0 (zav (zeA (Tup (Option Int)×Tup (Tup Int)) (huD hr)) (zas F_turned_about hr (zaa (zas F_turned_about hr (zaa (pv 1) zad)) zad)) (pv 1) (zaF _))))) (zah (zar zgr)) za5)
   (zah (zar (zh1 (op_eqD (Tup (Option Int)×Tup (Tup Int)) (huD hr)) (zas F_raised hr (zaa (zas F_raised hr (zaa (pv 1) (zaa (pv 6) zad))) (zaa (zaq zbM zae (pv 6)) zad))) (pv 1) (zaF _))))))))))))))))),?_⟩
 have hal:=S.at_.length
 have hlen:=S.len
 have hfew:=S.few
 have hkeys:=S.keys
 have hwl:=W.len
 have hwpos : 0 < wy.length:=List.length_pos_iff.mpr W.ne
 have ndT : ∀ {H' : Hp} {a : Addr} {o : HO},LS K L d H'→H' a = some o→(∀ kvs,o≠.dK kvs)→a≠d:=fun {H' a o} s e n z=>by
  obtain ⟨_,_,_,e2,_⟩:=s.ex
  rw [← z,e] at e2
  exact n _ (Option.some.inj e2)
 have nd : ∀ {H' : Hp} {a : Addr},LS K L d H'→H' a = none→a≠d:=fun {H' a} s e z=>by
  obtain ⟨_,_,_,e2,_⟩:=s.ex
  rw [← z,e] at e2
  cases e2
 refine ⟨_,rfl,st,_,rfl,SqT.of S.st,rfl,_,_,rfl,_,_,rfl,rfl,?_⟩
 refine ⟨_,rfl,d,L,1999,rfl,by decide,hs,fun u H1 u0 u1 k1 s1=>⟨_,_,rfl,rfl,?_⟩⟩
 refine ⟨_,_,rfl,rfl,⟨by decide,by decide,by decide⟩,_,_,rfl,rfl,⟨by decide,by decide,by decide⟩,(by show 3≤sizeLine; decide),fun p hp=>?_⟩
 refine ⟨_,rfl,d,L,3,rfl,by decide,s1.of_new hp _,fun b H3 b0 b1 k3 s3=>?_⟩
 obtain ⟨mu,hat,m0,m1'⟩ : ∃ m : Int,atI [V.int 1,V.int (10 ^ (20 : Int).toNat),V.int (10 ^ (55 : Int).toNat)] b = some (.int m)∧0 < m∧m≤10 ^ 55:=by
  have z : b = 0∨b = 1∨b = 2:=by omega
  rcases z with rfl | rfl | rfl
  ·exact ⟨_,rfl,by decide +kernel,by decide +kernel⟩
  ·exact ⟨_,rfl,by decide +kernel,by decide +kernel⟩
  ·exact ⟨_,rfl,by decide +kernel,by decide +kernel⟩
 refine ⟨_,_,_,_,rfl,rfl,SqL.of (k3 p _ (nd s1 hp) zac),hat,_,_,rfl,rfl,.inl ⟨by omega,by omega⟩,?_⟩
 have hby : -(10 ^ 59) < (u - 999) * mu∧(u - 999) * mu < 10 ^ 59:=by
  have a:=Int.mul_le_mul_of_nonneg_right (show u - 999≤999 by omega) (Int.le_of_lt m0)
  have b:=Int.mul_le_mul_of_nonneg_right (show -999≤u - 999 by omega) (Int.le_of_lt m0)
  omega
 have k03 : Keep d H H3:=k1.trans ((zaj hp _).keep.trans k3)
 clear hat m0 m1' k1 s1 hp k3
 refine ⟨_,rfl,_,rfl,_,_,rfl,.inr (SqT.of (k03 _ _ (ndT hs S.tr (fun _ z=>nomatch z)) S.tr)),d,L,_,rfl,by rw [zaw]; omega,s3,fun v1 H4 v10 v11 k4 s4=>?_⟩
 rw [zaw] at v11
 obtain ⟨k,rfl⟩:=zfZ v10
 have k04:=k03.trans k4
 have nwd:=ndT hs W.at_ (fun _ z=>nomatch z)
 refine ⟨_,rfl,_,rfl,_,rfl,_,_,rfl,.inl (SqL.of (k04 _ _ nwd W.at_)),d,L,_,rfl,by rw [List.length_map]; omega,s4,fun v2 B v20 v21 k5 sB=>?_⟩
 rw [List.length_map] at v21
 obtain ⟨j,rfl⟩:=zfZ v20
 have hj : j < wy.length:=by omega
 have k0B:=k04.trans k5
 have WB : zeu B wa ps wy:=⟨k0B _ _ nwd W.at_,W.len,W.ne,W.ch,W.kn⟩
 refine ⟨_,_,_,_,rfl,rfl,SqL.of WB.at_,zaX (zgT hj),?_⟩
 have hmk : wy.getD j 0 < ps.length + 1:=W.kn _ (zfP hj)
 generalize wy.getD j 0 = m at hmk ⊢
 have kT : ∀ {x : Addr} {o : List V},H x = some (.tup o)→B x = some (.tup o):=fun {x o} e=>k0B _ _ (ndT hs e (fun _ z=>nomatch z)) e
 have SB : zaY B st ps rows t rs as:=⟨kT S.st,kT S.tr,kT S.rs,zaC.keep (p:=d) (d:=d) (fun a row e=>ndT hs e (fun _ z=>nomatch z)) k0B S.at_,S.len,S.T,S.R,S.few,S.keys⟩
 have TB : TwoT m1 m2 B:=⟨TT.t1.ext (hs.ext k0B),TT.t2.ext (hs.ext k0B),TT.ne⟩
 have fin : ∀ H' : Hp,Kp0 B H'→TwoT m1 m2 H'→Q (.bl true) H':=fun H' k' t'=>q H' (fun b o n1 n2 e=>k' _ _ n2 (k0B _ _ n1 e)) t' (ls_kp0 sB k')
 clear q hs S W TT k03 k4 s3 s4 k04 k5 k0B kT sB
 have hzr : ∀ k∈wy,(zaJ rows k).length≤63:=fun k hk=>Nat.le_trans (zd4 (zkW (by rw [hlen]; exact WB.kn k hk))) hkeys
 have h900 : ∀ r∈rows,r.length≤900:=fun r hr=>by
  have:=zd4 hr
  omega
 have hixT : ∀ {H0 : Hp},Kp0 B H0→∀ k∈wy,∃ b,H0 b = some (.tup ((zaJ rows k).map V.int))∧∀ (H2 : Hp) (Q2 : VK),Same H0 H2→Q2 (.ref b) H2→rIxT K (.ref rs) (.int k) H2 Q2:=fun {H0} k0 k hk=>by
  obtain ⟨b,hb1,hb2⟩:=SB.at_.get (k:=k) (by rw [hlen]; exact WB.kn k hk)
  exact ⟨b,k0.tup hb2,fun H2 Q2 s2 h2=>⟨_,_,_,_,rfl,rfl,SqT.of (s2 _ _ (k0.tup SB.rs)),zf9 hb1,h2⟩⟩
 refine ⟨_,rfl,wa,rfl,⟨_,SqL.of WB.at_⟩,fun D1 hD1=>?_⟩
 refine zgL (fun i j=>decide (i < j)) rows WB hD1 rfl (fun _ _=>rfl) hzr (hixT (fun _ _ _ e=>e)) fun B1 s1 h1=>?_
 refine ⟨fun σ' H'=>σ' = [some (.ref d),some (.ref st),some (.ref wa),some (.int key),some (.ref t),some (.ref rs),some (.int ((u - 999) * mu)),some (.int k),some (.int m),some (.ref D1),none,none,none,none]∧Kp0 B H'∧TwoT m1 m2 H',?_,?_⟩
 ·refine ⟨_,rfl,_,rfl,_,rfl,st,wa,ps,rows,t,rs,as,wy,key,rfl,SB.same s1,zev (.of s1) WB,TB.same s1,fun D2 B2 k2 T2 h2=>?_⟩
  have k02:=Kp0.trans (.of s1) k2
  have h12:=k2.lst h1
  refine ⟨_,rfl,cntL rows wy fun x=>decide (x < key),cntL rows wy fun x=>decide (x < key),⟨_,_,rfl,SqL.of h2,zak.ints⟩,⟨_,_,rfl,SqL.of h12,zak.ints⟩,_,rfl,?_⟩
  refine zj3 rfl ?_
  have S2:=zbS k02 SB
  obtain ⟨R3,hfit⟩:=zhc S2.R hFew hby
  refine ⟨_,rfl,_,rfl,st,t,rs,as,rows,((u - 999) * mu),rfl,S2.st,S2.rs,S2.at_,by omega,h900,hfit,fun st3 rs3 bs B3 s3 e1 e2 e3=>?_⟩
  refine ⟨_,rfl,_,rfl,_,rfl,_,_,rfl,rfl,st3,wa,ps,rows.map fun r=>r.map (· + ((u - 999) * mu)),t,rs3,bs,wy,key + ((u - 999) * mu),rfl,⟨e1,s3 _ _ S2.tr,e2,e3,by rw [List.length_map]; exact hlen,S2.T,R3,hfew,Nat.le_trans (ze1 (fun r=>by rw [List.length_map]; exact Nat.le_refl _) rows) hkeys⟩,zev (.of s3) (zev k02 WB),T2.same s3,fun D4 B4 k4 T4 h4=>?_⟩
  have e : (wy.map fun k=>((ownB (rows.map fun r=>r.map (· + ((u - 999) * mu))) k (key + ((u - 999) * mu)) : Nat) : Int)) = cntL rows wy fun x=>decide (x < key):=List.map_congr_left fun k hk=>by
   rw [zjQ (by rw [hlen]; exact WB.kn k hk)]
   rfl
  rw [e] at h4
  refine ⟨_,rfl,cntL rows wy fun x=>decide (x < key),cntL rows wy fun x=>decide (x < key),⟨_,_,rfl,SqL.of h4,zak.ints⟩,⟨_,_,rfl,SqL.of (k4.lst (s3 _ _ h12)),zak.ints⟩,_,rfl,?_⟩
  refine zj3 rfl ?_
  exact ⟨rfl,k02.trans (Kp0.trans (.of s3) k4),T4⟩
 clear s1 h1
 rintro σ' B1 ⟨rfl,k1,T1⟩
 have S1:=zbS k1 SB
 have hk : k < as.length:=by omega
 have hm : m < as.length:=by omega
 have hxk : (as.map V.ref)[k]? = some (.ref as[k]):=by rw [List.getElem?_map,List.getElem?_eq_getElem hk]; rfl
 have hxm : (as.map V.ref)[m]? = some (.ref as[m]):=by rw [List.getElem?_map,List.getElem?_eq_getElem hm]; rfl
 obtain ⟨rk,hrk,fk⟩:=zbn SB.at_ (List.getElem?_eq_getElem hk)
 obtain ⟨rm,hrm,fm⟩:=zbn SB.at_ (List.getElem?_eq_getElem hm)
 refine ⟨_,rfl,_,rfl,_,rfl,st,t,rs,as.map V.ref,k,m,_,_,rfl,S1.st,S1.rs,hxk,hxm,by rw [List.length_map]; omega,fun st2 rs2 B2 s2 e1 e2=>?_⟩
 have em : ((as.map V.ref).set k (.ref as[m])).set m (.ref as[k]) = (zby as k m as[k] as[m]).map V.ref:=by
  unfold zby
  rw [List.map_set,List.map_set]
 rw [em] at e2
 have k2:=k1.trans (.of s2)
 have S2 : zaY B2 st2 ps (zby rows k m rk rm) t rs2 (zby as k m as[k] as[m]):=⟨e1,s2 _ _ S1.tr,e2,zgt (zgt (zhX k2 SB.at_) (k2.tup fm)) (k2.tup fk),by unfold zby; rw [List.length_set,List.length_set]; exact hlen,S1.T,zn7 S1.R hrk hrm,hfew,by rw [zkz hrk hrm]; exact hkeys⟩
 have T2:=T1.same s2
 have S12:=S1.same s2
 clear e1 e2 s2
 refine ⟨_,rfl,rs,_,rfl,.inr (SqT.of S12.rs),fun l hl=>?_⟩
 have g3:=zaj hl (.lst (as.map V.ref))
 have w3 : upd B2 l (.lst (as.map V.ref)) l = some (.lst (as.map V.ref)):=zac
 generalize upd B2 l (.lst (as.map V.ref)) = B3 at g3 w3 ⊢
 refine ⟨_,rfl,_,rfl,_,_,_,_,rfl,rfl,SqL.of w3,zaX hxm,_,rfl,_,rfl,_,_,_,_,rfl,rfl,SqL.of w3,zaX hxk,(by show 2≤sizeLine; decide),fun tp htp=>?_⟩
 refine ⟨tp,_,rfl,SqT.of zac,rfl,?_⟩
 have ix : ∀ {n j : Nat},j < n→ixN n (j : Int) = some j:=fun h=>by
  unfold ixN
  rw [if_pos (by omega),if_pos (by omega),Int.toNat_natCast]
 have htl : l≠tp:=zab w3 htp
 refine ⟨_,_,rfl,_,rfl,_,rfl,l,_,_,k,rfl,rfl,by rw [zag htl]; exact w3,ix (by rw [List.length_map]; exact hk),?_⟩
 refine ⟨_,_,rfl,_,rfl,_,rfl,l,_,_,m,rfl,rfl,zac,ix (by rw [List.length_set,List.length_map]; exact hm),rfl,?_⟩
 rw [em]
 have s24 : Same B2 (upd (upd (upd B3 tp (.tup [V.ref as[m],V.ref as[k]])) l (.lst ((as.map V.ref).set k (.ref as[m])))) l (.lst ((zby as k m as[k] as[m]).map V.ref))):=fun b o e=>by
  have n : b≠l:=zab e hl
  rw [zag n,zag n]
  exact zaj htp _ _ _ (g3 _ _ e)
 have w4 : (upd (upd (upd B3 tp (.tup [V.ref as[m],V.ref as[k]])) l (.lst ((as.map V.ref).set k (.ref as[m])))) l (.lst ((zby as k m as[k] as[m]).map V.ref))) l = some (.lst ((zby as k m as[k] as[m]).map V.ref)):=zac
 generalize (upd (upd (upd B3 tp (.tup [V.ref as[m],V.ref as[k]])) l (.lst ((as.map V.ref).set k (.ref as[m])))) l (.lst ((zby as k m as[k] as[m]).map V.ref))) = B4 at s24 w4 ⊢
 have S4:=S2.same s24
 have k4:=k2.trans (.of s24)
 have T4:=T2.same s24
 clear htl htp g3 w3 hl S12 T2 S2 k2 s24 S1 T1 k1
 have hlen4:=S4.len
 have hixL : ∀ k'∈wy,∃ b,B4 b = some (.tup ((zaJ (zby rows k m rk rm) k').map V.int))∧∀ (H2 : Hp) (Q2 : VK),Same B4 H2→Q2 (.ref b) H2→rIxL K (.ref l) (.int k') H2 Q2:=fun k' hk'=>by
  obtain ⟨b,hb1,hb2⟩:=S4.at_.get (k:=k') (by rw [hlen4]; exact WB.kn k' hk')
  exact ⟨b,hb2,fun H2 Q2 s2 h2=>⟨_,_,_,_,rfl,rfl,SqL.of (s2 _ _ w4),zf9 hb1,h2⟩⟩
 refine ⟨_,rfl,wa,rfl,⟨_,SqL.of (k4.lst WB.at_)⟩,fun D5 hD5=>?_⟩
 refine zgL (fun i j=>decide (i < j)) (zby rows k m rk rm) (zev k4 WB) hD5 rfl (fun _ _=>rfl) (fun k' hk'=>Nat.le_trans (zd4 (zkW (by rw [hlen4]; exact WB.kn k' hk'))) S4.keys) hixL fun B5 s5 h5=>?_
 refine ⟨fun σ' H'=>σ' = [some (.ref d),some (.ref st),some (.ref wa),some (.int key),some (.ref t),some (.ref rs),some (.int ((u - 999) * mu)),some (.int k),some (.int m),some (.ref D1),some (.ref st2),some (.ref l),some (.ref D5),none]∧Kp0 B H'∧TwoT m1 m2 H',?_,?_⟩
 ·have k05:=k4.trans (.of s5)
  refine ⟨_,rfl,_,rfl,_,rfl,st2,wa,ps,_,t,rs2,_,wy,key,rfl,S4.same s5,zev k05 WB,T4.same s5,fun D6 B6 k6 T6 h6=>?_⟩
  have k06:=k05.trans k6
  refine ⟨_,rfl,cntL (zby rows k m rk rm) wy fun x=>decide (x < key),cntL (zby rows k m rk rm) wy fun x=>decide (x < key),⟨_,_,rfl,SqL.of h6,zak.ints⟩,⟨_,_,rfl,SqL.of (k6.lst h5),zak.ints⟩,_,rfl,?_⟩
  refine zj3 rfl ?_
  have S6:=zbS k6 (S4.same s5)
  obtain ⟨a1,a2⟩:=zn8 (l:=as) (List.getElem?_eq_getElem hk) (List.getElem?_eq_getElem hm)
  refine ⟨_,rfl,_,rfl,_,rfl,st2,t,rs2,(zby as k m as[k] as[m]).map V.ref,k,m,_,_,rfl,S6.st,S6.rs,(by rw [List.getElem?_map,a1]; rfl),(by rw [List.getElem?_map,a2]; rfl),by rw [List.length_map]; unfold zby; rw [List.length_set,List.length_set]; omega,fun st7 rs7 B7 s7 e1 e2=>?_⟩
  have em2 : (((zby as k m as[k] as[m]).map V.ref).set k (.ref as[k])).set m (.ref as[m]) = as.map V.ref:=by
   have:=zkA (l:=as) (List.getElem?_eq_getElem hk) (List.getElem?_eq_getElem hm)
   conv=>rhs; rw [← this]
   conv=>rhs; unfold zby
   rw [List.map_set,List.map_set]
   rfl
  rw [em2] at e2
  have S7:=zbS (k06.trans (.of s7)) SB
  refine ⟨_,rfl,stV ps rows,stV ps rows,zfU e1 S7.tr e2 S7.at_,zfU S7.st S7.tr S7.rs S7.at_,_,rfl,?_⟩
  refine zj3 rfl ?_
  exact ⟨rfl,k06.trans (.of s7),T6.same s7⟩
 clear s5 h5 hixL w4 S4 k4 T4
 rintro σ' B5 ⟨rfl,k5,T5⟩
 refine ⟨_,rfl,wa,rfl,⟨_,SqL.of (k5.lst WB.at_)⟩,fun D6 hD6=>?_⟩
 refine zgL (fun i j=>decide (i > j)) rows (zev k5 WB) hD6 rfl (fun _ _=>rfl) hzr (hixT k5) fun B6 s6 h6=>?_
 refine ⟨fun σ' H'=>σ' = [some (.ref d),some (.ref st),some (.ref wa),some (.int key),some (.ref t),some (.ref rs),some (.int ((u - 999) * mu)),some (.int k),some (.int m),some (.ref D1),some (.ref st2),some (.ref l),some (.ref D5),some (.ref D6)]∧Kp0 B H'∧TwoT m1 m2 H',?_,?_⟩
 ·have k06:=k5.trans (.of s6)
  have S6:=zbS k06 SB
  refine ⟨_,rfl,st,t,rs,as,rows,rfl,S6.st,S6.rs,S6.at_,by omega,h900,fun st7 rs7 bs B7 s7 e1 e2 e3=>?_⟩
  refine ⟨_,rfl,_,rfl,_,_,rfl,rfl,st7,wa,ps,rows.map fun r=>r.reverse.map (- ·),t,rs7,bs,wy,0 - key,rfl,⟨e1,s7 _ _ S6.tr,e2,e3,by rw [List.length_map]; exact hlen,S6.T,zko S6.R,hfew,Nat.le_trans (ze1 (fun r=>by rw [List.length_map,List.length_reverse]; exact Nat.le_refl _) rows) hkeys⟩,zev (.of s7) (zev k06 WB),(T5.same s6).same s7,fun D8 B8 k8 T8 h8=>?_⟩
  have e : (wy.map fun k=>((ownB (rows.map fun r=>r.reverse.map (- ·)) k (0 - key) : Nat) : Int)) = cntL rows wy fun x=>decide (x > key):=List.map_congr_left fun k hk=>by
   rw [zjP (by rw [hlen]; exact WB.kn k hk)]
  rw [e] at h8
  refine ⟨_,rfl,cntL rows wy fun x=>decide (x > key),cntL rows wy fun x=>decide (x > key),⟨_,_,rfl,SqL.of h8,zak.ints⟩,⟨_,_,rfl,SqL.of (k8.lst (s7 _ _ h6)),zak.ints⟩,_,rfl,?_⟩
  refine zj3 rfl ?_
  have k08:=k06.trans (Kp0.trans (.of s7) k8)
  have S8:=zbS k08 SB
  refine ⟨_,rfl,st,t,rs,as,rows,rfl,S8.st,S8.rs,S8.at_,by omega,h900,fun st9 rs9 bs9 B9 s9 f1 f2 f3=>?_⟩
  refine ⟨st9,t,rs9,bs9,_,rfl,f1,f2,f3,by rw [List.length_map]; omega,fun r hr=>?_,fun st10 rs10 bs10 B10 s10 g1 g2 g3=>?_⟩
  ·obtain ⟨r,hr1,rfl⟩:=List.mem_map.mp hr
   rw [List.length_map,List.length_reverse]
   exact h900 r hr1
  rw [zhT] at g3
  have k010:=k08.trans (.of (s9.trans s10))
  have S10:=zbS k010 SB
  refine ⟨_,rfl,stV ps rows,stV ps rows,zfU g1 S10.tr g2 g3,zfU S10.st S10.tr S10.rs S10.at_,_,rfl,?_⟩
  refine zj3 rfl ?_
  exact ⟨rfl,k010,(T8.same s9).same s10⟩
 clear s6 h6
 rintro σ' B6 ⟨rfl,k6,T6⟩
 have S6:=zbS k6 SB
 obtain ⟨R6,hfit⟩:=zhc S6.R hFew hby
 refine ⟨_,rfl,_,rfl,st,t,rs,as,rows,((u - 999) * mu),rfl,S6.st,S6.rs,S6.at_,by omega,h900,hfit,fun st7 rs7 bs7 B7 s7 e1 e2 e3=>?_⟩
 refine ⟨_,rfl,_,_,rfl,rfl,st7,t,rs7,bs7,rows.map fun r=>r.map (· + ((u - 999) * mu)),0 - ((u - 999) * mu),rfl,e1,e2,e3,by rw [List.length_map]; omega,fun r hr=>?_,fun r hr x hx=>?_,fun st8 rs8 bs8 B8 s8 f1 f2 f3=>?_⟩
 ·obtain ⟨r,hr1,rfl⟩:=List.mem_map.mp hr
  rw [List.length_map]
  exact h900 r hr1
 ·obtain ⟨r,hr1,rfl⟩:=List.mem_map.mp hr
  obtain ⟨y,hy,rfl⟩:=List.mem_map.mp hx
  have:=hFew r hr1 y hy
  show zdp (y + ((u - 999) * mu) + (0 - ((u - 999) * mu)))
  unfold zdp
  split <;> omega
 rw [zhY] at f3
 have k8:=k6.trans (.of (s7.trans s8))
 have S8:=zbS k8 SB
 refine ⟨_,rfl,stV ps rows,stV ps rows,zfU f1 S8.tr f2 f3,zfU S8.st S8.tr S8.rs S8.at_,?_⟩
 rw [decide_eq_true rfl]
 exact fin _ k8 ((T6.same s7).same s8)
def zg1 (K : PySem.W.Frag) (m1 m2 : Addr) : Sp:=fun vs H Q _=>∃ (a : Addr) (ns : List Int),vs = [.ref a]∧SqL K H a (ns.map V.int)∧ns.length≤63∧m1≠m2∧H m1 = some (.tbl #[])∧H m2 = some (.tbl #[])∧∀ H',Q (.bl true) H'
theorem ok_law (T : Txt K mg) {m1 m2 : Addr} (D_law : DF K mg "law" zhW zhf) (F_l_begin : FC P w K mg base 1 "_law_begin" zcx (zkO K)) (F_l_stand : FC P w K mg base 6 "_law_stand" zct (zkF K)) (F_l_small : FC P w K mg base 1 "_law_small" zcu (zkG K)) (F_l_way : FC P w K mg base 3 "_law_way" zd8 (zny K)) (F_l_take : FC P w K mg base 2 "_law_take" za9 (zey K)) (F_l_moved_right : FC P w K mg base 11 "_law_moved_right" za2 (zkJ K m1 m2)) : FC P w K mg base 12 "law" zhf (zg1 K m1 m2):=by
 refine D_law.ok sc_law (fun vs H Q E h=>?_) (fun f cdv A outer s H vs Q E hr h=>?_)
 ·obtain ⟨a,ns,rfl,_⟩:=h
  rfl
 obtain ⟨a,ns,rfl,hS,_,hne,hm1,hm2,q⟩:=h
 have TT0 : TwoT m1 m2 H:=⟨⟨#[],hm1,trivial,.inl rfl⟩,⟨#[],hm2,trivial,.inl rfl⟩,hne⟩
 refine ⟨_,(zaf (zap (i:=1) sc_law.nd rfl (Or.inl rfl) (zas F_l_begin hr (zaa (pv 0) zad)))
   (zaf (zap (i:=2) sc_law.nd rfl (Or.inl rfl) (zas F_l_small hr (zaa (zas F_l_stand hr (zaa (pv 1) (zaa zae (zaa zae zad)))) zad)))
   (zaf (zbv PassesOwn.never rfl (zbK rfl T.m_range (zaa zae zad)) (zao (i:=3) sc_law.nd rfl (Or.inl rfl)) (zaf (zap (i:=4) sc_law.nd rfl (Or.inl rfl) (zas F_l_way hr (zaa (pv 1) (zaa (zaA zaM (pv 2) zae (fun _ _=>rfl)) zad))))
   (zaf (zap (i:=5) sc_law.nd rfl (Or.inl rfl) (zaq zbM (zas F_l_take hr (zaa (pv 1) (zaa zae zad))) zae))
   (zaf (zap (i:=6) sc_law.nd rfl (Or.inl rfl) (zaA zaM (zaA zaM (pv 2) zae (fun _ _=>rfl)) (zaA zaE (pv 4) (zfK zdD zae) (fun _ _=>rfl)) (fun _ _=>rfl)))
   (zbc (zcy (PW.pt (zhd (zav (zeA (Tup Int) (huD hr)) (pv 6) (zbL zad) (zaF _)) (zfh (zav zk6 (pv 3) zae (zaF _))))) (zah (zap (i:=5) sc_law.nd rfl (Or.inl rfl) (zaq zbM (zaq za6 (zaA zaM (pv 6) (zas F_l_take hr (zaa (pv 1) (zaa (zau zat rfl T.m_len boot_len (zaa (pv 6) zad)) zad))) (fun _ _=>rfl)) (pv 3)) zae))) za5)
   (zah (zcy (znH (zhe (zas F_l_moved_right hr (zaa (pv 1) (zaa (pv 2) (zaa (pv 4) (zaa (pv 5) zad))))))) (zah (zar zgr)) za5)))))))
   (zah (zar zgr))))),?_⟩
 refine ⟨_,rfl,a,ns,rfl,hS,fun d H1 _ g1 s1=>?_⟩
 refine ⟨_,rfl,d,a,7,5,rfl,by decide,by decide,by decide,by decide,s1,fun st0 ps rows0 t rs0 as0 H2 _ S0 k2 s2=>?_⟩
 refine ⟨st0,ps,rows0,t,rs0,as0,rfl,S0,fun st rs as H3 s3 S3=>?_⟩
 obtain ⟨_,hFew⟩:=ziU S0.R
 have TT2:=TT0.same g1
 have TT3 : TwoT m1 m2 H3:=TwoT.same ⟨TT2.t1.ext (s1.ext k2),TT2.t2.ext (s1.ext k2),hne⟩ s3
 have s3':=s2.same s3
 generalize rows0.map zbF = rows at S3 hFew
 clear S0 s2 k2 g1 s1 TT0 TT2 s3
 have ndT : ∀ {H' : Hp} {a' : Addr} {o : HO},LS K a d H'→H' a' = some o→(∀ kvs,o≠.dK kvs)→a'≠d:=fun {H' a' o} s e n z=>by
  obtain ⟨_,_,_,e2,_⟩:=s.ex
  rw [← z,e] at e2
  exact n _ (Option.some.inj e2)
 have stT : ∀ {HX HY : Hp},zaY HX st ps rows t rs as→(∀ b o,HX b = some (.tup o)→HY b = some (.tup o))→zaY HY st ps rows t rs as:=fun {HX HY} S e=>⟨e _ _ S.st,e _ _ S.tr,e _ _ S.rs,zaG (fun _ _ h=>e _ _ h) S.at_,S.len,S.T,S.R,S.few,S.keys⟩
 refine ⟨3,rfl,by decide,by decide,?_⟩
 refine zbO (n:=3) (fun i σ HA=>∃ x3 x4 x5 x6 : Option V,σ = [some (.ref a),some (.ref d),some (.ref st),x3,x4,x5,x6]∧(∀ b o,H3 b = some (.tup o)→HA b = some (.tup o))∧TwoT m1 m2 HA∧LS K a d HA) ?_ ?_ ?_
 ·exact ⟨_,_,_,_,rfl,fun _ _ e=>e,TT3,s3'⟩
 ·rintro i σ HA hi' ⟨x3,x4,x5,x6,rfl,tA,TA,sA⟩
  have SA:=stT S3 tA
  refine ⟨_,rfl,_,rfl,_,_,_,_,rfl,rfl,SqT.of SA.st,rfl,d,a,t,ps,rfl,SA.tr,SA.T,SA.few,sA,fun wa w HB hwa WB kB sB=>?_⟩
  have hwd : wa≠d:=fun z=>by
   obtain ⟨_,_,_,e,_⟩:=sA.ex
   rw [← z,hwa] at e
   cases e
  refine ⟨_,rfl,d,a,20,rfl,by decide,sB,fun u HC u0 u1 kC sC=>⟨_,_,rfl,rfl,?_⟩⟩
  have kAC:=kB.trans kC
  have tC : ∀ b o,HA b = some (.tup o)→HC b = some (.tup o):=fun b o e=>kAC _ _ (ndT sA e (fun _ z=>nomatch z)) e
  have SC:=stT SA tC
  have WC : zeu HC wa ps w:=⟨kC _ _ hwd WB.at_,WB.len,WB.ne,WB.ch,WB.kn⟩
  have TC : TwoT m1 m2 HC:=⟨TA.t1.ext (sA.ext kAC),TA.t2.ext (sA.ext kAC),hne⟩
  obtain ⟨us,c,ew⟩ : ∃ us c,w = us ++ [c]:=⟨w.dropLast,w.getLast WB.ne,(List.dropLast_concat_getLast WB.ne).symm⟩
  have hcn : c < ps.length + 1:=WB.kn c (by rw [ew]; simp)
  obtain ⟨b,hb1,hb2⟩:=SC.at_.get (k:=c) (by rw [SC.len]; exact hcn)
  have hlast : atI (w.map nV) (-1) = some (nV c):=by
   rw [ew]
   exact ziA
  have hfit : (zaJ rows c).length≤63:=Nat.le_trans (zd4 (zkW (by rw [SC.len]; exact hcn))) SC.keys
  generalize zaJ rows c = row at hb2 hfit
  refine ⟨_,rfl,_,_,_,_,rfl,rfl,SqT.of SC.st,rfl,_,rfl,_,rfl,_,_,_,_,rfl,rfl,SqL.of WC.at_,hlast,_,_,_,_,rfl,rfl,SqT.of SC.rs,zf9 hb1,?_⟩
  refine ⟨fun σ' H'=>∃ key : Int,σ' = [some (.ref a),some (.ref d),some (.ref st),some (.int (0 + (i : Int))),some (.ref wa),some (.int key),some (.ref b)]∧(∀ b o,HC b = some (.tup o)→H' b = some (.tup o))∧zeu H' wa ps w∧TwoT m1 m2 H'∧LS K a d H',?_,?_⟩
  ·refine ⟨_,rfl,(by show 0≤sizeLine; decide),fun e he=>?_⟩
   have se:=zaj he (.tup [])
   have h5b:=se _ _ hb2
   have sD:=sC.same se
   have h5e : upd HC e (.tup []) e = some (.tup []):=zac
   have T5:=TC.same se
   have W5 : zeu (upd HC e (.tup [])) wa ps w:=⟨se _ _ WC.at_,WC.len,WC.ne,WC.ch,WC.kn⟩
   generalize upd HC e (.tup []) = HD at se h5b sD h5e T5 W5 ⊢
   refine ⟨(⟨row⟩ : Tup Int),(⟨[]⟩ : Tup Int),⟨_,_,rfl,SqT.of h5b,zak.ints⟩,⟨_,_,rfl,SqT.of h5e,.nil⟩,_,rfl,?_⟩
   refine ite2 (fun c1=>?_) (fun c1=>?_)
   ·refine ⟨_,rfl,_,_,rfl,rfl,_,rfl,?_⟩
    refine ite2 (fun c2=>?_) (fun c2=>?_)
    ·have hpos : 0 < row.length:=by
      rcases row with _ | ⟨x,row⟩
      ·exact absurd c1 (by decide)
      ·exact Nat.succ_pos _
     refine ⟨_,rfl,_,rfl,_,rfl,_,_,rfl,.inr (SqT.of h5b),d,a,_,rfl,by rw [List.length_map]; omega,sD,fun v HE v0 v1 kE sE=>?_⟩
     rw [List.length_map] at v1
     obtain ⟨j,rfl⟩:=zfZ v0
     have hj : j < row.length:=by omega
     have tE : ∀ b o,HD b = some (.tup o)→HE b = some (.tup o):=fun b o e=>kE _ _ (ndT sD e (fun _ z=>nomatch z)) e
     refine ⟨_,_,_,_,rfl,rfl,SqT.of (tE _ _ h5b),zaX (v:=.int row[j]) (by rw [List.getElem?_map,List.getElem?_eq_getElem hj]; rfl),_,rfl,_,_,rfl,rfl,_,_,rfl,rfl,?_⟩
     exact ⟨_,rfl,fun b o e=>tE _ _ (se _ _ e),⟨kE _ _ hwd W5.at_,WC.len,WC.ne,WC.ch,WC.kn⟩,⟨T5.t1.ext (sD.ext kE),T5.t2.ext (sD.ext kE),hne⟩,sE⟩
    ·exact ⟨_,rfl,fun b o e=>se _ _ e,W5,T5,sD⟩
   ·refine iteF ?_
    exact ⟨_,rfl,fun b o e=>se _ _ e,W5,T5,sD⟩
  rintro σ' HE ⟨key,rfl,tE,WE,TE,sE⟩
  have SE:=stT SC tE
  refine ⟨_,rfl,_,rfl,_,rfl,_,rfl,d,a,st,wa,ps,rows,t,rs,as,w,key,rfl,sE,SE,hFew,WE,TE,fun HF kF TF sF=>⟨_,rfl,?_⟩⟩
  refine iteF ?_
  exact ⟨_,_,_,_,rfl,fun b o e=>kF _ _ (ndT sE (tE _ _ (tC _ _ (tA _ _ e))) (fun _ z=>nomatch z)) (fun _ z=>nomatch z) (tE _ _ (tC _ _ (tA _ _ e))),TF,sF⟩
 ·rintro σ HA ⟨x3,x4,x5,x6,rfl,_⟩
  exact q _
abbrev lawRoom : Nat:=12
theorem all_ok (T : Txt K mg) {mc25 mp25 mc45 mp45 : Addr} (hBM : BMAt mg base) (D_is_whole : DF K mg "is_whole" zdt zb1) (D_is_key : DF K mg "is_key" zeX zdc) (D_need_key : DF K mg "need_key" zds zb0) (D_code : DF K mg "code" ziV zfi) (D_how_many_below : DF K mg "how_many_below" zbj zaU) (D_joined_up : DF K mg "joined_up" zcL zbI) (D_lowest_unlike : DF K mg "lowest_unlike" zbp za1) (D_turned : DF K mg "turned" zeQ zc6) (D_labels : DF K mg "labels" zeT zc9) (D_neighbours : DF K mg "neighbours" zce zbd) (D_least_free : DF K mg "least_free" zcf zbt) (D_colours : DF K mg "colours" zd1 zcz) (D_marks : DF K mg "marks" zgf zd7) (D_handed : DF K mg "handed" zeY zdd) (D_children : DF K mg "children" zdu zbA) (D_beneath : DF K mg "beneath" zd3 zcB) (D_with_row : DF K mg "with_row" zdq zbY) (D_own_entries : DF K mg "own_entries" zbT zbg) (D_full_rows_beneath : DF K mg "full_rows_beneath" zaZ zaI) (D_full_rows : DF K mg "full_rows" zcM zbm) (D_owns_of : DF K mg "owns_of" zdW zcs) (D_starts_of : DF K mg "starts_of" zcJ zbG) (D_bridges_of : DF K mg "bridges_of" zci zbw) (D_bridges : DF K mg "bridges" zd2 zcA) (D_first_place : DFT K mg "first_place" zaN za4 mc25 mp25) (D_start_in : DF K mg "start_in" zdr zbZ) (D_next_place : DF K mg "next_place" zcd zbs) (D_search : DF K mg "search" zeR zc7) (D_exchanged : DF K mg "exchanged" zcN zbJ) (D_raised_row : DF K mg "raised_row" zcc zbr) (D_raised : DF K mg "raised" zeS zc8) (D_row_about : DF K mg "row_about" zcK zbH) (D_turned_about : DF K mg "turned_about" zbC za8) (D_l_begin : DF K mg "_law_begin" zd0 zcx) (D_l_mixed : DF K mg "_law_mixed" zdZ zcw) (D_l_take : DF K mg "_law_take" zeV za9) (D_l_key : DF K mg "_law_key" zgi zea) (D_l_tree : DF K mg "_law_tree" zeU zda) (D_l_row : DF K mg "_law_row" zgh zd9) (D_l_rows : DF K mg "_law_rows" zeW zdb) (D_l_children : DF K mg "_law_children" zch zbu) (D_l_way : DF K mg "_law_way" zgg zd8) (D_l_stand : DF K mg "_law_stand" zdX zct) (D_l_small : DF K mg "_law_small" zdY zcu) (D_l_owns : DFT K mg "_law_owns" zcg zcv mc45 mp45) (D_l_moved_right : DF K mg "_law_moved_right" zbq za2) (D_law : DF K mg "law" zhW zhf) : FC P w K mg base 12 "law" zhf (zg1 K mp25 mp45):=
 have m:=zmL (P:=P) (w:=w) (base:=base) T D_l_mixed
 have t:=zor T D_l_take m
 have c:=zox (P:=P) (w:=w) (base:=base) T D_code
 have nb:=zgw (P:=P) (w:=w) (base:=base) T D_neighbours
 have mk:=zmM T D_marks (zld T D_labels c (zk8 T D_turned (ok_low T D_lowest_unlike))) (zjT T D_colours nb (zgx T D_least_free)) nb
 have ch:=zh5 (P:=P) (w:=w) (base:=base) T D_children
 have fr:=ok_frb T D_full_rows_beneath (zjV T D_beneath) ch (zlf T D_handed mk) (ok_own T D_own_entries) (zle T D_joined_up)
 have fu:=zmR T D_full_rows fr
 have br:=zjU T D_bridges fu (zoy T D_bridges_of ch (zk9 T D_starts_of) (zos T D_owns_of))
 have ls:=zlc T D_l_stand (zmN T D_l_tree t) (zmO T D_l_rows t (zov T D_l_row t (ok_key T D_l_key t)))
 have se:=fun (b : Heap) (S : Sub K mg base b)=>zla (P:=P) (w:=w) (base:=b) (mp:=mp25) T D_search (zmS T D_first_place (hBM.lift S) (fun b' _=>ok_how (base:=b') T D_how_many_below)) (zmH T D_start_in) (zot T D_next_place)
 have ow:=zmP T D_l_owns hBM fu br se
 have rd:=zlb T D_raised (zhl T D_raised_row (zmJ T D_need_key (zmQ T D_is_key (zmG T D_is_whole))))
 have mv:=zmK T D_l_moved_right t ow rd (zow T D_exchanged (zoq T D_with_row)) (zjS T D_turned_about (zmU T D_row_about))
 ok_law T D_law (zmT T D_l_begin) ls (zmI T D_l_small) (zou T D_l_way t (zhm T D_l_children)) t mv
end
def rF (f : Addr) : Option (Option Value):=some (some (.ref f))
def oB (x : Str) (st : Stmt) (oc : Value) (od : Option Addr) (kV dc pm : Value) (an : Option Addr) (cd ct : Value) (sl : Array (Option Value)) : Option Obj:=some ⟨oc,od,.func (PySem.W.fnOf x x (zcT st) (zbP st) (zai st) .none kV dc pm an cd ct),sl⟩
theorem dM {K : PySem.W.Frag} {h : Heap} {mg : Str→Option Value} (X : K.In h) (G : h.Ns mainGlobals mg) {x : Str} {st : Stmt} {f : Addr} {oc : Value} {od : Option Addr} {kV dc pm : Value} {an : Option Addr} {cd ct : Value} {sl : Array (Option Value)} (ps : List Str) (a : PySem.W.nsIn K mainGlobals x = rF f) (l : K.lookup f = oB x st oc od kV dc pm an cd ct sl) (c : PySem.W.codeIn K cd x = true) (k : PySem.W.keepIn K (.ref f) = true)
  (hb : ∀ (kV doc pm : Value) (an : Option Addr) (cdv ct : Value) (us : List Value),us.length = ps.length→bindArgs (PySem.W.fnOf x x (zcT st) (zbP st) (zai st) .none kV doc pm an cdv ct) ⟨us,[]⟩ = pure (ps.zip us)) : DF K mg x st ps:=⟨_,_,zjr l c k,(zjr l c k).binds hb,PySem.W.mg_of X G a⟩
open PySem.W in
set_option autoImplicit true in
theorem all_mk {l : PySem.W.OpenLaw} {w : World} {K : PySem.W.Frag} {h : Heap} {mg : Str→Option Value} {fa mc25 mp25 mc45 mp45 : Addr} (X : K.In h) (G : h.Ns mainGlobals mg) (hfa : mg "law" = some (.ref fa))
   {t_KNOT_NUMBERS : Tok} {t_TURNS : Tok} {t_MOST_BEHIND_START : Tok}
  (a1 : nsIn K mainGlobals "is_whole" = rF f1) (l1 : K.lookup f1 = oB "is_whole" zdt oc1 od1 kV1 dc1 pm1 an1 cd1 ct1 sl1) (c1 : codeIn K cd1 "is_whole" = true) (k1 : keepIn K (.ref f1) = true)
  (a2 : nsIn K mainGlobals "is_key" = rF f2) (l2 : K.lookup f2 = oB "is_key" zeX oc2 od2 kV2 dc2 pm2 an2 cd2 ct2 sl2) (c2 : codeIn K cd2 "is_key" = true) (k2 : keepIn K (.ref f2) = true)
  (a3 : nsIn K mainGlobals "need_key" = rF f3) (l3 : K.lookup f3 = oB "need_key" zds oc3 od3 kV3 dc3 pm3 an3 cd3 ct3 sl3) (c3 : codeIn K cd3 "need_key" = true) (k3 : keepIn K (.ref f3) = true)
  (a4 : nsIn K mainGlobals "code" = rF f4) (l4 : K.lookup f4 = oB "code" ziV oc4 od4 kV4 dc4 pm4 an4 cd4 ct4 sl4) (c4 : codeIn K cd4 "code" = true) (k4 : keepIn K (.ref f4) = true)
  (a5 : nsIn K mainGlobals "how_many_below" = rF f5) (l5 : K.lookup f5 = oB "how_many_below" zbj oc5 od5 kV5 dc5 pm5 an5 cd5 ct5 sl5) (c5 : codeIn K cd5 "how_many_below" = true) (k5 : keepIn K (.ref f5) = true)
  (a6 : nsIn K mainGlobals "joined_up" = rF f6) (l6 : K.lookup f6 = oB "joined_up" zcL oc6 od6 kV6 dc6 pm6 an6 cd6 ct6 sl6) (c6 : codeIn K cd6 "joined_up" = true) (k6 : keepIn K (.ref f6) = true)
  (a7 : nsIn K mainGlobals "lowest_unlike" = rF f7) (l7 : K.lookup f7 = oB "lowest_unlike" zbp oc7 od7 kV7 dc7 pm7 an7 cd7 ct7 sl7) (c7 : codeIn K cd7 "lowest_unlike" = true) (k7 : keepIn K (.ref f7) = true)
  (a8 : nsIn K mainGlobals "turned" = rF f8) (l8 : K.lookup f8 = oB "turned" zeQ oc8 od8 kV8 dc8 pm8 an8 cd8 ct8 sl8) (c8 : codeIn K cd8 "turned" = true) (k8 : keepIn K (.ref f8) = true)
  (a9 : nsIn K mainGlobals "labels" = rF f9) (l9 : K.lookup f9 = oB "labels" zeT oc9 od9 kV9 dc9 pm9 an9 cd9 ct9 sl9) (c9 : codeIn K cd9 "labels" = true) (k9 : keepIn K (.ref f9) = true)
  (a10 : nsIn K mainGlobals "neighbours" = rF f10) (l10 : K.lookup f10 = oB "neighbours" zce oc10 od10 kV10 dc10 pm10 an10 cd10 ct10 sl10) (c10 : codeIn K cd10 "neighbours" = true) (k10 : keepIn K (.ref f10) = true)
  (a11 : nsIn K mainGlobals "least_free" = rF f11) (l11 : K.lookup f11 = oB "least_free" zcf oc11 od11 kV11 dc11 pm11 an11 cd11 ct11 sl11) (c11 : codeIn K cd11 "least_free" = true) (k11 : keepIn K (.ref f11) = true)
  (a12 : nsIn K mainGlobals "colours" = rF f12) (l12 : K.lookup f12 = oB "colours" zd1 oc12 od12 kV12 dc12 pm12 an12 cd12 ct12 sl12) (c12 : codeIn K cd12 "colours" = true) (k12 : keepIn K (.ref f12) = true)
  (a13 : nsIn K mainGlobals "marks" = rF f13) (l13 : K.lookup f13 = oB "marks" zgf oc13 od13 kV13 dc13 pm13 an13 cd13 ct13 sl13) (c13 : codeIn K cd13 "marks" = true) (k13 : keepIn K (.ref f13) = true)
  (a14 : nsIn K mainGlobals "handed" = rF f14) (l14 : K.lookup f14 = oB "handed" zeY oc14 od14 kV14 dc14 pm14 an14 cd14 ct14 sl14) (c14 : codeIn K cd14 "handed" = true) (k14 : keepIn K (.ref f14) = true)
  (a15 : nsIn K mainGlobals "children" = rF f15) (l15 : K.lookup f15 = oB "children" zdu oc15 od15 kV15 dc15 pm15 an15 cd15 ct15 sl15) (c15 : codeIn K cd15 "children" = true) (k15 : keepIn K (.ref f15) = true)
  (a16 : nsIn K mainGlobals "beneath" = rF f16) (l16 : K.lookup f16 = oB "beneath" zd3 oc16 od16 kV16 dc16 pm16 an16 cd16 ct16 sl16) (c16 : codeIn K cd16 "beneath" = true) (k16 : keepIn K (.ref f16) = true)
  (a17 : nsIn K mainGlobals "with_row" = rF f17) (l17 : K.lookup f17 = oB "with_row" zdq oc17 od17 kV17 dc17 pm17 an17 cd17 ct17 sl17) (c17 : codeIn K cd17 "with_row" = true) (k17 : keepIn K (.ref f17) = true)
  (a18 : nsIn K mainGlobals "own_entries" = rF f18) (l18 : K.lookup f18 = oB "own_entries" zbT oc18 od18 kV18 dc18 pm18 an18 cd18 ct18 sl18) (c18 : codeIn K cd18 "own_entries" = true) (k18 : keepIn K (.ref f18) = true)
  (a19 : nsIn K mainGlobals "full_rows_beneath" = rF f19) (l19 : K.lookup f19 = oB "full_rows_beneath" zaZ oc19 od19 kV19 dc19 pm19 an19 cd19 ct19 sl19) (c19 : codeIn K cd19 "full_rows_beneath" = true) (k19 : keepIn K (.ref f19) = true)
  (a20 : nsIn K mainGlobals "full_rows" = rF f20) (l20 : K.lookup f20 = oB "full_rows" zcM oc20 od20 kV20 dc20 pm20 an20 cd20 ct20 sl20) (c20 : codeIn K cd20 "full_rows" = true) (k20 : keepIn K (.ref f20) = true)
  (a21 : nsIn K mainGlobals "owns_of" = rF f21) (l21 : K.lookup f21 = oB "owns_of" zdW oc21 od21 kV21 dc21 pm21 an21 cd21 ct21 sl21) (c21 : codeIn K cd21 "owns_of" = true) (k21 : keepIn K (.ref f21) = true)
  (a22 : nsIn K mainGlobals "starts_of" = rF f22) (l22 : K.lookup f22 = oB "starts_of" zcJ oc22 od22 kV22 dc22 pm22 an22 cd22 ct22 sl22) (c22 : codeIn K cd22 "starts_of" = true) (k22 : keepIn K (.ref f22) = true)
  (a23 : nsIn K mainGlobals "bridges_of" = rF f23) (l23 : K.lookup f23 = oB "bridges_of" zci oc23 od23 kV23 dc23 pm23 an23 cd23 ct23 sl23) (c23 : codeIn K cd23 "bridges_of" = true) (k23 : keepIn K (.ref f23) = true)
  (a24 : nsIn K mainGlobals "bridges" = rF f24) (l24 : K.lookup f24 = oB "bridges" zd2 oc24 od24 kV24 dc24 pm24 an24 cd24 ct24 sl24) (c24 : codeIn K cd24 "bridges" = true) (k24 : keepIn K (.ref f24) = true)
  (a25 : nsIn K mainGlobals "first_place" = rF f25) (l25 : K.lookup f25 = oB "first_place" zaN oc25 od25 kV25 dc25 pm25 an25 cd25 ct25 sl25) (c25 : codeIn K cd25 "first_place" = true) (k25 : keepIn K (.ref f25) = true)
  (a26 : nsIn K mainGlobals "start_in" = rF f26) (l26 : K.lookup f26 = oB "start_in" zdr oc26 od26 kV26 dc26 pm26 an26 cd26 ct26 sl26) (c26 : codeIn K cd26 "start_in" = true) (k26 : keepIn K (.ref f26) = true)
  (a27 : nsIn K mainGlobals "next_place" = rF f27) (l27 : K.lookup f27 = oB "next_place" zcd oc27 od27 kV27 dc27 pm27 an27 cd27 ct27 sl27) (c27 : codeIn K cd27 "next_place" = true) (k27 : keepIn K (.ref f27) = true)
  (a28 : nsIn K mainGlobals "search" = rF f28) (l28 : K.lookup f28 = oB "search" zeR oc28 od28 kV28 dc28 pm28 an28 cd28 ct28 sl28) (c28 : codeIn K cd28 "search" = true) (k28 : keepIn K (.ref f28) = true)
  (a29 : nsIn K mainGlobals "exchanged" = rF f29) (l29 : K.lookup f29 = oB "exchanged" zcN oc29 od29 kV29 dc29 pm29 an29 cd29 ct29 sl29) (c29 : codeIn K cd29 "exchanged" = true) (k29 : keepIn K (.ref f29) = true)
  (a30 : nsIn K mainGlobals "raised_row" = rF f30) (l30 : K.lookup f30 = oB "raised_row" zcc oc30 od30 kV30 dc30 pm30 an30 cd30 ct30 sl30) (c30 : codeIn K cd30 "raised_row" = true) (k30 : keepIn K (.ref f30) = true)
  (a31 : nsIn K mainGlobals "raised" = rF f31) (l31 : K.lookup f31 = oB "raised" zeS oc31 od31 kV31 dc31 pm31 an31 cd31 ct31 sl31) (c31 : codeIn K cd31 "raised" = true) (k31 : keepIn K (.ref f31) = true)
  (a32 : nsIn K mainGlobals "row_about" = rF f32) (l32 : K.lookup f32 = oB "row_about" zcK oc32 od32 kV32 dc32 pm32 an32 cd32 ct32 sl32) (c32 : codeIn K cd32 "row_about" = true) (k32 : keepIn K (.ref f32) = true)
  (a33 : nsIn K mainGlobals "turned_about" = rF f33) (l33 : K.lookup f33 = oB "turned_about" zbC oc33 od33 kV33 dc33 pm33 an33 cd33 ct33 sl33) (c33 : codeIn K cd33 "turned_about" = true) (k33 : keepIn K (.ref f33) = true)
  (a34 : nsIn K mainGlobals "_law_begin" = rF f34) (l34 : K.lookup f34 = oB "_law_begin" zd0 oc34 od34 kV34 dc34 pm34 an34 cd34 ct34 sl34) (c34 : codeIn K cd34 "_law_begin" = true) (k34 : keepIn K (.ref f34) = true)
  (a35 : nsIn K mainGlobals "_law_mixed" = rF f35) (l35 : K.lookup f35 = oB "_law_mixed" zdZ oc35 od35 kV35 dc35 pm35 an35 cd35 ct35 sl35) (c35 : codeIn K cd35 "_law_mixed" = true) (k35 : keepIn K (.ref f35) = true)
  (a36 : nsIn K mainGlobals "_law_take" = rF f36) (l36 : K.lookup f36 = oB "_law_take" zeV oc36 od36 kV36 dc36 pm36 an36 cd36 ct36 sl36) (c36 : codeIn K cd36 "_law_take" = true) (k36 : keepIn K (.ref f36) = true)
  (a37 : nsIn K mainGlobals "_law_key" = rF f37) (l37 : K.lookup f37 = oB "_law_key" zgi oc37 od37 kV37 dc37 pm37 an37 cd37 ct37 sl37) (c37 : codeIn K cd37 "_law_key" = true) (k37 : keepIn K (.ref f37) = true)
  (a38 : nsIn K mainGlobals "_law_tree" = rF f38) (l38 : K.lookup f38 = oB "_law_tree" zeU oc38 od38 kV38 dc38 pm38 an38 cd38 ct38 sl38) (c38 : codeIn K cd38 "_law_tree" = true) (k38 : keepIn K (.ref f38) = true)
  (a39 : nsIn K mainGlobals "_law_row" = rF f39) (l39 : K.lookup f39 = oB "_law_row" zgh oc39 od39 kV39 dc39 pm39 an39 cd39 ct39 sl39) (c39 : codeIn K cd39 "_law_row" = true) (k39 : keepIn K (.ref f39) = true)
  (a40 : nsIn K mainGlobals "_law_rows" = rF f40) (l40 : K.lookup f40 = oB "_law_rows" zeW oc40 od40 kV40 dc40 pm40 an40 cd40 ct40 sl40) (c40 : codeIn K cd40 "_law_rows" = true) (k40 : keepIn K (.ref f40) = true)
  (a41 : nsIn K mainGlobals "_law_children" = rF f41) (l41 : K.lookup f41 = oB "_law_children" zch oc41 od41 kV41 dc41 pm41 an41 cd41 ct41 sl41) (c41 : codeIn K cd41 "_law_children" = true) (k41 : keepIn K (.ref f41) = true)
  (a42 : nsIn K mainGlobals "_law_way" = rF f42) (l42 : K.lookup f42 = oB "_law_way" zgg oc42 od42 kV42 dc42 pm42 an42 cd42 ct42 sl42) (c42 : codeIn K cd42 "_law_way" = true) (k42 : keepIn K (.ref f42) = true)
  (a43 : nsIn K mainGlobals "_law_stand" = rF f43) (l43 : K.lookup f43 = oB "_law_stand" zdX oc43 od43 kV43 dc43 pm43 an43 cd43 ct43 sl43) (c43 : codeIn K cd43 "_law_stand" = true) (k43 : keepIn K (.ref f43) = true)
  (a44 : nsIn K mainGlobals "_law_small" = rF f44) (l44 : K.lookup f44 = oB "_law_small" zdY oc44 od44 kV44 dc44 pm44 an44 cd44 ct44 sl44) (c44 : codeIn K cd44 "_law_small" = true) (k44 : keepIn K (.ref f44) = true)
  (a45 : nsIn K mainGlobals "_law_owns" = rF f45) (l45 : K.lookup f45 = oB "_law_owns" zcg oc45 od45 kV45 dc45 pm45 an45 cd45 ct45 sl45) (c45 : codeIn K cd45 "_law_owns" = true) (k45 : keepIn K (.ref f45) = true)
  (a46 : nsIn K mainGlobals "_law_moved_right" = rF f46) (l46 : K.lookup f46 = oB "_law_moved_right" zbq oc46 od46 kV46 dc46 pm46 an46 cd46 ct46 sl46) (c46 : codeIn K cd46 "_law_moved_right" = true) (k46 : keepIn K (.ref f46) = true)
  (a47 : nsIn K mainGlobals "law" = rF f47) (l47 : K.lookup f47 = oB "law" zhW oc47 od47 kV47 dc47 pm47 an47 cd47 ct47 sl47) (c47 : codeIn K cd47 "law" = true) (k47 : keepIn K (.ref f47) = true)
  (t25 : PySem.W.tabIn K "first_place" = some (mc25,mp25)) (h25 : PySem.W.codeHdIn K mc25 mp25 = true)
  (t45 : PySem.W.tabIn K "_law_owns" = some (mc45,mp45)) (h45 : PySem.W.codeHdIn K mc45 mp45 = true)
  (z_abs : nsIn K mainGlobals "abs" = some none)
  (z_bool : nsIn K mainGlobals "bool" = some none)
  (z_dict : nsIn K mainGlobals "dict" = some none)
  (z_enumerate : nsIn K mainGlobals "enumerate" = some none)
  (z_int : nsIn K mainGlobals "int" = some none)
  (z_isinstance : nsIn K mainGlobals "isinstance" = some none)
  (z_len : nsIn K mainGlobals "len" = some none)
  (z_list : nsIn K mainGlobals "list" = some none)
  (z_max : nsIn K mainGlobals "max" = some none)
  (z_min : nsIn K mainGlobals "min" = some none)
  (z_range : nsIn K mainGlobals "range" = some none)
  (z_reversed : nsIn K mainGlobals "reversed" = some none)
  (z_sorted : nsIn K mainGlobals "sorted" = some none)
  (z_tuple : nsIn K mainGlobals "tuple" = some none)
  (z_zip : nsIn K mainGlobals "zip" = some none)
  (y_KNOT_NUMBERS : nsIn K mainGlobals "KNOT_NUMBERS" = some (some (.int 64 t_KNOT_NUMBERS)))
  (y_TURNS : nsIn K mainGlobals "TURNS" = some (some (.int 5 t_TURNS)))
  (y_MOST_BEHIND_START : nsIn K mainGlobals "MOST_BEHIND_START" = some (some (.int 2 t_MOST_BEHIND_START))) :
  ∃ fd : FuncData,(∀ (s : Shared) (v : Value),BindsTo s fd ⟨[v],[]⟩ [("_law_script",v)])∧∀ base : Heap,K.In base→base.Ns mainGlobals mg→L2.BMAt mg base→FnOk l.prog w K mg base CX0 lawRoom fa fd ["_law_script"] (zg1 K mp25 mp45):=by
 have e:=hfa.symm.trans (PySem.W.mg_of X G a47)
 cases e
 have D_is_whole:=dM X G zb1 a1 l1 c1 k1 (fun _ _ _ _ _ _ u h=>match u,h with | [_],_=>rfl)
 have D_is_key:=dM X G zdc a2 l2 c2 k2 (fun _ _ _ _ _ _ u h=>match u,h with | [_],_=>rfl)
 have D_need_key:=dM X G zb0 a3 l3 c3 k3 (fun _ _ _ _ _ _ u h=>match u,h with | [_],_=>rfl)
 have D_code:=dM X G zfi a4 l4 c4 k4 (fun _ _ _ _ _ _ u h=>match u,h with | [_],_=>rfl)
 have D_how_many_below:=dM X G zaU a5 l5 c5 k5 (fun _ _ _ _ _ _ u h=>match u,h with | [_,_],_=>rfl)
 have D_joined_up:=dM X G zbI a6 l6 c6 k6 (fun _ _ _ _ _ _ u h=>match u,h with | [_],_=>rfl)
 have D_lowest_unlike:=dM X G za1 a7 l7 c7 k7 (fun _ _ _ _ _ _ u h=>match u,h with | [_,_],_=>rfl)
 have D_turned:=dM X G zc6 a8 l8 c8 k8 (fun _ _ _ _ _ _ u h=>match u,h with | [_],_=>rfl)
 have D_labels:=dM X G zc9 a9 l9 c9 k9 (fun _ _ _ _ _ _ u h=>match u,h with | [_],_=>rfl)
 have D_neighbours:=dM X G zbd a10 l10 c10 k10 (fun _ _ _ _ _ _ u h=>match u,h with | [_,_],_=>rfl)
 have D_least_free:=dM X G zbt a11 l11 c11 k11 (fun _ _ _ _ _ _ u h=>match u,h with | [_],_=>rfl)
 have D_colours:=dM X G zcz a12 l12 c12 k12 (fun _ _ _ _ _ _ u h=>match u,h with | [_],_=>rfl)
 have D_marks:=dM X G zd7 a13 l13 c13 k13 (fun _ _ _ _ _ _ u h=>match u,h with | [_],_=>rfl)
 have D_handed:=dM X G zdd a14 l14 c14 k14 (fun _ _ _ _ _ _ u h=>match u,h with | [_],_=>rfl)
 have D_children:=dM X G zbA a15 l15 c15 k15 (fun _ _ _ _ _ _ u h=>match u,h with | [_,_],_=>rfl)
 have D_beneath:=dM X G zcB a16 l16 c16 k16 (fun _ _ _ _ _ _ u h=>match u,h with | [_,_],_=>rfl)
 have D_with_row:=dM X G zbY a17 l17 c17 k17 (fun _ _ _ _ _ _ u h=>match u,h with | [_,_,_],_=>rfl)
 have D_own_entries:=dM X G zbg a18 l18 c18 k18 (fun _ _ _ _ _ _ u h=>match u,h with | [_,_],_=>rfl)
 have D_full_rows_beneath:=dM X G zaI a19 l19 c19 k19 (fun _ _ _ _ _ _ u h=>match u,h with | [_,_],_=>rfl)
 have D_full_rows:=dM X G zbm a20 l20 c20 k20 (fun _ _ _ _ _ _ u h=>match u,h with | [_],_=>rfl)
 have D_owns_of:=dM X G zcs a21 l21 c21 k21 (fun _ _ _ _ _ _ u h=>match u,h with | [_,_],_=>rfl)
 have D_starts_of:=dM X G zbG a22 l22 c22 k22 (fun _ _ _ _ _ _ u h=>match u,h with | [_,_],_=>rfl)
 have D_bridges_of:=dM X G zbw a23 l23 c23 k23 (fun _ _ _ _ _ _ u h=>match u,h with | [_,_],_=>rfl)
 have D_bridges:=dM X G zcA a24 l24 c24 k24 (fun _ _ _ _ _ _ u h=>match u,h with | [_],_=>rfl)
 have E_first_place:=L2.ziH a25 l25 t25
 have E2_first_place : cd25 = .ref mc25:=E_first_place
 subst E2_first_place
 have D_first_place : DFT K mg "first_place" zaN za4 mc25 mp25:=⟨⟨_,_,_,_,_,_,_,_,_,l25,c25,k25,PySem.W.mg_of X G a25,(zjr (st:=zaN) l25 c25 k25).binds (ps:=za4) (fun _ _ _ _ _ _ us hl=>match us,hl with | [_,_,_],_=>rfl)⟩,h25⟩
 have D_start_in:=dM X G zbZ a26 l26 c26 k26 (fun _ _ _ _ _ _ u h=>match u,h with | [_,_,_,_],_=>rfl)
 have D_next_place:=dM X G zbs a27 l27 c27 k27 (fun _ _ _ _ _ _ u h=>match u,h with | [_,_,_,_],_=>rfl)
 have D_search:=dM X G zc7 a28 l28 c28 k28 (fun _ _ _ _ _ _ u h=>match u,h with | [_,_,_],_=>rfl)
 have D_exchanged:=dM X G zbJ a29 l29 c29 k29 (fun _ _ _ _ _ _ u h=>match u,h with | [_,_,_],_=>rfl)
 have D_raised_row:=dM X G zbr a30 l30 c30 k30 (fun _ _ _ _ _ _ u h=>match u,h with | [_,_],_=>rfl)
 have D_raised:=dM X G zc8 a31 l31 c31 k31 (fun _ _ _ _ _ _ u h=>match u,h with | [_,_],_=>rfl)
 have D_row_about:=dM X G zbH a32 l32 c32 k32 (fun _ _ _ _ _ _ u h=>match u,h with | [_],_=>rfl)
 have D_turned_about:=dM X G za8 a33 l33 c33 k33 (fun _ _ _ _ _ _ u h=>match u,h with | [_],_=>rfl)
 have D_l_begin:=dM X G zcx a34 l34 c34 k34 (fun _ _ _ _ _ _ u h=>match u,h with | [_],_=>rfl)
 have D_l_mixed:=dM X G zcw a35 l35 c35 k35 (fun _ _ _ _ _ _ u h=>match u,h with | [_,_],_=>rfl)
 have D_l_take:=dM X G za9 a36 l36 c36 k36 (fun _ _ _ _ _ _ u h=>match u,h with | [_,_],_=>rfl)
 have D_l_key:=dM X G zea a37 l37 c37 k37 (fun _ _ _ _ _ _ u h=>match u,h with | [_],_=>rfl)
 have D_l_tree:=dM X G zda a38 l38 c38 k38 (fun _ _ _ _ _ _ u h=>match u,h with | [_,_],_=>rfl)
 have D_l_row:=dM X G zd9 a39 l39 c39 k39 (fun _ _ _ _ _ _ u h=>match u,h with | [_,_],_=>rfl)
 have D_l_rows:=dM X G zdb a40 l40 c40 k40 (fun _ _ _ _ _ _ u h=>match u,h with | [_,_,_],_=>rfl)
 have D_l_children:=dM X G zbu a41 l41 c41 k41 (fun _ _ _ _ _ _ u h=>match u,h with | [_,_],_=>rfl)
 have D_l_way:=dM X G zd8 a42 l42 c42 k42 (fun _ _ _ _ _ _ u h=>match u,h with | [_,_],_=>rfl)
 have D_l_stand:=dM X G zct a43 l43 c43 k43 (fun _ _ _ _ _ _ u h=>match u,h with | [_,_,_],_=>rfl)
 have D_l_small:=dM X G zcu a44 l44 c44 k44 (fun _ _ _ _ _ _ u h=>match u,h with | [_],_=>rfl)
 have E_l_owns:=L2.ziH a45 l45 t45
 have E2_l_owns : cd45 = .ref mc45:=E_l_owns
 subst E2_l_owns
 have D_l_owns : DFT K mg "_law_owns" zcg zcv mc45 mp45:=⟨⟨_,_,_,_,_,_,_,_,_,l45,c45,k45,PySem.W.mg_of X G a45,(zjr (st:=zcg) l45 c45 k45).binds (ps:=zcv) (fun _ _ _ _ _ _ us hl=>match us,hl with | [_,_,_],_=>rfl)⟩,h45⟩
 have D_l_moved_right:=dM X G za2 a46 l46 c46 k46 (fun _ _ _ _ _ _ u h=>match u,h with | [_,_,_,_],_=>rfl)
 have D_law:=dM X G zhf a47 l47 c47 k47 (fun _ _ _ _ _ _ u h=>match u,h with | [_],_=>rfl)
 have T : Txt K mg:=⟨PySem.W.mg_none_of X G z_abs,PySem.W.mg_none_of X G z_bool,PySem.W.mg_none_of X G z_dict,PySem.W.mg_none_of X G z_enumerate,PySem.W.mg_none_of X G z_int,PySem.W.mg_none_of X G z_isinstance,PySem.W.mg_none_of X G z_len,PySem.W.mg_none_of X G z_list,PySem.W.mg_none_of X G z_max,PySem.W.mg_none_of X G z_min,PySem.W.mg_none_of X G z_range,PySem.W.mg_none_of X G z_reversed,PySem.W.mg_none_of X G z_sorted,PySem.W.mg_none_of X G z_tuple,PySem.W.mg_none_of X G z_zip,⟨_,PySem.W.mg_of X G y_KNOT_NUMBERS⟩,⟨_,PySem.W.mg_of X G y_TURNS⟩,⟨_,PySem.W.mg_of X G y_MOST_BEHIND_START⟩⟩
 refine ⟨PySem.W.fnOf "law" "law" (zcT zhW) (zbP zhW) (zai zhW) .none kV47 dc47 pm47 an47 cd47 ct47,fun s v=>.of_eq rfl,fun base _ _ hBM=>?_⟩
 exact (all_ok (P:=l.prog) (w:=w) (base:=base) T hBM D_is_whole D_is_key D_need_key D_code D_how_many_below D_joined_up D_lowest_unlike D_turned D_labels D_neighbours D_least_free D_colours D_marks D_handed D_children D_beneath D_with_row D_own_entries D_full_rows_beneath D_full_rows D_owns_of D_starts_of D_bridges_of D_bridges D_first_place D_start_in D_next_place D_search D_exchanged D_raised_row D_raised D_row_about D_turned_about D_l_begin D_l_mixed D_l_take D_l_key D_l_tree D_l_row D_l_rows D_l_children D_l_way D_l_stand D_l_small D_l_owns D_l_moved_right D_law).at (PySem.W.mg_of X G a47) l47
theorem walk {l : PySem.W.OpenLaw} {q : Program} {loose : List Str} {XP : (Str→Option Value)→Heap→Prop} {YP : World→Heap→Prop} {d : DefRec} {K : Params→PySem.W.Frag} {mc25 mp25 mc45 mp45 : Addr} (hn : l.most = some 63) (hdf : d.params.defaults = [])
  (hY : ∀ (w : World) (h : Heap),YP w h→(K w.params).In h) (hYT25 : ∀ (w : World) (h : Heap),YP w h→h.get? mp25 = some (PySem.W.tabObj #[])) (hC25 : ∀ (w : World),PySem.W.codeHdIn (K w.params) mc25 mp25 = true) (hD25 : ∀ (w : World),(K w.params).lookup mp25 = none) (hYT45 : ∀ (w : World) (h : Heap),YP w h→h.get? mp45 = some (PySem.W.tabObj #[])) (hC45 : ∀ (w : World),PySem.W.codeHdIn (K w.params) mc45 mp45 = true) (hD45 : ∀ (w : World),(K w.params).lookup mp45 = none) (hNE : mp25≠mp45)
  (F : ∀ (w : World) (mg : Str→Option Value) (fa : Addr) (h : Heap),(K w.params).In h→h.Ns mainGlobals mg→mg d.name = some (.ref fa)→
   ∃ fd : FuncData,(∀ (s : Shared) (u : Value),BindsTo s fd ⟨[u],[]⟩ [("_law_script",u)])∧∀ base : Heap,(K w.params).In base→base.Ns mainGlobals mg→L2.BMAt mg base→FnOk l.prog w (K w.params) mg base CX0 lawRoom fa fd ["_law_script"] (zg1 (K w.params) mp25 mp45)) :
  PySem.W.WalkO q loose XP YP l.row.toRowW d [] (fun f vs=>PySem.call f vs):=
 L2.zmn (n:=63) (k:=lawRoom) (x := "_law_script") (tabs:=[(mc25,mp25),(mc45,mp45)]) (sp:=fun w=>zg1 (K w.params) mp25 mp45) hn (by decide) hdf ⟨rfl,by decide,by decide,rfl⟩ hY (fun w h Y q hq=>(List.mem_cons.mp hq).elim (fun z=>z ▸ hYT25 w h Y) (fun hq=>(List.mem_cons.mp hq).elim (fun z=>z ▸ hYT45 w h Y) (fun hq=>absurd hq List.not_mem_nil))) (fun w q hq=>(List.mem_cons.mp hq).elim (fun z=>z ▸ ⟨hC25 w,hD25 w⟩) (fun hq=>(List.mem_cons.mp hq).elim (fun z=>z ▸ ⟨hC45 w,hD45 w⟩) (fun hq=>absurd hq List.not_mem_nil))) F (fun _ _ a ns hl hT hS=>⟨a,ns,rfl,hS,hl,hNE,hT _ List.mem_cons_self,hT _ (List.mem_cons_of_mem _ List.mem_cons_self),fun _=>rfl⟩)
end My
open PySem PySem.W PyProof.Rows
def PySem.W.Fast.tw13288926874931434227 : Nat := 0
def PySem.W.Fast.tw102097841060010765 : Nat := 0
def PySem.W.Fast.tw13542176757202103240 : Nat := 0
def PySem.W.Fast.tw268964028302206041 : Nat := 0
def PySem.W.Fast.tw18065607836210271473 : Nat := 0
def PySem.W.Fast.tw10240961837110444408 : Nat := 0
def PySem.W.Fast.tw11301746815960658110 : Nat := 0
def PySem.W.Fast.tw11280650615324123683 : Nat := 0
def PySem.W.Fast.tw3724639772506084686 : Nat := 0
def PySem.W.Fast.tw17419126722772038699 : Nat := 0
def PySem.W.Fast.tw10043626382220220091 : Nat := 0
def PySem.W.Fast.tw8856537953952187142 : Nat := 0
set_option maxRecDepth 100000 in
set_option maxHeartbeats 0 in
theorem PySem.Challenge.cw_bridgefind_k75_whole_searches_carried_al_holds : PySem.Challenge.rw_bridgefind_k75_whole_searches_carried_al.Holds := by
 w_on; o_law; k_head; (case hw=>w_witness2)
 k_fill
 refine My.walk (l:=PySem.Challenge.rw_bridgefind_k75_whole_searches_carried_al) (mc25:=195) (mp25:=191) (mc45:=321) (mp45:=319) rfl rfl (fun w h Y=>PySem.W.km_in_of Y) (fun w h Y=>PySem.W.km_tabs_of Y 191 (by decide)) (fun w=>by kernel_rfl) (fun w=>by kernel_rfl) (fun w h Y=>PySem.W.km_tabs_of Y 319 (by decide)) (fun w=>by kernel_rfl) (fun w=>by kernel_rfl) (by decide) ?F
 case F=>
  intro w mg fa h KX G hmg
  refine' My.all_mk (mc25:=195) (mp25:=191) (mc45:=321) (mp45:=319) KX G hmg ?_ ?_ ?_ ?_ ?_ ?_ ?_ ?_ ?_ ?_ ?_ ?_ ?_ ?_ ?_ ?_ ?_ ?_ ?_ ?_ ?_ ?_ ?_ ?_ ?_ ?_ ?_ ?_ ?_ ?_ ?_ ?_ ?_ ?_ ?_ ?_ ?_ ?_ ?_ ?_ ?_ ?_ ?_ ?_ ?_ ?_ ?_ ?_ ?_ ?_ ?_ ?_ ?_ ?_ ?_ ?_ ?_ ?_ ?_ ?_ ?_ ?_ ?_ ?_ ?_ ?_ ?_ ?_ ?_ ?_ ?_ ?_ ?_ ?_ ?_ ?_ ?_ ?_ ?_ ?_ ?_ ?_ ?_ ?_ ?_ ?_ ?_ ?_ ?_ ?_ ?_ ?_ ?_ ?_ ?_ ?_ ?_ ?_ ?_ ?_ ?_ ?_ ?_ ?_ ?_ ?_ ?_ ?_ ?_ ?_ ?_ ?_ ?_ ?_ ?_ ?_ ?_ ?_ ?_ ?_ ?_ ?_ ?_ ?_ ?_ ?_ ?_ ?_ ?_ ?_ ?_ ?_ ?_ ?_ ?_ ?_ ?_ ?_ ?_ ?_ ?_ ?_ ?_ ?_ ?_ ?_ ?_ ?_ ?_ ?_ ?_ ?_ ?_ ?_ ?_ ?_ ?_ ?_ ?_ ?_ ?_ ?_ ?_ ?_ ?_ ?_ ?_ ?_ ?_ ?_ ?_ ?_ ?_ ?_ ?_ ?_ ?_ ?_ ?_ ?_ ?_ ?_ ?_ ?_ ?_ ?_ ?_ ?_ ?_ ?_ ?_ ?_ ?_ ?_ ?_ ?_ ?_ ?_ ?_ ?_ ?_ ?_ ?_ ?_ ?_ ?_ ?_ ?_ ?_ ?_
  any_goals k_is
  all_goals kernel_rfl

