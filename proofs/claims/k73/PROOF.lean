import PyProof.Rows.All
import Wide.All
import OpenK.AllK
import Wide.FinOn
import PyProof.EqAt
import PyProof.EqKinds
import PyProof.TupleCall
import PyProof.NeKinds
import Lean
import KE.KDictSum
import PySem.Challenge.RW_bridgefind_k73_whole_one_search_down_all
set_option Elab.async false
set_option linter.all false
set_option maxRecDepth 100000
local macro_rules | `(tactic| omega)=>`(tactic| lia)
namespace L2
open PySem PySem.Spec PyProof.Rows
abbrev Key:=Sum Int Str
def zh7 : Key→Value→Bool
  | .inl k,v=>Value.isInt k v
  | .inr x,v=>Value.isStrOf x v
def keyH (w : World) : Key→Int
  | .inl k=>hashInt k
  | .inr x=>hashStr w x
theorem zaX : ∀ {k : Key} {v : Value},zh7 k v = true→(∃ i t,k = Sum.inl i∧v = Value.int i t)∨(∃ x t,k = Sum.inr x∧v = Value.str x t)
  | .inl i,v,h=>by
    obtain ⟨t,e⟩:=Value.isInt_shape (k:=i) (v:=v) h
    exact .inl ⟨i,t,rfl,e⟩
  | .inr x,v,h=>by
    obtain ⟨t,e⟩:=Value.isStrOf_shape (x:=x) (v:=v) h
    exact .inr ⟨x,t,rfl,e⟩
theorem zlm (i : Int) (t : Tok) : zh7 (.inl i) (.int i t) = true:=by simp [zh7,Value.isInt]
theorem zll (x : Str) (t : Tok) : zh7 (.inr x) (.str x t) = true:=by simp [zh7,Value.isStrOf]
theorem key_ll (a b : Int) : decide ((Sum.inl a : Key) = Sum.inl b) = (a == b):=by
  by_cases e : a = b
  · subst e; simp
  · have h : ¬ (Sum.inl a : Key) = Sum.inl b:=fun q=>e (Sum.inl.inj q)
    rw [decide_eq_false h]
    exact (beq_eq_false_iff_ne.mpr e).symm
theorem key_rr (a b : Str) : decide ((Sum.inr a : Key) = Sum.inr b) = decide (a = b):=by
  by_cases e : a = b
  · subst e; simp
  · have h : ¬ (Sum.inr a : Key) = Sum.inr b:=fun q=>e (Sum.inr.inj q)
    rw [decide_eq_false h,decide_eq_false e]
theorem key_lr (a : Int) (b : Str) : decide ((Sum.inl a : Key) = Sum.inr b) = false:=decide_eq_false (fun q=>nomatch q)
theorem key_rl (a : Str) (b : Int) : decide ((Sum.inr a : Key) = Sum.inl b) = false:=decide_eq_false (fun q=>nomatch q)
def zaD (prog : Program) (w : World) : PySem.KeyKind prog w Key where
  is:=zh7
  hash:=keyH w
  inj:=fun v a b ha hb=>by
    rcases zaX ha with ⟨i,t,rfl,rfl⟩ | ⟨x,t,rfl,rfl⟩
    · rcases zaX hb with ⟨j,u,rfl,e⟩ | ⟨y,u,rfl,e⟩
      · injection e with e1 _; rw [e1]
      · exact nomatch e
    · rcases zaX hb with ⟨j,u,rfl,e⟩ | ⟨y,u,rfl,e⟩
      · exact nomatch e
      · injection e with e1 _; rw [e1]
  byValue:=fun k v h=>by
    rcases zaX h with ⟨i,t,rfl,rfl⟩ | ⟨x,t,rfl,rfl⟩ <;> rfl
  pyHash:=fun hv h=>by
    rcases zaX hv with ⟨i,t,rfl,rfl⟩ | ⟨x,t,rfl,rfl⟩
    · exact wpAny_pyHash_int h
    · exact wpAny_pyHash_str h
  eqBool:=fun hu hv h=>by
    rcases zaX hu with ⟨i,t,rfl,rfl⟩ | ⟨x,t,rfl,rfl⟩
    · rcases zaX hv with ⟨j,u,rfl,rfl⟩ | ⟨y,u,rfl,rfl⟩
      · rw [key_ll] at h; exact wpAny_eqBool_int h
      · rw [key_lr] at h; exact SeqAt.EqAt.int_str i t y u _ _ _ _ h
    · rcases zaX hv with ⟨j,u,rfl,rfl⟩ | ⟨y,u,rfl,rfl⟩
      · rw [key_rl] at h; exact SeqAt.EqAt.str_int x t j u _ _ _ _ h
      · rw [key_rr] at h; exact wpAny_eqBool_str h
  «strs»:=fun k x t v h=>by
    rcases zaX h with ⟨i,u,rfl,e⟩ | ⟨y,u,rfl,e⟩
    · exact nomatch e
    · injection e with e1 _
      subst e1
      cases v <;> rfl
theorem zjH (prog : Program) (w : World) (k : Key) (v : Value) : (zaD prog w).is k v = zh7 k v:=rfl
theorem zh0 (prog : Program) (w : World) (i : Int) (t : Tok) : (zaD prog w).is (.inl i) (.int i t) = true:=zlm i t
theorem zhZ (prog : Program) (w : World) (x : Str) (t : Tok) : (zaD prog w).is (.inr x) (.str x t) = true:=zll x t
end L2
namespace L2
open PySem PySem.Spec PyProof.Rows
inductive V where
  | non | bl (b : Bool) | int (i : Int) | str (x : Str) | byt (b : Array UInt8) | flt (b : UInt64) | ref (a : Addr) | ty (n : String)
  deriving DecidableEq
def RelV : V→Value→Prop
  | .non,u=>u = Value.none
  | .bl b,u=>u = Value.bool b
  | .int i,u=>∃ t,u = Value.int i t
  | .str x,u=>∃ t,u = Value.str x t
  | .byt b,u=>∃ t,u = Value.bytes b t
  | .flt b,u=>∃ t,u = Value.float b t
  | .ref a,u=>u = Value.ref a
  | .ty n,u=>u = Value.type n
abbrev Vals : List V→List Value→Prop:=Paired RelV
theorem Vals.length {xs : List V} {us : List Value} (r : Vals xs us) : xs.length = us.length:=Paired.length r
theorem Vals.get : ∀ {xs : List V} {us : List Value} {i : Nat} {x : V},Vals xs us→xs[i]? = some x→∃ u,us[i]? = some u∧RelV x u
  | _,_,_,_,.nil,e=>by simp at e
  | _,_,0,_,.cons r _,e=>by simp at e; subst e; exact ⟨_,rfl,r⟩
  | _,_,i + 1,x,.cons _ t,e=>by
    obtain ⟨u,h1,h2⟩:=Vals.get (i:=i) (x:=x) t (by simpa using e)
    exact ⟨u,by simpa using h1,h2⟩
theorem Vals.set {x : V} {u : Value} (r : RelV x u) : ∀ {xs : List V} {us : List Value} (i : Nat),Vals xs us→Vals (xs.set i x) (us.set i u)
  | _,_,_,.nil=>.nil
  | _,_,0,.cons _ t=>.cons r t
  | _,_,i + 1,.cons q t=>.cons q (Vals.set r i t)
theorem Vals.append : ∀ {xs ys : List V} {us ws : List Value},Vals xs us→Vals ys ws→Vals (xs ++ ys) (us ++ ws)
  | _,_,_,_,.nil,s=>s
  | _,_,_,_,.cons r t,s=>.cons r (Vals.append t s)
theorem Vals.take : ∀ {xs : List V} {us : List Value} (n : Nat),Vals xs us→Vals (xs.take n) (us.take n)
  | _,_,0,_=>.nil
  | _,_,_ + 1,.nil=>.nil
  | _,_,n + 1,.cons r t=>.cons r (Vals.take n t)
theorem Vals.drop : ∀ {xs : List V} {us : List Value} (n : Nat),Vals xs us→Vals (xs.drop n) (us.drop n)
  | _,_,0,r=>r
  | _,_,_ + 1,.nil=>.nil
  | _,_,n + 1,.cons _ t=>Vals.drop n t
def RelO : Option V→Option Value→Prop
  | some v,some u=>RelV v u
  | none,none=>True
  | _,_=>False
def KV {κ : Type} : List (κ×V)→List (κ×Value)→Prop:=Paired fun (p : κ×V) (q : κ×Value)=>p.1 = q.1∧RelV p.2 q.2
def kV : Key→V
  | .inl i=>.int i
  | .inr x=>.str x
inductive HO where
  | lst (xs : List V)
  | tup (xs : List V)
  | dK (kvs : List (Key×V)) | dT (kvs : List (List Key×V))
  | set (S : Int→Bool) (n : Nat)
  | ins (C dx : Addr) (fs : List (Str×V))
  | own (x : Addr)
  | xd (fs : List (Str×V))
  | met (f x : Addr)
  | rng (lo hi : Int)
  | frz (o : Obj) (u : HO)
  | tbl (ps : Array Value)
  | ext (φ : Heap→Prop)
abbrev Hp:=Addr→Option HO
def upd (H : Hp) (a : Addr) (o : HO) : Hp:=fun b=>if b = a then some o else H b
theorem zac {H : Hp} {a : Addr} {o : HO} : upd H a o a = some o:=by unfold upd; rw [if_pos rfl]
theorem zag {H : Hp} {a b : Addr} {o : HO} (h : b≠a) : upd H a o b = H b:=by unfold upd; rw [if_neg h]
theorem znI {H : Hp} {a : Addr} {o u : HO} : upd (upd H a o) a u = upd H a u:=by
  funext b; unfold upd; split <;> rfl
theorem ne_of {H : Hp} {a b : Addr} {o u : HO} (h : H a = some o) (h' : H b = some u) (d : o≠u) : a≠b:=by
  intro e; subst e; rw [h] at h'; exact d (Option.some.inj h')
theorem zab {H : Hp} {a b : Addr} {o : HO} (h : H a = some o) (h' : H b = none) : a≠b:=by
  intro e; subst e; rw [h] at h'; cases h'
section
variable (P : Program) (w : World)
def zbv (H : Hp) (h : Heap) (a : Addr) : HO→Prop
  | .lst xs=>xs.length≤sizeLine∧∃ (its : List Value) (n : Nat),Vals xs its∧h.get? a = some { cls:=.type "list",data:=.seq its.toArray n }
  | .tup xs=>xs.length≤sizeLine∧∃ its : List Value,Vals xs its∧IsTup h a its.toArray
  | .dK kvs=>kvs.length≤sizeLine∧(a == sysModules) = false∧∃ vs,KV kvs vs∧h.DictOf (zaD P w) a vs
  | .dT kvs=>kvs.length≤sizeLine∧(a == sysModules) = false∧∃ xs : List (List Key×Addr×Value),
      Paired (fun (p : List Key×V) (q : List Key×Addr×Value)=>p.1 = q.1∧H q.2.1 = some (.tup (p.1.map kV))∧RelV p.2 q.2.2) kvs xs∧
      ∃ o es ep,h.get? a = some o∧o.ExactDict∧o.data = .dict es ep∧es.toList = xs.map (entryOfKey (tupleKind (zaD P w)))∧(xs.map (·.1)).Nodup
  | .set S n=>h.SetOf (intKind P w) a S n
  | .ins C dx fs=>H dx = some (.own a)∧fs.length≤1000∧dx≠a∧h.get? a = some (PySem.W.instObj C dx)∧
      ∃ mA,h.Ns1 dx mA∧(∀ f,RelO (fs.lookup f) (mA f))∧PySem.Within mA (fs.map (·.1))
  | .own _=>∃ o,h.get? a = some o
  | .xd fs=>∃ mA,h.Ns1 a mA∧∀ f,RelO (fs.lookup f) (mA f)
  | .rng lo hi=>∃ t u v,h.get? a = some { cls:=.type "range",data:=.fields #[.int lo t,.int hi u,.int 1 v] }
  | .frz o u=>h.get? a = some o∧zbv H h a u
  | .tbl ps=>h.get? a = some { cls:=.none,data:=.fields ps }
  | .met f x=>h.get? a = some (PySem.W.methodObj (.ref f) (.ref x))
  | .ext φ=>φ h∧(∃ o,h.get? a = some o)∧∀ h1 h2 : Heap,φ h1→(∀ o,h1.get? a = some o→h2.get? a = some o)→φ h2
def HOk (H : Hp) (h : Heap) : Prop:=∀ a o,H a = some o→zbv P w H h a o
end
section
variable {P : Program} {w : World} {H H' : Hp} {h h' : Heap} {a : Addr} {o : HO}
theorem zbv.lt (x : zbv P w H h a o) : a < h.objs.size:=by
  cases o with
  | lst xs=>obtain ⟨_,_,_,_,e⟩:=x; exact Heap.lt_size e
  | tup xs=>obtain ⟨_,_,_,p⟩:=x; exact p.lt
  | dK kvs=>obtain ⟨_,_,_,_,o,_,_,e,_⟩:=x; exact Heap.lt_size e
  | dT kvs=>obtain ⟨_,_,_,_,o,_,_,e,_⟩:=x; exact Heap.lt_size e
  | set S n=>obtain ⟨o,_,_,_,e,_⟩:=x; exact Heap.lt_size e
  | ins C dx fs=>obtain ⟨_,_,_,e,_⟩:=x; exact Heap.lt_size e
  | own y=>obtain ⟨_,e⟩:=x; exact Heap.lt_size e
  | xd fs=>obtain ⟨_,⟨_,_,_,e,_⟩,_⟩:=x; exact Heap.lt_size e
  | rng lo hi=>obtain ⟨_,_,_,e⟩:=x; exact Heap.lt_size e
  | frz ob u=>obtain ⟨e,_⟩:=x; exact Heap.lt_size e
  | tbl ps=>exact Heap.lt_size (show h.get? a = some _ from x)
  | met f y=>exact Heap.lt_size (show h.get? a = some _ from x)
  | ext φ=>obtain ⟨_,⟨_,e⟩,_⟩:=x; exact Heap.lt_size e
theorem Paired.mapP {α β : Type} {F G : α→β→Prop} : ∀ {l₁ : List α} {l₂ : List β},Paired F l₁ l₂→(∀ a b,F a b→G a b)→Paired G l₁ l₂
  | _,_,.nil,_=>.nil
  | _,_,.cons r t,f=>.cons (f _ _ r) (Paired.mapP t f)
theorem zbv.stay (x : zbv P w H h a o) (k : ∀ b u,(b = a∨H b = some (.own a))→h.get? b = some u→h'.get? b = some u)
    (ho : ∀ b,H b = some (.own a)→H' b = some (.own a)) (ht : ∀ b xs,H b = some (.tup xs)→H' b = some (.tup xs)) : zbv P w H' h' a o:=by
  induction o with
  | lst xs=>obtain ⟨z,its,n,r,e⟩:=x; exact ⟨z,its,n,r,k _ _ (.inl rfl) e⟩
  | tup xs=>obtain ⟨z,its,r,ob,e,c⟩:=x; exact ⟨z,its,r,ob,k _ _ (.inl rfl) e,c⟩
  | dK kvs=>obtain ⟨z,y,vs,r,ob,es,ep,e,c⟩:=x; exact ⟨z,y,vs,r,ob,es,ep,k _ _ (.inl rfl) e,c⟩
  | dT kvs=>
    obtain ⟨z,y,xs,r,ob,es,ep,e,c⟩:=x
    exact ⟨z,y,xs,Paired.mapP r fun p q z=>⟨z.1,ht _ _ z.2.1,z.2.2⟩,ob,es,ep,k _ _ (.inl rfl) e,c⟩
  | set S n=>obtain ⟨ob,es,ep,t,e,c⟩:=x; exact ⟨ob,es,ep,t,k _ _ (.inl rfl) e,c⟩
  | ins C dx fs=>
    obtain ⟨d,z,ne,e,mA,⟨od,es,ep,e2,c⟩,r⟩:=x
    exact ⟨ho _ d,z,ne,k _ _ (.inl rfl) e,mA,⟨od,es,ep,k _ _ (.inr d) e2,c⟩,r⟩
  | own y=>obtain ⟨ob,e⟩:=x; exact ⟨ob,k _ _ (.inl rfl) e⟩
  | xd fs=>obtain ⟨mA,⟨od,es,ep,e,c⟩,r⟩:=x; exact ⟨mA,⟨od,es,ep,k _ _ (.inl rfl) e,c⟩,r⟩
  | rng lo hi=>obtain ⟨t,u,v,e⟩:=x; exact ⟨t,u,v,k _ _ (.inl rfl) e⟩
  | frz ob u ih=>obtain ⟨e,q⟩:=x; exact ⟨k _ _ (.inl rfl) e,ih q⟩
  | tbl ps=>
    have e : h.get? a = some { cls:=.none,data:=.fields ps }:=x
    show h'.get? a = some { cls:=.none,data:=.fields ps }
    exact k a _ (.inl rfl) e
  | met f y=>
    have e : h.get? a = some (PySem.W.methodObj (.ref f) (.ref y)):=x
    show h'.get? a = some (PySem.W.methodObj (.ref f) (.ref y))
    exact k a _ (.inl rfl) e
  | ext φ=>obtain ⟨p,⟨o,e⟩,st⟩:=x; exact ⟨st _ _ p fun o q=>k _ _ (.inl rfl) q,⟨o,k _ _ (.inl rfl) e⟩,st⟩
theorem HOk.lt (x : HOk P w H h) (e : H a = some o) : a < h.objs.size:=(x a o e).lt
theorem HOk.fresh (x : HOk P w H h) (e : h.objs.size≤a) : H a = none:=by
  cases q : H a with
  | none=>rfl
  | some u=>exact absurd (Nat.lt_of_lt_of_le (x.lt q) e) (Nat.lt_irrefl _)
theorem HOk.kept (x : HOk P w H h) (k : ∀ b u,h.get? b = some u→h'.get? b = some u) : HOk P w H h':=fun a o e=>
  (x a o e).stay (fun b u _ q=>k b u q) (fun _ q=>q) fun _ _ q=>q
theorem HOk.laid (x : HOk P w H h) (k : ∀ b u,h.get? b = some u→h'.get? b = some u) (hp : h.objs.size≤a) (new : zbv P w (upd H a o) h' a o) : HOk P w (upd H a o) h':=fun b u e=>by
  have hn:=x.fresh hp
  by_cases hb : b = a
  · subst hb; rw [zac] at e; cases e; exact new
  · rw [zag hb] at e
    exact (x b u e).stay (fun c v _ q=>k c v q) (fun c q=>by rw [zag (zab q hn)]; exact q) fun c xs q=>by rw [zag (zab q hn)]; exact q
end
def Rd (H : Hp) (a : Addr) (u : HO) : Prop:=H a = some u∨∃ o,H a = some (.frz o u)
theorem Rd.of {H : Hp} {a : Addr} {u : HO} (h : H a = some u) : Rd H a u:=.inl h
theorem Rd.ok {P : Program} {w : World} {H : Hp} {h : Heap} {a : Addr} {u : HO} (r : Rd H a u) (x : HOk P w H h) : zbv P w H h a u:=by
  rcases r with r | ⟨o,r⟩
  · exact x a u r
  · obtain ⟨_,q⟩:=x a _ r
    exact q
def Mut : Option HO→Prop
  | some (.lst _)=>True
  | some (.dK _)=>True
  | some (.dT _)=>True
  | some (.set _ _)=>True
  | some (.ins _ _ _)=>True
  | some (.ext _)=>True
  | _=>False
section
variable {P : Program} {w : World} {H : Hp} {h h' : Heap} {x e : Addr} {o' : HO}
theorem HOk.write (ok : HOk P w H h) (mu : Mut (H x)) (he : e = x∨H e = some (.own x)) (k : ∀ b u,b≠e→h.get? b = some u→h'.get? b = some u) (heo : ∃ u,h'.get? e = some u)
    (new : zbv P w (upd H x o') h' x o') : HOk P w (upd H x o') h':=fun b u q=>by
  have nown : ∀ c y,H c = some (.own y)→c≠x:=fun c y r z=>by subst z; rw [r] at mu; exact mu
  have ntup : ∀ c xs,H c = some (.tup xs)→c≠x:=fun c xs r z=>by subst z; rw [r] at mu; exact mu
  by_cases hb : b = x
  · subst hb; rw [zac] at q; cases q; exact new
  · rw [zag hb] at q
    by_cases hbe : b = e
    · have q' : H b = some (.own x):=by
        rcases he with z | z
        · exact absurd (hbe.trans z) hb
        · rw [hbe]; exact z
      rw [q] at q'; cases q'
      obtain ⟨v,hv⟩:=heo
      exact ⟨v,by rw [hbe]; exact hv⟩
    · refine (ok b u q).stay (fun c v hc r=>k c v ?_ r) (fun c r=>by rw [zag (nown c b r)]; exact r) fun c xs r=>by rw [zag (ntup c xs r)]; exact r
      rcases hc with rfl | hc
      · exact hbe
      · rintro rfl
        rcases he with z | z
        · exact nown c b hc z
        · rw [hc] at z; cases z; exact hb rfl
end
structure Un (fs ex : List Addr) (H H' : Hp) (h h' : Heap) : Prop where
  keep : ∀ b o,h.get? b = some o→H b = none→b∉fs→b∉ex→h'.get? b = some o
  slot : ∀ b o,h.get? b = some o→H b = none→b∈fs→b∉ex→∃ sl,h'.get? b = some { o with slots:=sl }
  free : ∀ b o,h.get? b = some o→H b = none→b∉ex→H' b = none
  there : ∀ b o,h.get? b = some o→b∉ex→∃ o',h'.get? b = some o'
  tups : ∀ b xs,H b = some (.tup xs)→H' b = some (.tup xs)
  frzs : ∀ b o u,H b = some (.frz o u)→H' b = some (.frz o u)
  tbls : ∀ b ps,H b = some (.tbl ps)→∃ more,H' b = some (.tbl (ps ++ more))
section
variable {fs fs' ex ex' : List Addr} {H H1 H2 : Hp} {h h1 h2 h' : Heap} {a x e : Addr} {o : HO}
theorem Un.any (u : Un fs ex H H1 h h1) {b : Addr} {ob : Obj} (q : h.get? b = some ob) (n : H b = none) (hx : b∉ex) : ∃ sl,h1.get? b = some { ob with slots:=sl }:=by
  by_cases hb : b∈fs
  · exact u.slot b ob q n hb hx
  · exact ⟨ob.slots,u.keep b ob q n hb hx⟩
theorem Un.trans (a : Un fs ex H H1 h h1) (b : Un fs ex H1 H2 h1 h2) : Un fs ex H H2 h h2 where
  keep:=fun c ob q n hc hx=>b.keep c ob (a.keep c ob q n hc hx) (a.free c ob q n hx) hc hx
  slot:=fun c ob q n hc hx=>by
    obtain ⟨sl,e1⟩:=a.slot c ob q n hc hx
    obtain ⟨sl',e2⟩:=b.slot c _ e1 (a.free c ob q n hx) hc hx
    exact ⟨sl',e2⟩
  free:=fun c ob q n hx=>by
    obtain ⟨o',e1⟩:=a.there c ob q hx
    exact b.free c o' e1 (a.free c ob q n hx) hx
  there:=fun c ob q hx=>by
    obtain ⟨o',e1⟩:=a.there c ob q hx
    exact b.there c o' e1 hx
  tups:=fun c xs q=>b.tups c xs (a.tups c xs q)
  frzs:=fun c ob xs q=>b.frzs c ob xs (a.frzs c ob xs q)
  tbls:=fun c ps q=>by
    obtain ⟨m1,e1⟩:=a.tbls c ps q
    obtain ⟨m2,e2⟩:=b.tbls c _ e1
    exact ⟨m1 ++ m2,by rw [e2,Array.append_assoc]⟩
theorem Un.kept (k : ∀ b u,h.get? b = some u→h'.get? b = some u) : Un fs ex H H h h':=
  ⟨fun b ob q _ _ _=>k b ob q,fun b ob q _ _ _=>⟨ob.slots,k b ob q⟩,fun _ _ _ n _=>n,fun b ob q _=>⟨ob,k b ob q⟩,fun _ _ q=>q,fun _ _ _ q=>q,fun _ ps q=>⟨#[],by rw [q]; simp⟩⟩
theorem Un.refl : Un fs ex H H h h:=Un.kept fun _ _ q=>q
theorem Un.laid (k : ∀ b u,h.get? b = some u→h'.get? b = some u) (hp : h.objs.size≤a) (hn : H a = none) : Un fs ex H (upd H a o) h h' where
  keep:=fun b u q _ _ _=>k b u q
  slot:=fun b u q _ _ _=>⟨u.slots,k b u q⟩
  free:=fun b u q n _=>by rw [zag (Nat.ne_of_lt (Nat.lt_of_lt_of_le (Heap.lt_size q) hp))]; exact n
  there:=fun b u q _=>⟨u,k b u q⟩
  tups:=fun b xs q=>by rw [zag (zab q hn)]; exact q
  frzs:=fun b u xs q=>by rw [zag (zab q hn)]; exact q
  tbls:=fun b ps q=>⟨#[],by rw [zag (zab q hn),q]; simp⟩
theorem Un.write (mu : Mut (H x)) (he : e = x∨H e = some (.own x)) (k : ∀ b u,b≠e→h.get? b = some u→h'.get? b = some u) (heo : ∃ u,h'.get? e = some u) : Un fs ex H (upd H x o) h h':=by
  have hx : ∀ b,H b = none→b≠x:=fun b n z=>by subst z; rw [n] at mu; exact mu
  have hb : ∀ b,H b = none→b≠e:=fun b n z=>by
    subst z
    rcases he with r | r
    · exact hx b n r
    · rw [n] at r; cases r
  have hm : ∀ b u,H b = some u→¬ Mut (some u)→b≠x:=fun b u q nm z=>by subst z; rw [q] at mu; exact nm mu
  refine ⟨fun b u q n _ _=>k b u (hb b n) q,fun b u q n _ _=>⟨u.slots,k b u (hb b n) q⟩,fun b u q n _=>by rw [zag (hx b n)]; exact n,fun b u q _=>?_,
    fun b xs q=>by rw [zag (hm b _ q fun z=>z)]; exact q,fun b u xs q=>by rw [zag (hm b _ q fun z=>z)]; exact q,fun b ps q=>⟨#[],by rw [zag (hm b _ q fun z=>z),q]; simp⟩⟩
  by_cases hbe : b = e
  · subst hbe; exact heo
  · exact ⟨u,k b u hbe q⟩
theorem Un.mono (u : Un fs ex H H1 h h1) (hs : ∀ b∈fs,b∈fs') (hx : ∀ b∈ex,b∈ex') : Un fs' ex' H H1 h h1:=
  ⟨fun b ob q n hb he=>u.keep b ob q n (fun z=>hb (hs b z)) fun z=>he (hx b z),fun _ _ q n _ he=>u.any q n fun z=>he (hx _ z),fun b ob q n he=>u.free b ob q n fun z=>he (hx b z),fun b ob q he=>u.there b ob q fun z=>he (hx b z),u.tups,u.frzs,u.tbls⟩
end
def trk (h : Heap) (H : Hp) : List Addr:=(List.range h.objs.size).filter fun a=>(H a).isSome
def hidT (h : Heap) (H : Hp) : Heap:=PySem.W.hideAll h (trk h H)
theorem zls (h : Heap) (H : Hp) : (hidT h H).objs.size = h.objs.size:=PySem.W.hideAll_size _ _
theorem zmQ {h : Heap} {H : Hp} {b : Addr} {o : Obj} (e : h.get? b = some o) (n : H b = none) : (hidT h H).get? b = some o:=
  PySem.W.hideAll_get _ e fun hm=>by
    have q : (H b).isSome = true:=(List.mem_filter.mp hm).2
    rw [n] at q; simp at q
theorem zoc {h : Heap} {H : Hp} {b : Addr} {o : Obj} (e : (hidT h H).get? b = some o) : h.get? b = some o∧H b = none:=by
  have e' : h.get? b = some o:=PySem.W.of_hideAll (trk h H) e
  refine ⟨e',?_⟩
  cases q : H b with
  | none=>rfl
  | some x=>
    have hm : b∈trk h H:=List.mem_filter.mpr ⟨List.mem_range.mpr (Heap.lt_size e'),by simp [q]⟩
    have z : (hidT h H).get? b = none:=PySem.W.hideAll_none (trk h H) hm
    rw [z] at e; cases e
def zoF (g h : Heap) (L : Addr) : List (Addr×Obj):=(List.range h.objs.size).filterMap fun a=>if a = L∨(g.get? a).isSome = true then none else (h.get? a).map fun o=>(a,o)
def rest (g h : Heap) (L d : Addr) : List (Addr×Obj):=(zoF g h L).filter fun p=>decide (p.1≠d)
end L2
namespace L2
open PySem PySem.Spec PyProof.Rows
structure Mod (K : PySem.W.Frag) (mg : Str→Option Value) (base : Heap) : Prop where
  kin : K.In base
  glob : base.Ns mainGlobals mg
  blt : ∃ mb,base.Ns builtinsNs mb∧∀ x : Str,x ≠ "__name__"→mb x = bootBuiltins x
  nolimit : base.NoLimit
structure Cx where
  prog : Program
  w : World
  K : PySem.W.Frag
  mg : Str→Option Value
  base : Heap
  A : Around
  N : List Str
  s₀ : Shared
  H₀ : Hp
  env : Env
  outer : List Env
  stack : List Env
  ex : List Addr
  fn : Str→Bool
  calm : Bool
  pn : List (Addr×Obj)
  xe : Value→Shared→Prop
def frs (l : List Env) : List Addr:=l.filterMap (·.frame)
abbrev Cx.fs (X : Cx) : List Addr:=frs X.outer
def Vis (sc : Scope) (x : Str) : Prop:=sc.names.lookup x = some .local∨sc.names.lookup x = some .cell∨sc.names.lookup x = some .free
def Loc (sc : Scope) (x : Str) : Prop:=sc.names.lookup x = some .local∨sc.names.lookup x = some .cell
def Look (env : Env) (h : Heap) (m : Str→Option Value) (x : Str) (u : Value) : Prop:=
  (env.kindOf x = some .local∧m x = some u)∨((env.kindOf x = some .cell∨env.kindOf x = some .free)∧∃ c,env.cells.lookup x = some c∧h.IsCell c (some u))
structure Cx.Ok (X : Cx) : Prop where
  mod : Mod X.K X.mg X.base
  kind : X.env.scope.kind = .function
  glob : X.env.globals = mainGlobals
  blt : X.env.builtins = builtinsNs
  above : X.s₀.heap.objs.size≤X.env.locals
  inj : ∀ x y c,X.env.cells.lookup x = some c→X.env.cells.lookup y = some c→x = y
  has : ∀ x,(X.env.kindOf x = some .cell∨X.env.kindOf x = some .free)→∃ c,X.env.cells.lookup x = some c
  cab : ∀ x c,X.fn x = true→X.env.cells.lookup x = some c→X.s₀.heap.objs.size≤c
  hd : X.calm = true→X.A.handled = none
  frames : X.A.frames = some X.stack
  stk : X.stack = X.outer∨(X.stack = X.env :: X.outer∧X.env.frame = some X.env.locals)
  exf : ∀ b∈X.ex,b≠X.env.locals∧∀ x c,X.env.cells.lookup x = some c→c≠b
  bs : ∀ b o,X.base.get? b = some o→X.s₀.heap.get? b = some o∧X.H₀ b = none
  bsz : X.base.objs.size≤X.s₀.heap.objs.size
  noex : ∀ b o,X.base.get? b = some o→b∉X.ex
  exfs : ∀ b∈X.ex,b∉X.fs
  funs : X.s₀.heap.FunFrames X.base X.outer
  frf : ∀ b∈X.fs,X.H₀ b = none
structure Inv (X : Cx) (pins : List (Addr×Obj)) (σ : List (Option V)) (H : Hp) (s : Shared) : Prop where
  ok : X.Ok
  os : s.os = X.s₀.os
  bare : AllBare s.gens
  base : Un X.fs X.ex X.H₀ H X.s₀.heap s.heap
  loc : ∃ m,s.heap.Ns X.env.locals m∧∀ (i : Nat) (x : Str) (v : V),X.N[i]? = some x→σ[i]? = some (some v)→Vis X.env.scope x→∃ u,RelV v u∧Look X.env s.heap m x u
  cell : ∀ x c,X.env.cells.lookup x = some c→∃ v,s.heap.IsCell c v
  free : H X.env.locals = none
  freeC : ∀ x c,X.env.cells.lookup x = some c→H c = none
  pin : ∀ p∈X.pn ++ pins,s.heap.get? p.1 = some p.2∧H p.1 = none∧p.1≠X.env.locals∧p.1∉X.fs∧∀ v,p.2.data≠.cell v
  hok : HOk X.prog X.w H s.heap
  len : σ.length = X.N.length
section
variable {X : Cx} {pins : List (Addr×Obj)} {σ : List (Option V)} {H H' : Hp} {s : Shared} {h' : Heap}
theorem Cx.Ok.nofr (ok : X.Ok) {b : Addr} {o : Obj} (e : X.base.get? b = some o) : b∉X.fs:=fun hb=>by
  have:=(ok.funs.mem hb).1
  rw [e] at this; cases this
theorem Inv.bs (I : Inv X pins σ H s) : ∀ b o,X.base.get? b = some o→s.heap.get? b = some o∧H b = none:=fun b o e=>
  ⟨I.base.keep b o (I.ok.bs b o e).1 (I.ok.bs b o e).2 (I.ok.nofr e) (I.ok.noex b o e),I.base.free b o (I.ok.bs b o e).1 (I.ok.bs b o e).2 (I.ok.noex b o e)⟩
theorem Inv.bk (I : Inv X pins σ H s) : ∀ b o,X.base.get? b = some o→s.heap.get? b = some o:=fun b o e=>(I.bs b o e).1
theorem Inv.mod (I : Inv X pins σ H s) : Mod X.K X.mg X.base:=I.ok.mod
theorem Inv.kIn (I : Inv X pins σ H s) : X.K.In s.heap:=I.ok.mod.kin.keeps I.bk
theorem Inv.nolimit (I : Inv X pins σ H s) : s.heap.NoLimit:=I.ok.mod.nolimit.keeps I.bk
theorem Inv.fr (I : Inv X pins σ H s) : ∃ m,Fr X.base X.env.locals s.heap m:=
  let ⟨m,hn,_⟩:=I.loc
  ⟨m,hn,I.bk,Nat.le_trans I.ok.bsz I.ok.above⟩
theorem Inv.lt (I : Inv X pins σ H s) : X.env.locals < s.heap.objs.size:=let ⟨_,hn,_⟩:=I.loc; hn.lt
theorem Inv.sz (I : Inv X pins σ H s) : X.s₀.heap.objs.size≤s.heap.objs.size:=Nat.le_trans I.ok.above (Nat.le_of_lt I.lt)
theorem Inv.nofs (I : Inv X pins σ H s) {a : Addr} (h : s.heap.objs.size≤a) : a∉X.fs:=fun hb=>by
  obtain ⟨_,o,ho,_⟩:=I.ok.funs.mem hb
  exact absurd (Nat.lt_of_lt_of_le (Heap.lt_size ho) (Nat.le_trans I.sz h)) (Nat.lt_irrefl _)
theorem Inv.cne (I : Inv X pins σ H s) : ∀ x c,X.env.cells.lookup x = some c→c≠X.env.locals:=fun x c e z=>by
  obtain ⟨v,o,ho,hd⟩:=I.cell x c e
  obtain ⟨m,⟨o',es,ep,ho',hd',_⟩,_⟩:=I.loc
  rw [z,ho'] at ho; cases ho; rw [hd'] at hd; cases hd
theorem Inv.funs (I : Inv X pins σ H s) : s.heap.FunFrames X.base X.outer:=by
  have all : ∀ (l : List Env),(∀ b∈frs l,b∈X.fs)→X.s₀.heap.FunFrames X.base l→s.heap.FunFrames X.base l:=by
    intro l
    induction l with
    | nil=>intro _ _; trivial
    | cons env r ih=>
      intro hs hl
      obtain ⟨hk,⟨L,o,hf,hn,ho,hd⟩,hr⟩:=hl
      have hL : L∈X.fs:=hs L (by unfold frs; rw [List.filterMap_cons,hf]; exact List.mem_cons_self)
      obtain ⟨sl,e⟩:=I.base.slot L o ho (I.ok.frf L hL) hL fun z=>I.ok.exfs L z hL
      exact ⟨hk,⟨L,_,hf,hn,e,hd⟩,ih (fun b hb=>hs b (by unfold frs; rw [List.filterMap_cons,hf]; exact List.mem_cons_of_mem _ hb)) hr⟩
  exact all X.outer (fun _ hb=>hb) I.ok.funs
theorem Inv.stack (I : Inv X pins σ H s) : s.heap.FunFrames X.base X.stack:=by
  rcases I.ok.stk with e | ⟨e,hf⟩
  · rw [e]; exact I.funs
  · rw [e]
    obtain ⟨m,hn,_⟩:=I.loc
    refine .cons (by rw [I.ok.kind]; decide) hf hn ?_ I.funs
    exact Heap.get?_none_of_le (Nat.le_trans I.ok.bsz I.ok.above)
theorem Inv.stkSub (I : Inv X pins σ H s) : ∀ b∈frs X.stack,b∈X.env.locals :: X.fs:=fun b hb=>by
  rcases I.ok.stk with e | ⟨e,hf⟩
  · rw [e] at hb; exact List.mem_cons_of_mem _ hb
  · rw [e] at hb
    unfold frs at hb
    rw [List.filterMap_cons,hf] at hb
    exact hb
theorem Inv.stkFree (I : Inv X pins σ H s) : ∀ b∈frs X.stack,H b = none:=fun b hb=>by
  rcases List.mem_cons.mp (I.stkSub b hb) with e | hb
  · rw [e]; exact I.free
  · obtain ⟨_,o,ho,_⟩:=I.ok.funs.mem hb
    exact I.base.free b o ho (I.ok.frf b hb) fun z=>I.ok.exfs b z hb
theorem Inv.step {g' : Array GenState} {t' : Nat} {d' : Drawn} {ch : List Addr} (I : Inv X pins σ H s)
    (hch : ∀ b∈ch,(b∈X.ex∨X.s₀.heap.objs.size≤b)∧b≠X.env.locals∧(∀ x c,X.env.cells.lookup x = some c→c≠b)∧∀ p∈X.pn ++ pins,p.1≠b)
    (keep : ∀ b o,b≠X.env.locals→b∉X.fs→b∉ch→s.heap.get? b = some o→H b = none→h'.get? b = some o)
    (slot : ∀ b o,b≠X.env.locals→b∈X.fs→b∉ch→s.heap.get? b = some o→H b = none→∃ sl,h'.get? b = some { o with slots:=sl }) (free : ∀ b o,b∉ch→s.heap.get? b = some o→H b = none→H' b = none)
    (there : ∀ b o,b∉ch→s.heap.get? b = some o→∃ o',h'.get? b = some o')
    (tups : ∀ b xs,H b = some (.tup xs)→H' b = some (.tup xs)) (frzs : ∀ b o u,H b = some (.frz o u)→H' b = some (.frz o u)) (tbls : ∀ b ps,H b = some (.tbl ps)→∃ more,H' b = some (.tbl (ps ++ more)))
    (ns : ∀ m,s.heap.Ns X.env.locals m→h'.Ns X.env.locals m) (hok : HOk X.prog X.w H' h') (hg : AllBare g') :
    Inv X pins σ H' { s with heap:=h',gens:=g',drawn:=d',toks:=t' }:=by
  have neL : ∀ b o,X.s₀.heap.get? b = some o→b≠X.env.locals:=fun b o e=>Nat.ne_of_lt (Nat.lt_of_lt_of_le (Heap.lt_size e) I.ok.above)
  have neC : ∀ b o,X.s₀.heap.get? b = some o→b∉X.ex→b∉ch:=fun b o e hx hb=>by
    rcases (hch b hb).1 with z | z
    · exact hx z
    · exact absurd (Nat.lt_of_lt_of_le (Heap.lt_size e) z) (Nat.lt_irrefl _)
  have cellK : ∀ x c,X.env.cells.lookup x = some c→∀ v,s.heap.IsCell c v→h'.IsCell c v:=fun x c e v ⟨o,ho,hd⟩=>by
    have nch : c∉ch:=fun z=>(hch c z).2.2.1 x c e rfl
    by_cases hc : c∈X.fs
    · obtain ⟨sl,q⟩:=slot c o (I.cne x c e) hc nch ho (I.freeC x c e)
      exact ⟨_,q,hd⟩
    · exact ⟨o,keep c o (I.cne x c e) hc nch ho (I.freeC x c e),hd⟩
  refine ⟨I.ok,I.os,hg,⟨fun b o e n hb hx=>?_,fun b o e n hb hx=>?_,fun b o e n hx=>?_,fun b o e hx=>?_,fun b xs e=>tups b xs (I.base.tups b xs e),fun b o xs e=>frzs b o xs (I.base.frzs b o xs e),fun b ps e=>?_⟩,?_,fun x c e=>?_,?_,fun x c e=>?_,fun p hp=>?_,hok,I.len⟩
  · exact keep b o (neL b o e) hb (neC b o e hx) (I.base.keep b o e n hb hx) (I.base.free b o e n hx)
  · obtain ⟨sl,e1⟩:=I.base.slot b o e n hb hx
    obtain ⟨sl',e2⟩:=slot b _ (neL b o e) hb (neC b o e hx) e1 (I.base.free b o e n hx)
    exact ⟨sl',e2⟩
  · obtain ⟨o',e1⟩:=I.base.there b o e hx
    exact free b o' (neC b o e hx) e1 (I.base.free b o e n hx)
  · obtain ⟨o',e1⟩:=I.base.there b o e hx
    exact there b o' (neC b o e hx) e1
  · obtain ⟨m1,e1⟩:=I.base.tbls b ps e
    obtain ⟨m2,e2⟩:=tbls b _ e1
    exact ⟨m1 ++ m2,by rw [e2,Array.append_assoc]⟩
  · obtain ⟨m,hn,hl⟩:=I.loc
    refine ⟨m,ns m hn,fun i x v e1 e2 e3=>?_⟩
    obtain ⟨u,r,l⟩:=hl i x v e1 e2 e3
    refine ⟨u,r,?_⟩
    rcases l with l | ⟨k,c,e,z⟩
    · exact .inl l
    · exact .inr ⟨k,c,e,cellK x c e _ z⟩
  · obtain ⟨v,z⟩:=I.cell x c e
    exact ⟨v,cellK x c e v z⟩
  · obtain ⟨m,⟨o,_,_,ho,_⟩,_⟩:=I.loc
    exact free _ o (fun z=>(hch _ z).2.1 rfl) ho I.free
  · obtain ⟨v,o,ho,hd⟩:=I.cell x c e
    exact free c o (fun z=>(hch c z).2.2.1 x c e rfl) ho (I.freeC x c e)
  · obtain ⟨e,n,ne,nf,d⟩:=I.pin p hp
    have nch : p.1∉ch:=fun z=>(hch p.1 z).2.2.2 p hp rfl
    exact ⟨keep p.1 p.2 ne nf nch e n,free p.1 p.2 nch e n,ne,nf,d⟩
theorem Inv.un {t' : Nat} (I : Inv X pins σ H s) (u : Un X.fs [] H H' s.heap h') (hok : HOk X.prog X.w H' h') : Inv X pins σ H' { s with heap:=h',toks:=t' }:=by
  obtain ⟨m,⟨o,es,ep,ho,r⟩,_⟩:=id I.loc
  obtain ⟨sl,hL⟩:=u.any ho I.free (by simp)
  exact I.step (g':=s.gens) (d':=s.drawn) (ch:=[]) (fun _ z=>nomatch z) (fun b o _ hb _ e n=>u.keep b o e n hb (by simp)) (fun b o _ hb _ e n=>u.slot b o e n hb (by simp)) (fun b o _ e n=>u.free b o e n (by simp)) (fun b o _ e=>u.there b o e (by simp)) u.tups u.frzs u.tbls (fun m' hm=>by
    obtain ⟨o',es',ep',ho',r'⟩:=hm
    rw [ho] at ho'; cases ho'
    exact ⟨_,es',ep',hL,r'⟩) hok I.bare
theorem Inv.call {g' : Array GenState} {t' : Nat} {d' : Drawn} {ch : List Addr} (I : Inv X pins σ H s) (u : Un (frs X.stack) ch H H' s.heap h') (hok : HOk X.prog X.w H' h') (hg : AllBare g')
    (hch : ∀ b∈ch,(b∈X.ex∨X.s₀.heap.objs.size≤b)∧b≠X.env.locals∧(∀ x c,X.env.cells.lookup x = some c→c≠b)∧∀ p∈X.pn ++ pins,p.1≠b) :
    Inv X pins σ H' { s with heap:=h',gens:=g',drawn:=d',toks:=t' }:=by
  obtain ⟨m,⟨o,es,ep,ho,r⟩,_⟩:=id I.loc
  obtain ⟨sl,hL⟩:=u.any ho I.free fun z=>(hch _ z).2.1 rfl
  exact I.step (ch:=ch) hch (fun b o hL hb hc e n=>u.keep b o e n (fun z=>(List.mem_cons.mp (I.stkSub b z)).elim hL hb) hc) (fun b o _ _ hc e n=>u.any e n hc) (fun b o hc e n=>u.free b o e n hc) (fun b o hc e=>u.there b o e hc) u.tups u.frzs u.tbls (fun m' hm=>by
    obtain ⟨o',es',ep',ho',r'⟩:=hm
    rw [ho] at ho'; cases ho'
    exact ⟨_,es',ep',hL,r'⟩) hok hg
theorem Inv.turned {t' : Nat} {it : Addr} (I : Inv X pins σ H s) (k : ∀ b o,b≠it→s.heap.get? b = some o→h'.get? b = some o) (hn : H it = none) (hL : it≠X.env.locals)
    (h1 : it∈X.ex∨X.s₀.heap.objs.size≤it) (h2 : ∀ x c,X.env.cells.lookup x = some c→c≠it) (h3 : ∀ p∈X.pn ++ pins,p.1≠it) : Inv X pins σ H { s with heap:=h',toks:=t' }:=by
  have nit : ∀ b u,H b = some u→b≠it:=fun b u e z=>by rw [z,hn] at e; cases e
  refine I.step (g':=s.gens) (d':=s.drawn) (ch:=[it]) (fun b hb=>?_) (fun b o _ _ hc e _=>k b o (fun z=>hc (by simp [z])) e) (fun b o _ _ hc e _=>⟨o.slots,k b o (fun z=>hc (by simp [z])) e⟩) (fun _ _ _ _ n=>n)
    (fun b o hc e=>⟨o,k b o (fun z=>hc (by simp [z])) e⟩) (fun _ _ e=>e) (fun _ _ _ e=>e) (fun b ps e=>⟨#[],by rw [e]; simp⟩) (fun m hm=>?_) (fun b u e=>?_) I.bare
  · have e : b = it:=by simpa using hb
    subst e
    exact ⟨h1,hL,h2,h3⟩
  · obtain ⟨o,es,ep,ho,r⟩:=hm
    exact ⟨o,es,ep,k _ o (Ne.symm hL) ho,r⟩
  · refine (I.hok b u e).stay (fun c v hc q=>k c v ?_ q) (fun _ q=>q) fun _ _ q=>q
    rcases hc with z | z
    · rw [z]; exact nit b u e
    · exact nit c _ z
theorem Inv.tok (I : Inv X pins σ H s) (t : Nat) : Inv X pins σ H { s with toks:=t }:=I.un (h':=s.heap) (t':=t) Un.refl I.hok
theorem Inv.kept {t' : Nat} (I : Inv X pins σ H s) (k : ∀ b u,s.heap.get? b = some u→h'.get? b = some u) : Inv X pins σ H { s with heap:=h',toks:=t' }:=I.un (Un.kept k) (I.hok.kept k)
theorem Inv.laid {a : Addr} {o : HO} {t' : Nat} (I : Inv X pins σ H s) (k : ∀ b u,s.heap.get? b = some u→h'.get? b = some u) (hp : s.heap.objs.size≤a) (new : zbv X.prog X.w (upd H a o) h' a o) :
    Inv X pins σ (upd H a o) { s with heap:=h',toks:=t' }:=I.un (Un.laid k hp (I.hok.fresh hp)) (I.hok.laid k hp new)
theorem Inv.write {x e : Addr} {o : HO} {t' : Nat} (I : Inv X pins σ H s) (mu : Mut (H x)) (he : e = x∨H e = some (.own x)) (k : ∀ b u,b≠e→s.heap.get? b = some u→h'.get? b = some u) (heo : ∃ u,h'.get? e = some u)
    (new : zbv X.prog X.w (upd H x o) h' x o) : Inv X pins σ (upd H x o) { s with heap:=h',toks:=t' }:=I.un (Un.write mu he k heo) (I.hok.write mu he k heo new)
theorem Inv.pins_of {pins' : List (Addr×Obj)} (I : Inv X pins σ H s) (h : ∀ p∈pins',s.heap.get? p.1 = some p.2∧H p.1 = none∧p.1≠X.env.locals∧p.1∉X.fs∧∀ v,p.2.data≠.cell v) : Inv X pins' σ H s:=
  ⟨I.ok,I.os,I.bare,I.base,I.loc,I.cell,I.free,I.freeC,fun p hp=>(List.mem_append.mp hp).elim (fun z=>I.pin p (List.mem_append_left _ z)) (h p),I.hok,I.len⟩
theorem zi1 {N : List Str} (hN : N.Nodup) {i j : Nat} {x : Str} (a : N[i]? = some x) (b : N[j]? = some x) : i = j:=by
  obtain ⟨h1,e1⟩:=List.getElem?_eq_some_iff.mp a
  obtain ⟨h2,e2⟩:=List.getElem?_eq_some_iff.mp b
  exact (List.getElem_inj hN).mp (e1.trans e2.symm)
theorem zgY {M : Model} {A : Around} {E : Value→Shared→Prop} {i : Nat} {x : Str} {v : V} {u : Value} {Q : Unit→Shared→Prop} (I : Inv X pins σ H s) (hN : X.N.Nodup) (hi : X.N[i]? = some x) (hx : Loc X.env.scope x) (r : RelV v u)
    (h : ∀ s',Inv X pins (σ.set i (some v)) H s'→(∃ a,Heap.SameBut a s.heap s'.heap∧(a = X.env.locals∨X.env.cells.lookup x = some a))→Q () s') (hf : X.fn x = true∨X.env.scope.names.lookup x = some .local:=by first | exact .inl rfl | exact .inr rfl | assumption) : wpAny M A (storeName X.env x u) Q E s:=by
  obtain ⟨m,hn,hl⟩:=id I.loc
  have hcls : (X.env.scope.kind == .class || (X.env.scope.kind == .module && X.env.locals != X.env.globals)) = false:=by rw [I.ok.kind]; rfl
  have hiσ : i < σ.length:=by rw [I.len]; exact (List.getElem?_eq_some_iff.mp hi).1
  have cne:=I.cne
  have tracked : ∀ {a : Addr} {h' : Heap},(∃ o,s.heap.get? a = some o∧H a = none)→Heap.SameBut a s.heap h'→HOk X.prog X.w H h':=fun {a h'} ha hs b ob e=>by
    obtain ⟨_,_,hfree⟩:=ha
    refine (I.hok b ob e).stay (fun c w' hc q=>(hs.2 c ?_).trans q) (fun _ q=>q) fun _ _ q=>q
    rintro rfl
    rcases hc with rfl | hc
    · rw [hfree] at e; cases e
    · rw [hfree] at hc; cases hc
  rcases hx with hk | hk
  · refine wpAny_storeName_local hk hn (fun h' hn' hs=>?_) hcls
    obtain ⟨oL,_,_,hoL,_⟩:=id hn
    refine h _ ⟨I.ok,I.os,I.bare,⟨fun b o e n hb hx=>?_,fun b o e n hb hx=>?_,I.base.free,fun b o e hx=>?_,I.base.tups,I.base.frzs,I.base.tbls⟩,⟨_,hn',fun j y v' e1 e2 e3=>?_⟩,fun y c e=>?_,I.free,I.freeC,fun p hp=>?_,tracked ⟨oL,hoL,I.free⟩ hs,by simpa using I.len⟩ ⟨_,hs,.inl rfl⟩
    · exact (hs.2 b (Nat.ne_of_lt (Nat.lt_of_lt_of_le (Heap.lt_size e) I.ok.above))).trans (I.base.keep b o e n hb hx)
    · obtain ⟨sl,e1⟩:=I.base.slot b o e n hb hx
      exact ⟨sl,(hs.2 b (Nat.ne_of_lt (Nat.lt_of_lt_of_le (Heap.lt_size e) I.ok.above))).trans e1⟩
    · obtain ⟨o',e1⟩:=I.base.there b o e hx
      exact ⟨o',(hs.2 b (Nat.ne_of_lt (Nat.lt_of_lt_of_le (Heap.lt_size e) I.ok.above))).trans e1⟩
    · by_cases hj : j = i
      · subst hj
        rw [hi] at e1; cases e1
        rw [List.getElem?_set_self hiσ] at e2
        cases e2
        exact ⟨u,r,.inl ⟨hk,by simp⟩⟩
      · rw [List.getElem?_set_ne (Ne.symm hj)] at e2
        obtain ⟨u',r',q⟩:=hl j y v' e1 e2 e3
        refine ⟨u',r',?_⟩
        rcases q with ⟨k,e⟩ | ⟨k,c,e,z⟩
        · refine .inl ⟨k,?_⟩
          have : y≠x:=fun e=>hj (zi1 hN e1 (e ▸ hi))
          simp [this,e]
        · exact .inr ⟨k,c,e,z.sameBut hs (cne y c e)⟩
    · obtain ⟨w',z⟩:=I.cell y c e
      exact ⟨w',z.sameBut hs (cne y c e)⟩
    · obtain ⟨e,n,ne,nf,d⟩:=I.pin p hp
      exact ⟨(hs.2 p.1 ne).trans e,n,ne,nf,d⟩
  · have hfn : X.fn x = true:=by
      rcases hf with z | z
      · exact z
      · rw [z] at hk; cases hk
    obtain ⟨c,hc⟩:=I.ok.has x (.inl hk)
    obtain ⟨w',z⟩:=I.cell x c hc
    refine wpAny_storeName_cell I.ok.kind hk hc z (fun h' hc' hs=>?_)
    obtain ⟨oc,hoc,hocd⟩:=id z
    refine h { s with heap:=h' } ⟨I.ok,I.os,I.bare,⟨fun b o e n hb hx=>?_,fun b o e n hb hx=>?_,I.base.free,fun b o e hx=>?_,I.base.tups,I.base.frzs,I.base.tbls⟩,⟨m,hn.sameBut hs (Ne.symm (cne x c hc)),fun j y v' e1 e2 e3=>?_⟩,fun y c' e=>?_,I.free,I.freeC,fun p hp=>?_,tracked ⟨oc,hoc,I.freeC x c hc⟩ hs,by simpa using I.len⟩ ⟨c,hs,.inr hc⟩
    · exact (hs.2 b (Nat.ne_of_lt (Nat.lt_of_lt_of_le (Heap.lt_size e) (I.ok.cab x c hfn hc)))).trans (I.base.keep b o e n hb hx)
    · obtain ⟨sl,e1⟩:=I.base.slot b o e n hb hx
      exact ⟨sl,(hs.2 b (Nat.ne_of_lt (Nat.lt_of_lt_of_le (Heap.lt_size e) (I.ok.cab x c hfn hc)))).trans e1⟩
    · obtain ⟨o',e1⟩:=I.base.there b o e hx
      exact ⟨o',(hs.2 b (Nat.ne_of_lt (Nat.lt_of_lt_of_le (Heap.lt_size e) (I.ok.cab x c hfn hc)))).trans e1⟩
    · by_cases hj : j = i
      · subst hj
        rw [hi] at e1; cases e1
        rw [List.getElem?_set_self hiσ] at e2
        cases e2
        exact ⟨u,r,.inr ⟨.inl hk,c,hc,hc'⟩⟩
      · rw [List.getElem?_set_ne (Ne.symm hj)] at e2
        obtain ⟨u',r',q⟩:=hl j y v' e1 e2 e3
        refine ⟨u',r',?_⟩
        rcases q with q | ⟨k,c',e,z'⟩
        · exact .inl q
        · refine .inr ⟨k,c',e,z'.sameBut hs ?_⟩
          rintro rfl
          exact hj (zi1 hN e1 (I.ok.inj _ _ _ e hc ▸ hi))
    · by_cases hcc : c' = c
      · subst hcc; exact ⟨_,hc'⟩
      · obtain ⟨w2,z2⟩:=I.cell y c' e
        exact ⟨w2,z2.sameBut hs hcc⟩
    · obtain ⟨e,n,ne,nf,d⟩:=I.pin p hp
      refine ⟨(hs.2 p.1 ?_).trans e,n,ne,nf,d⟩
      intro q
      rw [q,hoc] at e
      have q' : oc = p.2:=Option.some.inj e
      exact d w' (by rw [← q']; exact hocd)
theorem zeI {M : Model} {A : Around} {E : Value→Shared→Prop} {i : Nat} {x : Str} {v : V} {u : Value} {Q : Unit→Shared→Prop} (I : Inv X pins σ H s) (hN : X.N.Nodup) (hi : X.N[i]? = some x) (hx : Loc X.env.scope x) (r : RelV v u)
    (h : ∀ s',Inv X pins (σ.set i (some v)) H s'→Q () s') (hf : X.fn x = true∨X.env.scope.names.lookup x = some .local:=by first | exact .inl rfl | exact .inr rfl | assumption) : wpAny M A (storeName X.env x u) Q E s:=
  zgY I hN hi hx r (fun s' I' _=>h s' I') hf
theorem Inv.call' {s' : Shared} {ch : List Addr} (I : Inv X pins σ H s) (ho : s'.os = s.os) (u : Un (frs X.stack) ch H H' s.heap s'.heap) (hok : HOk X.prog X.w H' s'.heap) (hg : AllBare s'.gens)
    (hch : ∀ b∈ch,(b∈X.ex∨X.s₀.heap.objs.size≤b)∧b≠X.env.locals∧(∀ x c,X.env.cells.lookup x = some c→c≠b)∧∀ p∈X.pn ++ pins,p.1≠b) : Inv X pins σ H' s':=by
  obtain ⟨h',g',d',t',o'⟩:=s'
  have e : o' = s.os:=ho
  subst e
  exact I.call (g':=g') (t':=t') (d':=d') u hok hg hch
end
abbrev XK:=Value→Option Addr→Hp→Prop
abbrev St:=List (Option V)
abbrev VK:=V→Hp→Prop
abbrev TE:=St→Hp→VK→Prop
abbrev TT:=St→Hp→(Bool→Hp→Prop)→Prop
abbrev TA:=St→Hp→(List V→Hp→Prop)→Prop
structure Ends where
  nx : St→Hp→Prop
  rt : VK
  bk : St→Hp→Prop:=fun _ _=>False
  ct : St→Hp→Prop:=fun _ _=>False
abbrev TS:=Ends→St→Hp→Prop
def EP (X : Cx) (pins : List (Addr×Obj)) (σ : St) (Q : VK) (u : Value) (s' : Shared) : Prop:=∃ v H',Inv X pins σ H' s'∧RelV v u∧Q v H'
def TP (X : Cx) (pins : List (Addr×Obj)) (σ : St) (Q : Bool→Hp→Prop) (b : Bool) (s' : Shared) : Prop:=∃ H',Inv X pins σ H' s'∧Q b H'
def AP (X : Cx) (pins : List (Addr×Obj)) (σ : St) (Q : List V→Hp→Prop) (us : List Value) (s' : Shared) : Prop:=∃ vs H',Inv X pins σ H' s'∧Vals vs us∧Q vs H'
def SP (X : Cx) (pins : List (Addr×Obj)) (D : Ends) (f : Flow) (s' : Shared) : Prop:=
  match f with
  | .next=>∃ σ' H',Inv X pins σ' H' s'∧D.nx σ' H'
  | .brk=>∃ σ' H',Inv X pins σ' H' s'∧D.bk σ' H'
  | .cont=>∃ σ' H',Inv X pins σ' H' s'∧D.ct σ' H'
  | .ret u=>∃ v σ' H',Inv X pins σ' H' s'∧RelV v u∧D.rt v H'
def PE (X : Cx) (e : Expr) (t : TE) : Prop:=
  ∀ (pins : List (Addr×Obj)) (s : Shared) (σ : St) (H : Hp) (Q : VK),Inv X pins σ H s→t σ H Q→wpAny (model X.prog X.w) X.A (eval e X.env) (EP X pins σ Q) X.xe s
def PT (X : Cx) (e : Expr) (t : TT) : Prop:=
  ∀ (pins : List (Addr×Obj)) (s : Shared) (σ : St) (H : Hp) (Q : Bool→Hp→Prop),Inv X pins σ H s→t σ H Q→wpAny (model X.prog X.w) X.A (isTrue e X.env (eval e X.env)) (TP X pins σ Q) X.xe s
def PW (X : Cx) (e : Expr) (t : TT) : Prop:=
  ∀ (whole : Sem Value) (pins : List (Addr×Obj)) (s : Shared) (σ : St) (H : Hp) (Q : Bool→Hp→Prop),Inv X pins σ H s→t σ H Q→wpAny (model X.prog X.w) X.A (isTrue e X.env whole) (TP X pins σ Q) X.xe s
theorem PW.pt {X : Cx} {e : Expr} {t : TT} (h : PW X e t) : PT X e t:=h _
def PA (X : Cx) (es : List Expr) (t : TA) : Prop:=
  ∀ (pos : Pos) (pins : List (Addr×Obj)) (s : Shared) (σ : St) (H : Hp) (Q : List V→Hp→Prop),Inv X pins σ H s→t σ H Q→wpAny (model X.prog X.w) X.A (spliced (backTo pos (starEach es X.env))) (AP X pins σ Q) X.xe s
def PS (X : Cx) (st : Stmt) (t : TS) : Prop:=
  ∀ (pins : List (Addr×Obj)) (s : Shared) (σ : St) (H : Hp) (D : Ends),Inv X pins σ H s→t D σ H→wpAny (model X.prog X.w) X.A (exec st X.env) (SP X pins D) X.xe s
def PSs (X : Cx) (st : List Stmt) (t : TS) : Prop:=
  ∀ (pins : List (Addr×Obj)) (s : Shared) (σ : St) (H : Hp) (D : Ends),Inv X pins σ H s→t D σ H→wpAny (model X.prog X.w) X.A (execs st X.env) (SP X pins D) X.xe s
theorem thn {α : Type} {t : Sem α} {Q Q' : α→Shared→Prop} {M : Model} {A : Around} {E : Value→Shared→Prop} {s : Shared} (h : wpAny M A t Q E s) (hQ : ∀ a s,Q a s→Q' a s) : wpAny M A t Q' E s:=wpAny_mono h hQ fun _ _ x=>x
end L2
namespace L2
open PySem PySem.Spec PyProof.Rows
section
variable {X : Cx}
def tVar (i : Nat) : TE:=fun σ H Q=>∃ v,σ[i]? = some (some v)∧Q v H
def tC (v : V) : TE:=fun _ H Q=>Q v H
theorem pe_var {i : Nat} {x : Str} {pos : Pos} (hN : X.N[i]? = some x) (hv : Vis X.env.scope x) (hd : (x == ("__debug__" : Str)) = false:=by decide) (hcd : (x == ("__classdict__" : Str)) = false:=by decide) : PE X (.Name x pos) (tVar i):=by
  intro pins s σ H Q I h
  obtain ⟨v,e,h⟩:=h
  obtain ⟨m,hn,hl⟩:=I.loc
  obtain ⟨u,r,l⟩:=hl i x v hN e hv
  have fin : EP X pins σ Q u s:=⟨v,H,I,r,h⟩
  rcases l with ⟨hk,hm⟩ | ⟨hk,c,hc,hcell⟩
  · exact wpAny_Name (wpAny_loadName_local I.ok.kind hk hn hm fin) hd
  · rcases hk with hk | hk
    · exact wpAny_Name (wpAny_loadName_cell I.ok.kind hk hc hcell fin) hd
    · exact wpAny_Name (wpAny_loadName_free I.ok.kind hk hc hcell fin hcd) hd
theorem zae {i j pos} : PE X (.Constant (.int i) j pos) (tC (.int i)):=fun _ _ _ H _ I h=>wpAny_Constant_int ⟨.int i,H,I.tok _,⟨_,rfl⟩,h⟩
theorem zdt {b j pos} : PE X (.Constant (.bool b) j pos) (tC (.bl b)):=fun _ _ _ H _ I h=>Constant_bool ⟨.bl b,H,I,rfl,h⟩
theorem pe_non {j pos} : PE X (.Constant .none j pos) (tC .non):=fun _ _ _ H _ I h=>Constant_none ⟨.non,H,I,rfl,h⟩
theorem zc6 {x j pos} : PE X (.Constant (.str x) j pos) (tC (.str x)):=fun _ _ _ H _ I h=>Calls.Constant_str ⟨.str x,H,I.tok _,⟨_,rfl⟩,h⟩
def Gl (X : Cx) (x : Str) : Prop:=X.env.kindOf x = some .globalImplicit
theorem zfn {E : Value→Shared→Prop} {pins : List (Addr×Obj)} {s : Shared} {σ : St} {H : Hp} {x : Str} {u : Value} {pos : Pos} {Q : Value→Shared→Prop} (I : Inv X pins σ H s) (hg : Gl X x) (hm : X.mg x = some u) (h : Q u s)
    (hd : (x == ("__debug__" : Str)) = false:=by decide) : wpAny (model X.prog X.w) X.A (eval (.Name x pos) X.env) Q E s:=
  Calls.Name_function_global I.ok.kind hg (Calls.loadGlobal_global (by rw [I.ok.glob]; exact I.mod.glob.keeps I.bk) hm h) hd
theorem zdy {E : Value→Shared→Prop} {pins : List (Addr×Obj)} {s : Shared} {σ : St} {H : Hp} {x : Str} {u : Value} {pos : Pos} {Q : Value→Shared→Prop} (I : Inv X pins σ H s) (hg : Gl X x) (hm : X.mg x = none) (hv : bootBuiltins x = some u) (h : Q u s)
    (hn : x ≠ "__name__":=by decide) (hd : (x == ("__debug__" : Str)) = false:=by decide) : wpAny (model X.prog X.w) X.A (eval (.Name x pos) X.env) Q E s:=by
  obtain ⟨mb,h1,h2⟩:=I.mod.blt
  exact Calls.Name_function_global I.ok.kind hg (Calls.loadGlobal_builtin (by rw [I.ok.glob]; exact I.mod.glob.keeps I.bk) hm (by rw [I.ok.blt]; exact h1.keeps I.bk) ((h2 x hn).trans hv) h) hd
theorem zn2 {x : Str} {v : V} {u : Value} {pos : Pos} (hg : Gl X x) (hm : X.mg x = some u) (r : RelV v u) (hd : (x == ("__debug__" : Str)) = false:=by decide) : PE X (.Name x pos) (tC v):=
  fun _ _ _ H _ I h=>zfn I hg hm ⟨v,H,I,r,h⟩ hd
theorem zhT {x : Str} {v : V} {u : Value} {pos : Pos} (hg : Gl X x) (hm : X.mg x = none) (hv : bootBuiltins x = some u) (r : RelV v u) (hn : x ≠ "__name__":=by decide) (hd : (x == ("__debug__" : Str)) = false:=by decide) : PE X (.Name x pos) (tC v):=
  fun _ _ _ H _ I h=>zdy I hg hm hv ⟨v,H,I,r,h⟩ hn hd
def t2I (ta tb : TE) (k : Int→Int→Hp→Prop) : St→Hp→Prop:=fun σ H=>ta σ H fun x H1=>tb σ H1 fun y H2=>∃ i j,x = .int i∧y = .int j∧k i j H2
def tAdd (ta tb : TE) : TE:=fun σ H Q=>t2I ta tb (fun i j H2=>Q (.int (i + j)) H2) σ H
def tSub (ta tb : TE) : TE:=fun σ H Q=>t2I ta tb (fun i j H2=>Q (.int (i - j)) H2) σ H
def tMul (ta tb : TE) : TE:=fun σ H Q=>t2I ta tb (fun i j H2=>(-(2 ^ 64) < i∧i < 2 ^ 64)∧Q (.int (i * j)) H2) σ H
variable {a b : Expr} {ta tb : TE} {pos : Pos}
def PC (X : Cx) (op : CmpOp) (a b : Expr) (t : TE) : Prop:=
  ∀ (pins : List (Addr×Obj)) (s : Shared) (σ : St) (H : Hp) (Q : VK),Inv X pins σ H s→t σ H Q→
    wpAny (model X.prog X.w) X.A (eval a X.env) (fun v s₁=>wpAny (model X.prog X.w) X.A (eval b X.env) (fun u s₂=>wpAny (model X.prog X.w) X.A (compareOp op v u) (EP X pins σ Q) X.xe s₂) X.xe s₁) X.xe s
def tCmp (p : Int→Int→Bool) (ta tb : TE) : TE:=fun σ H Q=>t2I ta tb (fun i j H2=>Q (.bl (p i j)) H2) σ H
abbrev tLt : TE→TE→TE:=tCmp fun i j=>decide (i < j)
abbrev tLe : TE→TE→TE:=tCmp fun i j=>decide (i≤j)
abbrev tGt : TE→TE→TE:=tCmp fun i j=>decide (j < i)
abbrev tGe : TE→TE→TE:=tCmp fun i j=>decide (j≤i)
abbrev tEqI : TE→TE→TE:=tCmp fun i j=>decide (i = j)
abbrev tNeI : TE→TE→TE:=tCmp fun i j=>!decide (i = j)
def tIsN (ta : TE) : TE:=fun σ H Q=>ta σ H fun x H1=>Q (.bl (decide (x = .non))) H1
def tNotN (ta : TE) : TE:=fun σ H Q=>ta σ H fun x H1=>Q (.bl (!decide (x = .non))) H1
def tB (t : TE) : TT:=fun σ H Q=>t σ H fun x H1=>∃ c,x = .bl c∧Q c H1
theorem zfe {e : Expr} {t : TE} (h : PE X e t) (he : ∀ whole,isTrue e X.env whole = (do let v ← whole; standAt e.pos; holding [v] (truthy v)):=by intro _; rfl) : PT X e (tB t):=by
  intro pins s σ H Q I hw
  refine isTrue_plain (thn (h pins s σ H _ I hw) fun v s1 ⟨x,H1,I1,r1,q1⟩=>?_) (he _)
  obtain ⟨d,rfl,q⟩:=q1
  cases r1
  exact wpAny_truthy_bool ⟨H1,I1,q⟩
variable {tA tB' : TT} {rest : List Expr}
def tAnd (t u : TT) : TT:=fun σ H Q=>t σ H fun c H1=>if c = true then u σ H1 Q else Q false H1
def tOr (t u : TT) : TT:=fun σ H Q=>t σ H fun c H1=>if c = true then Q true H1 else u σ H1 Q
def tNot (t : TT) : TT:=fun σ H Q=>t σ H fun c H1=>Q (!c) H1
theorem zgn (ha : PT X a tA) : PW X (.BoolOp .And [a] pos) tA:=by
  intro wh pins s σ H Q I h
  refine isTrue_and (thn (ha pins s σ H Q I h) fun c s1 e=>?_)
  cases c with
  | true=>exact isTrue_and_nil e
  | false=>exact e
theorem znn (ha : PT X a tA) : PW X (.BoolOp .Or [a] pos) tA:=by
  intro wh pins s σ H Q I h
  refine isTrue_or (thn (ha pins s σ H Q I h) fun c s1 e=>?_)
  cases c with
  | false=>exact isTrue_or_nil e
  | true=>exact e
theorem ziP (ha : PT X a tA) (hb : PW X (.BoolOp .And (b :: rest) pos) tB') : PW X (.BoolOp .And (a :: b :: rest) pos) (tAnd tA tB'):=by
  intro wh pins s σ H Q I h
  refine isTrue_and (thn (ha pins s σ H _ I h) fun c s1 ⟨H1,I1,q1⟩=>?_)
  cases c with
  | true=>exact hb wh pins s1 σ H1 Q I1 q1
  | false=>exact ⟨H1,I1,q1⟩
theorem pw_or (ha : PT X a tA) (hb : PW X (.BoolOp .Or (b :: rest) pos) tB') : PW X (.BoolOp .Or (a :: b :: rest) pos) (tOr tA tB'):=by
  intro wh pins s σ H Q I h
  refine isTrue_or (thn (ha pins s σ H _ I h) fun c s1 ⟨H1,I1,q1⟩=>?_)
  cases c with
  | true=>exact ⟨H1,I1,q1⟩
  | false=>exact hb wh pins s1 σ H1 Q I1 q1
theorem ziR (ha : PT X a tA) : PT X (.UnaryOp .Not a pos) (tNot tA):=by
  intro pins s σ H Q I h
  exact isTrue_not (ha pins s σ H (fun c H1=>Q (!c) H1) I h)
def tAndV (ta tb : TE) : TE:=fun σ H Q=>ta σ H fun x H1=>∃ c,x = .bl c∧if c = true then tb σ H1 Q else Q (.bl false) H1
def tOrV (ta tb : TE) : TE:=fun σ H Q=>ta σ H fun x H1=>∃ c,x = .bl c∧if c = true then Q (.bl true) H1 else tb σ H1 Q
def tNotV (ta : TE) : TE:=fun σ H Q=>ta σ H fun x H1=>∃ c,x = .bl c∧Q (.bl (!c)) H1
theorem zkG {op} {t : TE} (h : PE X a t) : PE X (.BoolOp op [a] pos) t:=fun pins s σ H Q I hw=>BoolOp_one (h pins s σ H Q I hw)
theorem zkJ (ha : PE X a ta) (hb : PE X (.BoolOp .And (b :: rest) pos) tb) : PE X (.BoolOp .And (a :: b :: rest) pos) (tAndV ta tb):=by
  intro pins s σ H Q I h
  refine BoolOp_and (thn (ha pins s σ H _ I h) fun v s1 ⟨x,H1,I1,r1,q1⟩=>?_)
  obtain ⟨c,rfl,q1⟩:=q1
  cases r1
  refine wpAny_truthy_bool ?_
  cases c with
  | true=>exact hb pins s1 σ H1 Q I1 q1
  | false=>exact ⟨.bl false,H1,I1,rfl,q1⟩
theorem pe_not (ha : PE X a ta) : PE X (.UnaryOp .Not a pos) (tNotV ta):=by
  intro pins s σ H Q I h
  refine UnaryOp_ (thn (ha pins s σ H _ I h) fun v s1 ⟨x,H1,I1,r1,q1⟩=>?_)
  obtain ⟨c,rfl,q1⟩:=q1
  cases r1
  exact not_of (wpAny_truthy_bool ⟨.bl (!c),H1,I1,rfl,q1⟩)
def tIf (t : TT) (ta tb : TE) : TE:=fun σ H Q=>t σ H fun c H1=>if c = true then ta σ H1 Q else tb σ H1 Q
theorem ziT {c : Expr} (hc : PT X c tA) (ha : PE X a ta) (hb : PE X b tb) : PE X (.IfExp c a b pos) (tIf tA ta tb):=by
  intro pins s σ H Q I h
  refine wpAny_IfExp (thn (hc pins s σ H _ I h) fun d s1 ⟨H1,I1,q1⟩=>?_)
  cases d with
  | true=>exact ha pins s1 σ H1 Q I1 q1
  | false=>exact hb pins s1 σ H1 Q I1 q1
end
end L2
namespace L2
open PySem PySem.Spec PyProof.Rows
def SqL (K : PySem.W.Frag) (H : Hp) (a : Addr) (xs : List V) : Prop:=
  Rd H a (.lst xs)∨
    ∃ (o : Obj) (its : Array Value) (n : Nat),K.lookup a = some o∧o.cls = .type "list"∧o.dict = none∧o.data = .seq its n∧its.size≤sizeLine∧Vals xs its.toList
def SqT (K : PySem.W.Frag) (H : Hp) (a : Addr) (xs : List V) : Prop:=
  Rd H a (.tup xs)∨
    ∃ (o : Obj) (its : Array Value) (n : Nat),K.lookup a = some o∧o.cls = .type "tuple"∧o.data = .seq its n∧its.size≤sizeLine∧Vals xs its.toList
def absV : Value→Option V
  | .none=>some .non
  | .bool b=>some (.bl b)
  | .int i _=>some (.int i)
  | .str x _=>some (.str x)
  | .bytes b _=>some (.byt b)
  | .float b _=>some (.flt b)
  | .ref a=>some (.ref a)
  | .type n=>some (.ty n)
  | _=>none
theorem RelV.abs {x : V} {u : Value} (r : RelV x u) : absV u = some x:=by
  cases x with
  | non=>cases r; rfl
  | bl _=>cases r; rfl
  | int _=>obtain ⟨t,rfl⟩:=r; rfl
  | str _=>obtain ⟨t,rfl⟩:=r; rfl
  | byt _=>obtain ⟨t,rfl⟩:=r; rfl
  | flt _=>obtain ⟨t,rfl⟩:=r; rfl
  | ref _=>cases r; rfl
  | ty _=>cases r; rfl
theorem RelV.inj {x y : V} {u : Value} (r : RelV x u) (q : RelV y u) : x = y:=Option.some.inj (r.abs.symm.trans q.abs)
theorem Vals.inj : ∀ {xs ys : List V} {us : List Value},Vals xs us→Vals ys us→xs = ys
  | _,_,_,.nil,.nil=>rfl
  | _,_,_,.cons r t,.cons r' t'=>by rw [r.inj r',Vals.inj t t']
section
variable {X : Cx} {pins : List (Addr×Obj)} {σ : St} {H : Hp} {s : Shared} {a : Addr} {xs ys : List V}
theorem SqL.of {K : PySem.W.Frag} (h : H a = some (.lst xs)) : SqL K H a xs:=.inl (.inl h)
theorem SqT.of {K : PySem.W.Frag} (h : H a = some (.tup xs)) : SqT K H a xs:=.inl (.inl h)
theorem Inv.list (I : Inv X pins σ H s) (h : SqL X.K H a xs) : ∃ its : List Value,Vals xs its∧PlainL s.heap a its.toArray∧xs.length≤sizeLine:=by
  rcases h with h | ⟨o,its,n,hk,hc,hd,hs,hz,r⟩
  · obtain ⟨z,its,n,r,e⟩:=h.ok I.hok
    exact ⟨its,r,⟨_,n,e,rfl,rfl,rfl⟩,z⟩
  · refine ⟨its.toList,r,⟨o,n,I.kIn a o hk,hc,hd,by simpa using hs⟩,?_⟩
    have e:=r.length
    simp only [Array.length_toList] at e
    omega
theorem Inv.tuple (I : Inv X pins σ H s) (h : SqT X.K H a xs) : ∃ its : List Value,Vals xs its∧IsTup s.heap a its.toArray∧xs.length≤sizeLine:=by
  rcases h with h | ⟨o,its,n,hk,hc,hs,hz,r⟩
  · obtain ⟨z,its,r,p⟩:=h.ok I.hok
    exact ⟨its,r,p,z⟩
  · refine ⟨its.toList,r,⟨o,I.kIn a o hk,hc,n,by simpa using hs⟩,?_⟩
    have e:=r.length
    simp only [Array.length_toList] at e
    omega
theorem Inv.list_inj (I : Inv X pins σ H s) (h : SqL X.K H a xs) (h' : SqL X.K H a ys) : xs = ys:=by
  obtain ⟨its,r,⟨o,n,e,_,_,d⟩,_⟩:=I.list h
  obtain ⟨its',r',⟨o',n',e',_,_,d'⟩,_⟩:=I.list h'
  rw [e] at e'; cases e'
  rw [d] at d'
  injection d' with d1 _
  have : its = its':=by simpa using congrArg Array.toList d1
  subst this
  exact r.inj r'
theorem Inv.tuple_inj (I : Inv X pins σ H s) (h : SqT X.K H a xs) (h' : SqT X.K H a ys) : xs = ys:=by
  obtain ⟨its,r,⟨o,e,_,n,d⟩,_⟩:=I.tuple h
  obtain ⟨its',r',⟨o',e',_,n',d'⟩,_⟩:=I.tuple h'
  rw [e] at e'; cases e'
  rw [d] at d'
  injection d' with d1 _
  have : its = its':=by simpa using congrArg Array.toList d1
  subst this
  exact r.inj r'
end
abbrev Cx.wish (X : Cx) (E : Value→Shared→Prop) : Cx:={ X with xe:=E }
abbrev Cx.nox (X : Cx) : Cx:=X.wish fun _ _=>False
theorem Cx.Ok.wish {X : Cx} (ok : X.Ok) (E : Value→Shared→Prop) : (X.wish E).Ok:=
  ⟨ok.mod,ok.kind,ok.glob,ok.blt,ok.above,ok.inj,ok.has,ok.cab,ok.hd,ok.frames,ok.stk,ok.exf,ok.bs,ok.bsz,ok.noex,ok.exfs,ok.funs,ok.frf⟩
theorem Cx.Ok.unwish {X : Cx} {E : Value→Shared→Prop} (ok : (X.wish E).Ok) : X.Ok:=
  ⟨ok.mod,ok.kind,ok.glob,ok.blt,ok.above,ok.inj,ok.has,ok.cab,ok.hd,ok.frames,ok.stk,ok.exf,ok.bs,ok.bsz,ok.noex,ok.exfs,ok.funs,ok.frf⟩
section
variable {X : Cx} {pins : List (Addr×Obj)} {σ : St} {H : Hp} {s : Shared} {E : Value→Shared→Prop}
theorem Inv.wish (I : Inv X pins σ H s) (E : Value→Shared→Prop) : Inv (X.wish E) pins σ H s:=⟨I.ok.wish E,I.os,I.bare,I.base,I.loc,I.cell,I.free,I.freeC,I.pin,I.hok,I.len⟩
theorem Inv.unwish (I : Inv (X.wish E) pins σ H s) : Inv X pins σ H s:=⟨I.ok.unwish,I.os,I.bare,I.base,I.loc,I.cell,I.free,I.freeC,I.pin,I.hok,I.len⟩
theorem SP.unwish {D : Ends} {f : Flow} {s' : Shared} (h : SP (X.wish E) pins D f s') : SP X pins D f s':=by
  cases f with
  | next=>obtain ⟨σ',H',I,q⟩:=h; exact ⟨σ',H',I.unwish,q⟩
  | brk=>obtain ⟨σ',H',I,q⟩:=h; exact ⟨σ',H',I.unwish,q⟩
  | cont=>obtain ⟨σ',H',I,q⟩:=h; exact ⟨σ',H',I.unwish,q⟩
  | ret u=>obtain ⟨v,σ',H',I,r,q⟩:=h; exact ⟨v,σ',H',I.unwish,r,q⟩
theorem PE.nox {e : Expr} {t : TE} (h : PE X.nox e t) : PE X e t:=fun pins s σ H Q I hw=>
  wpAny_mono (h pins s σ H Q (I.wish _) hw) (fun _ _ ⟨v,H',I',r,q⟩=>⟨v,H',I'.unwish,r,q⟩) fun _ _ z=>False.elim z
theorem PT.nox {e : Expr} {t : TT} (h : PT X.nox e t) : PT X e t:=fun pins s σ H Q I hw=>
  wpAny_mono (h pins s σ H Q (I.wish _) hw) (fun _ _ ⟨H',I',q⟩=>⟨H',I'.unwish,q⟩) fun _ _ z=>False.elim z
theorem PSs.nox {st : List Stmt} {t : TS} (h : PSs X.nox st t) : PSs X st t:=fun pins s σ H D I hw=>
  wpAny_mono (h pins s σ H D (I.wish _) hw) (fun _ _ q=>q.unwish) fun _ _ z=>False.elim z
end
section
variable {X : Cx} {st : Stmt} {rest : List Stmt} {t u : TS} {e : Expr} {te : TE} {pos : Pos}
def tNext : TS:=fun D σ H=>D.nx σ H
def tSeq (t u : TS) : TS:=fun D σ H=>t { D with nx:=u D } σ H
theorem zaN : PSs X [] tNext:=fun _ _ σ H _ I h=>wpAny_execs_nil ⟨σ,H,I,h⟩
theorem zaf (h1 : PS X st t) (h2 : PSs X rest u) : PSs X (st :: rest) (tSeq t u):=by
  intro pins s σ H D I h
  refine wpAny_execs_cons (thn (h1 pins s σ H { D with nx:=u D } I h) fun f s1 q=>?_)
  cases f with
  | next=>
    obtain ⟨σ',H',I',q⟩:=q
    exact h2 pins s1 σ' H' D I' q
  | ret v=>exact q
  | brk=>exact q
  | cont=>exact q
theorem zah (h1 : PS X st t) : PSs X [st] t:=by
  intro pins s σ H D I h
  refine wpAny_execs_cons (thn (h1 pins s σ H D I h) fun f s1 q=>?_)
  cases f with
  | next=>exact wpAny_execs_nil q
  | ret v=>exact q
  | brk=>exact q
  | cont=>exact q
def tBreak : TS:=fun D σ H=>D.bk σ H
def tCont : TS:=fun D σ H=>D.ct σ H
theorem Inv.quiet {pins : List (Addr×Obj)} {σ : St} {H : Hp} {s : Shared} (I : Inv X pins σ H s) : interactive X.env = false:=by simp [interactive,I.ok.kind]
def tDrop (te : TE) : TS:=fun D σ H=>te σ H fun _ H1=>D.nx σ H1
theorem zbu (he : PE X e te) (hs : swapsWith e none pos.line X.env = pure false:=by rfl) : PS X (.Expr e pos) (tDrop te):=by
  intro pins s σ H D I h
  exact wpAny_Expr_any (thn (he pins s σ H _ I h) fun v s1 ⟨x,H1,I1,r1,q1⟩=>⟨σ,H1,I1,q1⟩) I.quiet hs
def tRet (te : TE) : TS:=fun D σ H=>te σ H D.rt
theorem zat (he : PE X e te) : PS X (.Return (some e) pos) (tRet te):=by
  intro pins s σ H D I h
  exact wpAny_Return_some (thn (he pins s σ H _ I h) fun v s1 ⟨x,H1,I1,r1,q1⟩=>⟨x,σ,H1,I1,r1,q1⟩)
def tRetN : TS:=fun D _ H=>D.rt .non H
def tIfS (c : TT) (t u : TS) : TS:=fun D σ H=>c σ H fun b H1=>if b = true then t D σ H1 else u D σ H1
theorem zbO {c : Expr} {a b : List Stmt} {tc : TT} (hc : PT X c tc) (ha : PSs X a t) (hb : PSs X b u) : PS X (.If c a b pos) (tIfS tc t u):=by
  intro pins s σ H D I h
  refine wpAny_If (thn (hc pins s σ H _ I h) fun d s1 ⟨H1,I1,q1⟩=>?_)
  cases d with
  | true=>exact ha pins s1 σ H1 D I1 q1
  | false=>exact hb pins s1 σ H1 D I1 q1
def tNever : TS:=fun _ _ _=>False
theorem zmf : PS X st tNever:=fun _ _ _ _ _ _ h=>h.elim
end
abbrev TG:=V→St→Hp→(St→Hp→Prop)→Prop
abbrev TGs:=List V→St→Hp→(St→Hp→Prop)→Prop
def PG (X : Cx) (target : Expr) (t : TG) : Prop:=
  ∀ (pins : List (Addr×Obj)) (s : Shared) (σ : St) (H : Hp) (v : V) (u : Value) (Q : St→Hp→Prop),Inv X pins σ H s→RelV v u→t v σ H Q→
    wpAny (model X.prog X.w) X.A (assign target X.env u) (fun _ s'=>∃ σ' H',Inv X pins σ' H' s'∧Q σ' H') X.xe s
def PGs (X : Cx) (ts : List Expr) (t : TGs) : Prop:=
  ∀ (pins : List (Addr×Obj)) (s : Shared) (σ : St) (H : Hp) (vs : List V) (us : List Value) (Q : St→Hp→Prop),Inv X pins σ H s→Vals vs us→t vs σ H Q→
    wpAny (model X.prog X.w) X.A (assignInOrder ((assignEach ts X.env).map (·.2)) us) (fun _ s'=>∃ σ' H',Inv X pins σ' H' s'∧Q σ' H') X.xe s
abbrev TSet:=V→V→V→Hp→(Hp→Prop)→Prop
def PSet (X : Cx) (t : TSet) : Prop:=
  ∀ (pins : List (Addr×Obj)) (s : Shared) (σ : St) (H : Hp) (o i v : V) (ov iv u : Value) (Q : Hp→Prop),Inv X pins σ H s→RelV o ov→RelV i iv→RelV v u→t o i v H Q→
    wpAny (model X.prog X.w) X.A (setItem ov iv u) (fun _ s'=>∃ H',Inv X pins σ H' s'∧Q H') X.xe s
abbrev TIp:=V→V→Hp→VK→Prop
def PIp (X : Cx) (op : Operator) (t : TIp) : Prop:=
  ∀ (pins : List (Addr×Obj)) (s : Shared) (σ : St) (H : Hp) (x y : V) (v u : Value) (Q : VK),Inv X pins σ H s→RelV x v→RelV y u→t x y H Q→
    wpAny (model X.prog X.w) X.A (inplaceOp op v u) (EP X pins σ Q) X.xe s
section
variable {X : Cx} {pos : Pos}
def zlx (i : Nat) : TG:=fun v σ H Q=>Q (σ.set i (some v)) H
theorem zas {i : Nat} {x : Str} (hN : X.N.Nodup) (hi : X.N[i]? = some x) (hx : Loc X.env.scope x) (hf : X.fn x = true∨X.env.scope.names.lookup x = some .local:=by first | exact .inl rfl | exact .inr rfl | assumption) : PG X (.Name x pos) (zlx i):=by
  intro pins s σ H v u Q I r h
  exact wpAny_assign_Name (zeI I hN hi hx r (fun s' I'=>⟨_,H,I',h⟩) hf)
def gNil : TGs:=fun vs σ H Q=>vs = []∧Q σ H
def gCons (t : TG) (u : TGs) : TGs:=fun vs σ H Q=>∃ v r,vs = v :: r∧t v σ H fun σ' H'=>u r σ' H' Q
theorem zek : PGs X [] gNil:=by
  intro pins s σ H vs us Q I r h
  obtain ⟨e,h⟩:=h
  subst e
  cases r
  exact assignInOrder_nil ⟨σ,H,I,h⟩
theorem zbm {e : Expr} {es : List Expr} {t : TG} {u : TGs} (h1 : PG X e t) (h2 : PGs X es u)
    (hs : (assignEach (e :: es) X.env).map (·.2) = assign e X.env :: (assignEach es X.env).map (·.2):=by rfl) : PGs X (e :: es) (gCons t u):=by
  intro pins s σ H vs us Q I r h
  obtain ⟨v,vr,e1,h⟩:=h
  subst e1
  cases r with
  | cons r rr=>
    rw [hs]
    refine assignInOrder_cons (thn (h1 pins s σ H _ _ _ I r h) fun _ s1 ⟨σ1,H1,I1,q1⟩=>?_)
    exact h2 pins s1 σ1 H1 _ _ Q I1 rr q1
def gTup (K : PySem.W.Frag) (n : Nat) (t : TGs) : TG:=fun v σ H Q=>∃ a xs,v = .ref a∧SqT K H a xs∧xs.length = n∧t xs σ H Q
theorem zg6 {es : List Expr} {k : Nat} {t : TGs} {n : Nat} (hc : X.calm = true) (h : PGs X es t)
    (hn : (assignEach es X.env).length = n:=by rfl) (hst : (assignEach es X.env).findIdx? (·.1) = none:=by rfl) : PG X (.Tuple es k pos) (gTup X.K n t):=by
  intro pins s σ H v u Q I r hw
  obtain ⟨a,xs,e1,hq,hl,hw⟩:=hw
  subst e1
  cases r
  obtain ⟨its,rv,ht,hz⟩:=I.tuple hq
  refine assign_Tuple_tuple (I.ok.hd hc) ht (by simp [hn,← hl,rv.length]) hst fun h' hx=>?_
  have I1 : Inv X pins σ H { s with heap:=h' }:=I.kept (t':=s.toks) fun b o e=>hx b o (Nat.ne_of_lt (Heap.lt_size e)) e
  exact h pins _ σ H xs _ Q I1 (by simpa using rv) hw
def gSub (to ti : TE) (t : TSet) : TG:=fun v σ H Q=>to σ H fun o H1=>ti σ H1 fun i H2=>t o i v H2 fun H3=>Q σ H3
theorem znr {o i : Expr} {to ti : TE} {t : TSet} (ho : PE X o to) (hi : PE X i ti) (hs : PSet X t)
    (ha : ∀ v,assign (.Subscript o i pos) X.env v = (do
      let ov ← holding [v] (eval o X.env)
      let iv ← holding [v,ov] (eval i X.env)
      standAt pos
      holding [v,ov,iv] (setItem ov iv v)
      release [v,ov,iv] []):=by intro _; rfl) : PG X (.Subscript o i pos) (gSub to ti t):=by
  intro pins s σ H v u Q I r h
  rw [ha]
  refine wpAny_bind (wpAny_holding (thn (ho pins s σ H _ I h) fun ov s1 ⟨x,H1,I1,r1,q1⟩=>?_))
  refine wpAny_bind (wpAny_holding (thn (hi pins s1 σ H1 _ I1 q1) fun iv s2 ⟨y,H2,I2,r2,q2⟩=>?_))
  refine wpAny_bind (wpAny_standAt (wpAny_bind (wpAny_holding (thn (hs pins s2 σ H2 x y v ov iv u _ I2 r1 r2 r q2) fun _ s3 ⟨H3,I3,q3⟩=>?_))))
  exact wpAny_release ⟨σ,H3,I3,q3⟩
def tAsg (te : TE) (g : TG) : TS:=fun D σ H=>te σ H fun x H1=>g x σ H1 D.nx
theorem znp {tg e : Expr} {te : TE} {g : TG} (he : PE X e te) (hg : PG X tg g) (hs : swapsWithSole [tg] e pos.line X.env = pure false:=by rfl) (hw : swappedStores [tg] e X.env = pure none:=by rfl)
    (h1 : (assignEach [tg] X.env).map (·.2) = [assign tg X.env]:=by rfl) : PS X (.Assign [tg] e pos) (tAsg te g):=by
  intro pins s σ H D I h
  refine wpAny_Assign_stores (thn (he pins s σ H _ I h) fun v s1 ⟨x,H1,I1,r1,q1⟩=>?_) hs hw
  rw [h1]
  exact thn (hg pins s1 σ H1 x v _ I1 r1 q1) fun _ s2 q=>q
theorem zaq {i : Nat} {x : Str} {e : Expr} {te : TE} {pos' : Pos} (hN : X.N.Nodup) (hi : X.N[i]? = some x) (hx : Loc X.env.scope x) (he : PE X e te) (hs : swapsWith e (some (.Name x pos')) pos.line X.env = pure false:=by rfl) (hf : X.fn x = true∨X.env.scope.names.lookup x = some .local:=by first | exact .inl rfl | exact .inr rfl | assumption) :
    PS X (.Assign [.Name x pos'] e pos) (tAsg te (zlx i)):=by
  intro pins s σ H D I h
  refine wpAny_Assign_Name (thn (he pins s σ H _ I h) fun v s1 ⟨y,H1,I1,r1,q1⟩=>?_) hs
  exact zeI I1 hN hi hx r1 (fun s2 I2=>⟨_,H1,I2,q1⟩) hf
def tPar (i j : Nat) (ta : TA) : TS:=fun D σ H=>ta σ H fun vs H1=>∃ v w,vs = [v,w]∧D.nx ((σ.set i (some v)).set j (some w)) H1
def tAug (i : Nat) (te : TE) (ti : TIp) : TS:=fun D σ H=>∃ x,σ[i]? = some (some x)∧te σ H fun y H1=>ti x y H1 fun z H2=>D.nx (σ.set i (some z)) H2
def tAugS (to ti te : TE) (tget : V→V→Hp→VK→Prop) (tip : TIp) (tset : TSet) : TS:=fun D σ H=>to σ H fun o H1=>ti σ H1 fun i H2=>tget o i H2 fun x H3=>te σ H3 fun y H4=>tip x y H4 fun z H5=>tset o i z H5 fun H6=>D.nx σ H6
def PGet (X : Cx) (t : V→V→Hp→VK→Prop) : Prop:=
  ∀ (pins : List (Addr×Obj)) (s : Shared) (σ : St) (H : Hp) (o i : V) (ov iv : Value) (Q : VK),Inv X pins σ H s→RelV o ov→RelV i iv→t o i H Q→
    wpAny (model X.prog X.w) X.A (getItem ov iv) (EP X pins σ Q) X.xe s
def ipI (f : Int→Int→Int) : TIp:=fun x y H Q=>∃ i j,x = .int i∧y = .int j∧Q (.int (f i j)) H
end
section
variable {X : Cx} {pos : Pos}
def zke (c : TT) (tb : TS) : TS:=fun D σ H=>∃ W : Nat→St→Hp→Prop,(∃ m,W m σ H)∧∀ m σ H,W m σ H→
  c σ H fun b H1=>if b = true then ∃ N : St→Hp→Prop,(∀ σ' H',N σ' H'→∃ m',m' < m∧W m' σ' H')∧tb { D with nx:=N,ct:=N,bk:=D.nx } σ H1 else D.nx σ H1
theorem zeX {c : Expr} {body : List Stmt} {tc : TT} {tb : TS} (hp : PassesOwn (model X.prog X.w) X.A X.env X.xe) (hc : PT X c tc) (hb : PSs X body tb) : PS X (.While c body [] pos) (zke tc tb):=by
  intro pins s σ H D I h
  obtain ⟨W,⟨m0,w0⟩,turn⟩:=h
  refine wpAny_While (codeAny_whileLoop (fun n s'=>∃ σ' H',Inv X pins σ' H' s'∧W n σ' H') ?_ m0 ⟨σ,H,I,w0⟩)
  rintro n s1 ⟨σ1,H1,I1,w1⟩
  refine wpAny_passesOwn hp (thn (hc pins s1 σ1 H1 _ I1 (turn n σ1 H1 w1)) fun b s2 ⟨H2,I2,q2⟩=>?_)
  cases b with
  | true=>
    obtain ⟨N,hN,q2⟩:=q2
    rw [if_pos rfl]
    refine wpAny_passesOwn hp (thn (hb pins s2 σ1 H2 _ I2 q2) fun f s3 q3=>?_)
    cases f with
    | next=>
      obtain ⟨σ3,H3,I3,n3⟩:=q3
      obtain ⟨m',hm,w3⟩:=hN σ3 H3 n3
      exact ⟨m',hm,σ3,H3,I3,w3⟩
    | cont=>
      obtain ⟨σ3,H3,I3,n3⟩:=q3
      obtain ⟨m',hm,w3⟩:=hN σ3 H3 n3
      exact ⟨m',hm,σ3,H3,I3,w3⟩
    | brk=>exact q3
    | ret v=>exact q3
  | false=>
    rw [if_neg Bool.false_ne_true]
    exact wpAny_execs_nil ⟨σ1,H2,I2,q2⟩
end
structure It where
  go : Nat→Hp→Prop
  yld : Nat→Hp→V→Hp→Prop
  stop : Nat→Hp→Prop
def FpOk (X : Cx) (pins : List (Addr×Obj)) (H : Hp) (b : Addr) : Prop:=
  H b = none∧b≠X.env.locals∧b∉X.fs∧(b∈X.ex∨X.s₀.heap.objs.size≤b)∧(∀ x c,X.env.cells.lookup x = some c→c≠b)∧∀ p∈X.pn ++ pins,p.1≠b
theorem Inv.fpOk {X : Cx} {pins : List (Addr×Obj)} {σ : St} {H H' : Hp} {s : Shared} {b : Addr} (I : Inv X pins σ H s) (hb : s.heap.objs.size≤b) (hn : H' b = none) : FpOk X pins H' b:=by
  refine ⟨hn,Nat.ne_of_gt (Nat.lt_of_lt_of_le I.lt hb),I.nofs hb,.inr (Nat.le_trans I.sz hb),fun x c e z=>?_,fun p hp z=>?_⟩
  · obtain ⟨v,q⟩:=I.cell x c e
    exact absurd (Nat.lt_of_lt_of_le q.lt (by rw [z]; exact hb)) (Nat.lt_irrefl _)
  · exact absurd (Nat.lt_of_lt_of_le (Heap.lt_size (I.pin p hp).1) (by rw [z]; exact hb)) (Nat.lt_irrefl _)
structure Turn (P : Program) (w : World) (K : PySem.W.Frag) (tg : Expr) (J : It) (fp : List Addr) (it : Addr) (tn : Nat→Heap→Prop) : Prop where
  mem : it∈fp
  obj : ∀ i h,tn i h→∀ b∈fp,∃ o,h.get? b = some o∧∀ v,o.data≠.cell v
  keep : ∀ i h h',tn i h→(∀ b∈fp,∀ o,h.get? b = some o→h'.get? b = some o)→tn i h'
  item : ∀ (X : Cx),X.prog = P→X.w = w→X.K = K→X.calm = true→∀ (i : Nat) (pins : List (Addr×Obj)) (s : Shared) (σ : St) (H : Hp) (E : Value→Shared→Prop),Inv X pins σ H s→(∀ b∈fp,FpOk X pins H b)→tn i s.heap→J.go i H→
    wpAny (model P w) X.A (pyNext (.ref it)) (fun r s1=>∃ u,r = some u∧
      wpAny (model P w) X.A (letOwnedTupleGo tg (.ref it) u) (fun _ s2=>∃ x H',Inv X pins σ H' s2∧RelV x u∧J.yld i H x H'∧tn (i + 1) s2.heap∧∀ b∈fp,H' b = none) E s1) E s
  done : ∀ (X : Cx),X.prog = P→X.w = w→X.K = K→X.calm = true→∀ (i : Nat) (pins : List (Addr×Obj)) (s : Shared) (σ : St) (H : Hp) (E : Value→Shared→Prop),Inv X pins σ H s→(∀ b∈fp,FpOk X pins H b)→tn i s.heap→J.stop i H→
    wpAny (model P w) X.A (pyNext (.ref it)) (fun r s1=>r = none∧Inv X pins σ H s1) E s
  self : ∀ (A : Around) (i : Nat) (s : Shared) (Q : Value→Shared→Prop) (E : Value→Shared→Prop),tn i s.heap→Q (.ref it) s→wpAny (model P w) A (pyIter (.ref it)) Q E s
abbrev TI:=St→Hp→(It→Hp→Prop)→Prop
def PIE (X : Cx) (pins : List (Addr×Obj)) (σ : St) (tg : Expr) (R : It→Hp→Prop) (itv : Value) (s2 : Shared) : Prop:=
  ∃ (it : Addr) (fp : List Addr) (tn : Nat→Heap→Prop) (J : It) (H' : Hp),itv = .ref it∧Inv X pins σ H' s2∧Turn X.prog X.w X.K tg J fp it tn∧tn 0 s2.heap∧(∀ b∈fp,FpOk X pins H' b)∧R J H'
def PI (X : Cx) (tg iter : Expr) (wi : TI) : Prop:=
  ∀ (pins : List (Addr×Obj)) (s : Shared) (σ : St) (H : Hp) (R : It→Hp→Prop),Inv X pins σ H s→wi σ H R→
    wpAny (model X.prog X.w) X.A (eval iter X.env) (fun v s1=>wpAny (model X.prog X.w) X.A (pyIter v) (PIE X pins σ tg R) X.xe s1) X.xe s
theorem zmU {M : Model} {A : Around} {E : Value→Shared→Prop} {s : Shared} {tg : Expr} {it : Addr} {u : Value} {o : Obj} {n : String} {vs : Array Value} {Q : Unit→Shared→Prop} (ho : s.heap.get? it = some o) (hc : o.cls = .type n) (hd : o.data = .fields vs)
    (hn : ["enumerate","zip","dict_itemiterator","dict_reverseitemiterator","odict_iterator","itertools.zip_longest","itertools.pairwise"].contains n = false) (hQ : Q () s) : wpAny M A (letOwnedTupleGo tg (.ref it) u) Q E s:=by
  unfold letOwnedTupleGo
  cases tg <;> first
    | exact wpAny_pure hQ
    | (cases u <;> first
        | exact wpAny_pure hQ
        | (refine wpAny_bind (wpAny_load ho ?_)
           rw [hc,hd]
           show wpAny M A (if (["enumerate","zip","dict_itemiterator","dict_reverseitemiterator","odict_iterator","itertools.zip_longest","itertools.pairwise"].contains n && vs[0]? == some (rawInt _)) = true then _ else _) Q E s
           rw [if_neg (by intro h; rw [hn,Bool.false_and] at h; cases h)]
           exact wpAny_pure hQ))
def Itl (K : PySem.W.Frag) (a : Addr) : It:=
  ⟨fun i H=>∃ xs x,SqL K H a xs∧xs[i]? = some x,fun i H x H'=>H' = H∧∀ xs,SqL K H a xs→xs[i]? = some x,fun i H=>∃ xs,SqL K H a xs∧xs.length≤i⟩
def Itt (K : PySem.W.Frag) (a : Addr) : It:=
  ⟨fun i H=>∃ xs x,SqT K H a xs∧xs[i]? = some x,fun i H x H'=>H' = H∧∀ xs,SqT K H a xs→xs[i]? = some x,fun i H=>∃ xs,SqT K H a xs∧xs.length≤i⟩
def Itr (lo : Int) (n : Nat) : It:=⟨fun i _=>i < n,fun i H x H'=>H' = H∧x = .int (lo + i),fun i _=>n≤i⟩
theorem zj6 {P : Program} {w : World} {K : PySem.W.Frag} {tg : Expr} (a it : Addr) : Turn P w K tg (Itl K a) [it] it (fun i h=>h.IsListIter it a i) where
  mem:=by simp
  obj:=fun i h st b hb=>by
    have e : b = it:=by simpa using hb
    subst e
    obtain ⟨o,e,c,d⟩:=st
    exact ⟨o,e,fun v z=>by rw [d] at z; cases z⟩
  keep:=fun i h h' st k=>st.at fun o e=>k it (by simp) o e
  item:=by
    intro X hP hw hK hc i pins s σ H E I hf st hg
    subst hP hw hK
    obtain ⟨xs,x,hq,hx⟩:=hg
    obtain ⟨its,rv,p,hz⟩:=I.list hq
    obtain ⟨u,hu,ru⟩:=rv.get hx
    obtain ⟨f0,f1,f2,f3,f4,f5⟩:=hf it (by simp)
    refine wpAny_pyNext_list_item st p.isList (x:=u) (by simpa using hu) fun h' st' sb=>?_
    have I1 : Inv X pins σ H { s with heap:=h' }:=I.turned (t':=s.toks) (fun b o hb e=>(sb.2 b hb).trans e) f0 f1 f3 f4 f5
    obtain ⟨o,e,c,d⟩:=id st'
    exact ⟨u,rfl,zmU (s:={ s with heap:=h' }) e c d (by decide) ⟨x,H,I1,ru,⟨rfl,fun ys hy=>by rw [I.list_inj hy hq]; exact hx⟩,st',fun b hb=>(hf b hb).1⟩⟩
  done:=by
    intro X hP hw hK hc i pins s σ H E I hf st hg
    subst hP hw hK
    obtain ⟨xs,hq,hx⟩:=hg
    obtain ⟨its,rv,p,hz⟩:=I.list hq
    obtain ⟨f0,f1,f2,f3,f4,f5⟩:=hf it (by simp)
    have hl:=rv.length
    exact wpAny_pyNext_list_end (I.ok.hd hc) st p.isList (by simp; omega) fun h' eb=>⟨rfl,I.turned (t':=s.toks) (fun b o hb e=>eb b o hb e) f0 f1 f3 f4 f5⟩
  self:=fun _ _ _ _ _ st h=>wpAny_pyIter_listiter st h
theorem zjo {P : Program} {w : World} {K : PySem.W.Frag} {tg : Expr} (a it : Addr) : Turn P w K tg (Itt K a) [it] it (fun i h=>h.IsTupleIter it a i) where
  mem:=by simp
  obj:=fun i h st b hb=>by
    have e : b = it:=by simpa using hb
    subst e
    obtain ⟨o,e,c,d⟩:=st
    exact ⟨o,e,fun v z=>by rw [d] at z; cases z⟩
  keep:=fun i h h' st k=>st.at fun o e=>k it (by simp) o e
  item:=by
    intro X hP hw hK hc i pins s σ H E I hf st hg
    subst hP hw hK
    obtain ⟨xs,x,hq,hx⟩:=hg
    obtain ⟨its,rv,p,hz⟩:=I.tuple hq
    obtain ⟨u,hu,ru⟩:=rv.get hx
    obtain ⟨f0,f1,f2,f3,f4,f5⟩:=hf it (by simp)
    refine wpAny_pyNext_tuple_item st (show s.heap.IsTuple a its.toArray from p) (x:=u) (by simpa using hu) fun h' st' sb=>?_
    have I1 : Inv X pins σ H { s with heap:=h' }:=I.turned (t':=s.toks) (fun b o hb e=>(sb.2 b hb).trans e) f0 f1 f3 f4 f5
    obtain ⟨o,e,c,d⟩:=id st'
    exact ⟨u,rfl,zmU (s:={ s with heap:=h' }) e c d (by decide) ⟨x,H,I1,ru,⟨rfl,fun ys hy=>by rw [I.tuple_inj hy hq]; exact hx⟩,st',fun b hb=>(hf b hb).1⟩⟩
  done:=by
    intro X hP hw hK hc i pins s σ H E I hf st hg
    subst hP hw hK
    obtain ⟨xs,hq,hx⟩:=hg
    obtain ⟨its,rv,p,hz⟩:=I.tuple hq
    obtain ⟨f0,f1,f2,f3,f4,f5⟩:=hf it (by simp)
    have hl:=rv.length
    exact wpAny_pyNext_tuple_end (I.ok.hd hc) st (show s.heap.IsTuple a its.toArray from p) (by simp; omega) fun h' eb=>⟨rfl,I.turned (t':=s.toks) (fun b o hb e=>eb b o hb e) f0 f1 f3 f4 f5⟩
  self:=fun _ _ _ _ _ st h=>wpAny_pyIter_tupleiter st h
theorem zjp {P : Program} {w : World} {K : PySem.W.Frag} {tg : Expr} (it : Addr) (lo : Int) (n : Nat) : Turn P w K tg (Itr lo n) [it] it (fun i h=>IsRangeIter h it (lo + (i : Nat) * 1) ((n : Int) - (i : Nat)) 1) where
  mem:=by simp
  obj:=fun i h st b hb=>by
    have e : b = it:=by simpa using hb
    subst e
    exact ⟨_,st,fun v z=>by
      have z' : Data.fields _ = Data.cell v:=z
      cases z'⟩
  keep:=fun i h h' st k=>k it (by simp) _ st
  item:=by
    intro X hP hw hK hc i pins s σ H E I hf st hg
    subst hP hw hK
    obtain ⟨f0,f1,f2,f3,f4,f5⟩:=hf it (by simp)
    have W:=Walks.range (prog:=X.prog) (w:=X.w) (I.ok.hd hc) it lo 1 n
    refine W.item i s _ _ hg st fun v h' tk hv st' kk=>?_
    obtain ⟨t,rfl⟩:=hv
    have I1 : Inv X pins σ H { s with heap:=h',toks:=tk }:=I.turned (fun b o hb e=>kk b o (by simpa using hb) e) f0 f1 f3 f4 f5
    refine ⟨_,rfl,zmU (s:={ s with heap:=h',toks:=tk }) (n := "range_iterator") st' rfl rfl (by decide) ⟨.int (lo + i),H,I1,⟨t,?_⟩,⟨rfl,rfl⟩,st',fun b hb=>(hf b hb).1⟩⟩
    rw [Int.mul_one]
  done:=by
    intro X hP hw hK hc i pins s σ H E I hf st hg
    subst hP hw hK
    obtain ⟨f0,f1,f2,f3,f4,f5⟩:=hf it (by simp)
    exact wpAny_pyNext_range_end (I.ok.hd hc) st (by have : n≤i:=hg; omega) fun h' eb=>⟨rfl,I.turned (t':=s.toks) (fun b o hb e=>eb b o hb e) f0 f1 f3 f4 f5⟩
  self:=fun _ _ _ _ _ st h=>wpAny_pyIter_rangeiter st h
end L2
namespace L2
open PySem PySem.Spec PyProof.Rows
section
variable {X : Cx} {tg : Expr}
def iList (K : PySem.W.Frag) (tl : TE) : TI:=fun σ H R=>tl σ H fun x H1=>∃ a,x = .ref a∧(∃ xs,SqL K H1 a xs)∧R (Itl K a) H1
def iTup (K : PySem.W.Frag) (tl : TE) : TI:=fun σ H R=>tl σ H fun x H1=>∃ a,x = .ref a∧(∃ xs,SqT K H1 a xs)∧R (Itt K a) H1
theorem zbD {l : Expr} {tl : TE} (hl : PE X l tl) : PI X tg l (iList X.K tl):=by
  intro pins s σ H R I h
  refine thn (hl pins s σ H _ I h) fun v s1 ⟨x,H1,I1,r1,q1⟩=>?_
  obtain ⟨a,e,⟨xs,hq⟩,q⟩:=q1
  subst e
  cases r1
  obtain ⟨its,rv,p,hz⟩:=I1.list hq
  refine wpAny_pyIter_list p.isList ?_
  refine ⟨s1.heap.objs.size,[s1.heap.objs.size],_,_,H1,rfl,I1.kept (t':=s1.toks) fun b o e=>Heap.get?_push_of_some _ e,zj6 a _,⟨_,Heap.get?_push_size _ rfl,rfl,rfl⟩,fun b hb=>?_,q⟩
  have e : b = s1.heap.objs.size:=by simpa using hb
  subst e
  exact I1.fpOk (Nat.le_refl _) (I1.hok.fresh (Nat.le_refl _))
theorem ziS {l : Expr} {tl : TE} (hl : PE X l tl) : PI X tg l (iTup X.K tl):=by
  intro pins s σ H R I h
  refine thn (hl pins s σ H _ I h) fun v s1 ⟨x,H1,I1,r1,q1⟩=>?_
  obtain ⟨a,e,⟨xs,hq⟩,q⟩:=q1
  subst e
  cases r1
  obtain ⟨its,rv,p,hz⟩:=I1.tuple hq
  refine wpAny_pyIter_tuple (show s1.heap.IsTuple a its.toArray from p) ?_
  refine ⟨s1.heap.objs.size,[s1.heap.objs.size],_,_,H1,rfl,I1.kept (t':=s1.toks) fun b o e=>Heap.get?_push_of_some _ e,zjo a _,⟨_,Heap.get?_push_size _ rfl,rfl,rfl⟩,fun b hb=>?_,q⟩
  have e : b = s1.heap.objs.size:=by simpa using hb
  subst e
  exact I1.fpOk (Nat.le_refl _) (I1.hok.fresh (Nat.le_refl _))
theorem ziO {pins : List (Addr×Obj)} {σ : St} {H : Hp} {s : Shared} {R : It→Hp→Prop} {E : Value→Shared→Prop} {lo hi : Int} {t u v : Tok} {tk : Nat} (I : Inv X pins σ H s) (h1 : -(2 ^ 62)≤lo) (h2 : lo < 2 ^ 62) (h3 : -(2 ^ 62)≤hi) (h4 : hi < 2 ^ 62)
    (q : R (Itr lo (hi - lo).toNat) H) : wpAny (model X.prog X.w) X.A (pyIter (.ref s.heap.objs.size)) (PIE X pins σ tg R) E { s with heap:=s.heap.push { cls:=.type "range",data:=.fields #[.int lo t,.int hi u,.int 1 v] },toks:=tk }:=by
  refine wpAny_pyIter_range (IsRange.new ..) (small_one h1 h2 h3 h4) ?_
  have I1 : Inv X pins σ H { s with heap:=s.heap.push { cls:=.type "range",data:=.fields #[.int lo t,.int hi u,.int 1 v] },toks:=tk }:=I.kept fun b o e=>Heap.get?_push_of_some _ e
  refine ⟨(s.heap.push { cls:=.type "range",data:=.fields #[.int lo t,.int hi u,.int 1 v] }).objs.size,[(s.heap.push { cls:=.type "range",data:=.fields #[.int lo t,.int hi u,.int 1 v] }).objs.size],_,_,H,rfl,
    I1.kept (t':=tk) fun b o e=>Heap.get?_push_of_some _ e,zjp _ lo (hi - lo).toNat,?_,fun b hb=>?_,q⟩
  · have e1 : lo + ((0 : Nat) : Int) * 1 = lo:=by simp
    have e2 : (((hi - lo).toNat : Nat) : Int) - ((0 : Nat) : Int) = Builtin.Range.rangeSize lo hi 1:=by rw [rangeSize_one]; split <;> omega
    show IsRangeIter _ _ (lo + ((0 : Nat) : Int) * 1) ((((hi - lo).toNat : Nat) : Int) - ((0 : Nat) : Int)) 1
    rw [e1,e2]
    exact Heap.get?_push_size _ rfl
  · have e : b = (s.heap.push { cls:=.type "range",data:=.fields #[.int lo t,.int hi u,.int 1 v] }).objs.size:=by simpa using hb
    subst e
    exact I1.fpOk (Nat.le_refl _) (I1.hok.fresh (Nat.le_refl _))
def iRng1 (ta : TA) : TI:=fun σ H R=>ta σ H fun vs H1=>∃ j : Int,vs = [.int j]∧-(2 ^ 62)≤j∧j < 2 ^ 62∧R (Itr 0 j.toNat) H1
def iRng2 (ta : TA) : TI:=fun σ H R=>ta σ H fun vs H1=>∃ i j : Int,vs = [.int i,.int j]∧(-(2 ^ 62)≤i∧i < 2 ^ 62∧-(2 ^ 62)≤j∧j < 2 ^ 62)∧R (Itr i (j - i).toNat) H1
theorem zbC {a : Expr} {ta : TA} {p pos : Pos} (hg : Gl X "range") (hm : X.mg "range" = none) (ha : PA X [a] ta) (hs : starEach [a] X.env = [(false,eval a X.env)]:=by rfl) : PI X tg (.Call (.Name "range" p) [a] [] pos) (iRng1 ta):=by
  intro pins s σ H R I h
  refine Call_ (zdy I hg hm boot_range (PyProof.Rows.callWith_type1 (thn (ha pos pins s σ H _ I h) fun us s1 ⟨vs,H1,I1,r1,q1⟩=>?_) hs rfl))
  obtain ⟨j,e,q1,q2,q⟩:=q1
  subst e
  cases r1 with
  | cons r rr=>
    cases rr
    obtain ⟨t,rfl⟩:=r
    exact call_range_1 (ziO I1 (by omega) (by omega) q1 q2 (by simpa using q))
theorem zc4 {a b : Expr} {ta : TA} {p pos : Pos} (hg : Gl X "range") (hm : X.mg "range" = none) (ha : PA X [a,b] ta) (hs : starEach [a,b] X.env = [(false,eval a X.env),(false,eval b X.env)]:=by rfl) (hs2 : starEach [b] X.env = [(false,eval b X.env)]:=by rfl) :
    PI X tg (.Call (.Name "range" p) [a,b] [] pos) (iRng2 ta):=by
  intro pins s σ H R I h
  refine Call_ (zdy I hg hm boot_range (PyProof.Rows.callWith_type1 (thn (ha pos pins s σ H _ I h) fun us s1 ⟨vs,H1,I1,r1,q1⟩=>?_) (by rw [hs,hs2]) (by rw [hs2]; rfl)))
  obtain ⟨i,j,e,⟨q1,q2,q3,q4⟩,q⟩:=q1
  subst e
  cases r1 with
  | cons r rr=>
    cases rr with
    | cons r' rr=>
      cases rr
      obtain ⟨t,rfl⟩:=r
      obtain ⟨t',rfl⟩:=r'
      exact call_range_2 (ziO I1 q1 q2 q3 q4 q)
def tFor (wi : TI) (g : TG) (tb : TS) : TS:=fun D σ H=>wi σ H fun J H1=>∃ W : Nat→Nat→St→Hp→Prop,(∃ m,W 0 m σ H1)∧∀ i m σ H,W i m σ H→
  (J.stop i H∧D.nx σ H)∨(J.go i H∧∃ N : St→Hp→Prop,(∀ σ' H',N σ' H'→∃ m',m' < m∧W (i + 1) m' σ' H')∧∀ x H',J.yld i H x H'→g x σ H' fun σ2 H2=>tb { D with nx:=N,ct:=N,bk:=D.nx } σ2 H2)
def zfj (fp : List Addr) (h : Heap) : List (Addr×Obj):=fp.filterMap fun b=>(h.get? b).map fun o=>(b,o)
theorem zcy {fp : List Addr} {h : Heap} {b : Addr} {o : Obj} (hb : b∈fp) (e : h.get? b = some o) : (b,o)∈zfj fp h:=List.mem_filterMap.mpr ⟨b,hb,by rw [e]; rfl⟩
theorem zkX {fp : List Addr} {h : Heap} {p : Addr×Obj} (hp : p∈zfj fp h) : p.1∈fp∧h.get? p.1 = some p.2:=by
  obtain ⟨b,hb,e⟩:=List.mem_filterMap.mp hp
  cases q : h.get? b with
  | none=>rw [q] at e; cases e
  | some o=>
    rw [q] at e
    have e' : (b,o) = p:=Option.some.inj e
    subst e'
    exact ⟨hb,q⟩
theorem Inv.pinned {pins : List (Addr×Obj)} {σ : St} {H : Hp} {s : Shared} {fp : List Addr} (I : Inv X pins σ H s) (hf : ∀ b∈fp,FpOk X pins H b) (ho : ∀ b∈fp,∃ o,s.heap.get? b = some o∧∀ v,o.data≠.cell v) : Inv X (pins ++ zfj fp s.heap) σ H s:=
  I.pins_of fun p hp=>(List.mem_append.mp hp).elim (fun z=>I.pin p (List.mem_append_right _ z)) fun z=>by
    obtain ⟨hb,e⟩:=zkX z
    obtain ⟨f0,f1,f2,_⟩:=hf p.1 hb
    obtain ⟨o,e',d⟩:=ho p.1 hb
    rw [e] at e'; cases e'
    exact ⟨e,f0,f1,f2,d⟩
theorem Inv.unpinned {pins pl : List (Addr×Obj)} {σ : St} {H : Hp} {s : Shared} (I : Inv X (pins ++ pl) σ H s) : Inv X pins σ H s:=I.pins_of fun p hp=>I.pin p (List.mem_append_right _ (List.mem_append_left _ hp))
theorem zbd {iter : Expr} {body : List Stmt} {wi : TI} {g : TG} {tb : TS} {pos : Pos} (hp : PassesOwn (model X.prog X.w) X.A X.env X.xe) (hc : X.calm = true) (hi : PI X tg iter wi) (hg : PG X tg g) (hb : PSs X body tb)
    (hs : ∀ x,foldedSetIterable iter X.env x = pure x:=by intro _; rfl) : PS X (.For tg iter body [] pos) (tFor wi g tb):=by
  intro pins s σ H D I h
  refine wpAny_For (thn (hi pins s σ H _ I h) fun v s1 h1=>thn h1 fun itv s2 h2=>?_) hs
  obtain ⟨it,fp,tn,J,H2,e,I2,T,st2,f2,W,⟨m0,w0⟩,turn⟩:=h2
  subst e
  have stat : ∀ {H' : Hp},(∀ b∈fp,H' b = none)→∀ b∈fp,FpOk X pins H' b:=fun hn b hb=>⟨hn b hb,(f2 b hb).2⟩
  refine codeAny_forLoop_any (fun n s'=>∃ i σ' H',Inv X pins σ' H' s'∧tn i s'.heap∧(∀ b∈fp,H' b = none)∧W i n σ' H') ?_ m0 ⟨0,σ,H2,I2,st2,fun b hb=>(f2 b hb).1,w0⟩
  rintro n s3 ⟨i,σ3,H3,I3,st3,fr3,w3⟩
  rcases turn i n σ3 H3 w3 with ⟨stop,qn⟩ | ⟨go,N,hN,step⟩
  · refine wpAny_passesOwn hp (thn (T.done X rfl rfl rfl hc i pins s3 σ3 H3 X.xe I3 (stat fr3) st3 stop) fun r s4 ⟨hr,I4⟩=>?_)
    subst hr
    exact wpAny_execs_nil ⟨σ3,H3,I4,qn⟩
  · refine wpAny_passesOwn hp (thn (T.item X rfl rfl rfl hc i pins s3 σ3 H3 X.xe I3 (stat fr3) st3 go) fun r s4 ⟨u,hr,h4⟩=>?_)
    subst hr
    refine wpAny_passesOwn hp (thn h4 fun _ s5 ⟨x,H5,I5,r5,y5,st5,fr5⟩=>?_)
    have I5':=I5.pinned (stat fr5) (T.obj _ _ st5)
    refine wpAny_passesOwn hp (thn (hg _ s5 σ3 H5 x u _ I5' r5 (step x H5 y5)) fun _ s6 ⟨σ6,H6,I6,q6⟩=>?_)
    refine wpAny_passesOwn hp (thn (hb _ s6 σ6 H6 _ I6 q6) fun f s7 q7=>?_)
    have again : ∀ {σ7 : St} {H7 : Hp},Inv X (pins ++ zfj fp s5.heap) σ7 H7 s7→N σ7 H7→∃ m,m < n∧∃ i σ' H',Inv X pins σ' H' s7∧tn i s7.heap∧(∀ b∈fp,H' b = none)∧W i m σ' H':=fun {σ7 H7} I7 n7=>by
      obtain ⟨m',hm,w7⟩:=hN σ7 H7 n7
      refine ⟨m',hm,i + 1,σ7,H7,I7.unpinned,T.keep _ _ _ st5 fun b hb o e=>(I7.pin (b,o) (List.mem_append_right _ (List.mem_append_right _ (zcy hb e)))).1,fun b hb=>?_,w7⟩
      obtain ⟨o,e,d⟩:=T.obj _ _ st5 b hb
      exact (I7.pin (b,o) (List.mem_append_right _ (List.mem_append_right _ (zcy hb e)))).2.1
    cases f with
    | next=>obtain ⟨σ7,H7,I7,n7⟩:=q7; exact again I7 n7
    | cont=>obtain ⟨σ7,H7,I7,n7⟩:=q7; exact again I7 n7
    | brk=>obtain ⟨σ7,H7,I7,q7⟩:=q7; exact ⟨σ7,H7,I7.unpinned,q7⟩
    | ret v=>obtain ⟨x7,σ7,H7,I7,r7,q7⟩:=q7; exact ⟨x7,σ7,H7,I7.unpinned,r7,q7⟩
end
theorem zed {K : PySem.W.Frag} {a : Addr} {xs : List V} {g : TG} {tb : TS} {D : Ends} {σ : St} {H : Hp} (Pv : Nat→St→Hp→Prop) (h0 : Pv 0 σ H) (hl : ∀ i σ H,i≤xs.length→Pv i σ H→SqL K H a xs)
    (hs : ∀ i x σ H,xs[i]? = some x→Pv i σ H→g x σ H fun σ2 H2=>tb { D with nx:=Pv (i + 1),ct:=Pv (i + 1),bk:=D.nx } σ2 H2) (hd : ∀ σ H,Pv xs.length σ H→D.nx σ H) :
    ∃ W : Nat→Nat→St→Hp→Prop,(∃ m,W 0 m σ H)∧∀ i m σ H,W i m σ H→
      ((Itl K a).stop i H∧D.nx σ H)∨((Itl K a).go i H∧∃ N : St→Hp→Prop,(∀ σ' H',N σ' H'→∃ m',m' < m∧W (i + 1) m' σ' H')∧∀ x H',(Itl K a).yld i H x H'→g x σ H' fun σ2 H2=>tb { D with nx:=N,ct:=N,bk:=D.nx } σ2 H2):=by
  refine ⟨fun i m σ H=>m = xs.length - i∧i≤xs.length∧Pv i σ H,⟨xs.length,by simp,Nat.zero_le _,h0⟩,?_⟩
  rintro i m σ H ⟨rfl,hi,p⟩
  have q:=hl i σ H hi p
  by_cases hlt : i < xs.length
  · refine .inr ⟨⟨xs,xs[i],q,by simp [hlt]⟩,Pv (i + 1),fun σ' H' p'=>⟨xs.length - (i + 1),by omega,rfl,hlt,p'⟩,fun x H' y=>?_⟩
    obtain ⟨e,y⟩:=y
    subst e
    exact hs i x σ _ (y xs q) p
  · have e : i = xs.length:=by omega
    subst e
    exact .inl ⟨⟨xs,q,Nat.le_refl _⟩,hd σ H p⟩
theorem zlA {K : PySem.W.Frag} {a : Addr} {xs : List V} {g : TG} {tb : TS} {D : Ends} {σ : St} {H : Hp} (Pv : Nat→St→Hp→Prop) (h0 : Pv 0 σ H) (hl : ∀ i σ H,i≤xs.length→Pv i σ H→SqT K H a xs)
    (hs : ∀ i x σ H,xs[i]? = some x→Pv i σ H→g x σ H fun σ2 H2=>tb { D with nx:=Pv (i + 1),ct:=Pv (i + 1),bk:=D.nx } σ2 H2) (hd : ∀ σ H,Pv xs.length σ H→D.nx σ H) :
    ∃ W : Nat→Nat→St→Hp→Prop,(∃ m,W 0 m σ H)∧∀ i m σ H,W i m σ H→
      ((Itt K a).stop i H∧D.nx σ H)∨((Itt K a).go i H∧∃ N : St→Hp→Prop,(∀ σ' H',N σ' H'→∃ m',m' < m∧W (i + 1) m' σ' H')∧∀ x H',(Itt K a).yld i H x H'→g x σ H' fun σ2 H2=>tb { D with nx:=N,ct:=N,bk:=D.nx } σ2 H2):=by
  refine ⟨fun i m σ H=>m = xs.length - i∧i≤xs.length∧Pv i σ H,⟨xs.length,by simp,Nat.zero_le _,h0⟩,?_⟩
  rintro i m σ H ⟨rfl,hi,p⟩
  have q:=hl i σ H hi p
  by_cases hlt : i < xs.length
  · refine .inr ⟨⟨xs,xs[i],q,by simp [hlt]⟩,Pv (i + 1),fun σ' H' p'=>⟨xs.length - (i + 1),by omega,rfl,hlt,p'⟩,fun x H' y=>?_⟩
    obtain ⟨e,y⟩:=y
    subst e
    exact hs i x σ _ (y xs q) p
  · have e : i = xs.length:=by omega
    subst e
    exact .inl ⟨⟨xs,q,Nat.le_refl _⟩,hd σ H p⟩
theorem za9 {lo : Int} {n : Nat} {g : TG} {tb : TS} {D : Ends} {σ : St} {H : Hp} (Pv : Nat→St→Hp→Prop) (h0 : Pv 0 σ H)
    (hs : ∀ i σ H,i < n→Pv i σ H→g (.int (lo + i)) σ H fun σ2 H2=>tb { D with nx:=Pv (i + 1),ct:=Pv (i + 1),bk:=D.nx } σ2 H2) (hd : ∀ σ H,Pv n σ H→D.nx σ H) :
    ∃ W : Nat→Nat→St→Hp→Prop,(∃ m,W 0 m σ H)∧∀ i m σ H,W i m σ H→
      ((Itr lo n).stop i H∧D.nx σ H)∨((Itr lo n).go i H∧∃ N : St→Hp→Prop,(∀ σ' H',N σ' H'→∃ m',m' < m∧W (i + 1) m' σ' H')∧∀ x H',(Itr lo n).yld i H x H'→g x σ H' fun σ2 H2=>tb { D with nx:=N,ct:=N,bk:=D.nx } σ2 H2):=by
  refine ⟨fun i m σ H=>m = n - i∧i≤n∧Pv i σ H,⟨n,by simp,Nat.zero_le _,h0⟩,?_⟩
  rintro i m σ H ⟨rfl,hi,p⟩
  by_cases hlt : i < n
  · refine .inr ⟨hlt,Pv (i + 1),fun σ' H' p'=>⟨n - (i + 1),by omega,rfl,hlt,p'⟩,fun x H' y=>?_⟩
    obtain ⟨e,y⟩:=y
    subst e y
    exact hs i σ _ hlt p
  · have e : i = n:=by omega
    subst e
    exact .inl ⟨Nat.le_refl _,hd σ H p⟩
theorem zl2 {c : TT} {tb : TS} {D : Ends} {σ : St} {H : Hp} (Pv : St→Hp→Prop) (μ : St→Hp→Nat) (h0 : Pv σ H)
    (hs : ∀ σ H,Pv σ H→c σ H fun b H1=>if b = true then tb { D with nx:=fun σ' H'=>Pv σ' H'∧μ σ' H' < μ σ H,ct:=fun σ' H'=>Pv σ' H'∧μ σ' H' < μ σ H,bk:=D.nx } σ H1 else D.nx σ H1)
    (mono : ∀ σ H Q Q',(∀ b H1,Q b H1→Q' b H1)→c σ H Q→c σ H Q') : zke c tb D σ H:=by
  refine ⟨fun m σ H=>m = μ σ H∧Pv σ H,⟨_,rfl,h0⟩,?_⟩
  rintro m σ H ⟨rfl,p⟩
  refine mono σ H _ _ (fun b H1 q=>?_) (hs σ H p)
  cases b with
  | true=>exact ⟨_,fun σ' H' ⟨p',l⟩=>⟨_,l,rfl,p'⟩,q⟩
  | false=>exact q
end L2
namespace L2
open PySem PySem.Spec PyProof.Rows
abbrev R2:=V→V→Hp→VK→Prop
def OpR (X : Cx) (f : Value→Value→Sem Value) (r : R2) : Prop:=
  ∀ (pins : List (Addr×Obj)) (s : Shared) (σ : St) (H : Hp) (x y : V) (v u : Value) (Q : VK),Inv X pins σ H s→RelV x v→RelV y u→r x y H Q→
    wpAny (model X.prog X.w) X.A (f v u) (EP X pins σ Q) X.xe s
def UnR (X : Cx) (f : Value→Sem Value) (r : V→Hp→VK→Prop) : Prop:=
  ∀ (pins : List (Addr×Obj)) (s : Shared) (σ : St) (H : Hp) (x : V) (v : Value) (Q : VK),Inv X pins σ H s→RelV x v→r x H Q→
    wpAny (model X.prog X.w) X.A (f v) (EP X pins σ Q) X.xe s
def zeg (X : Cx) (f : Value) (r : List V→Hp→VK→Prop) : Prop:=
  ∀ (pins : List (Addr×Obj)) (s : Shared) (σ : St) (H : Hp) (xs : List V) (us : List Value) (Q : VK),Inv X pins σ H s→Vals xs us→r xs H Q→
    wpAny (model X.prog X.w) X.A (call f us) (EP X pins σ Q) X.xe s
def TruR (X : Cx) (r : V→Hp→(Bool→Hp→Prop)→Prop) : Prop:=
  ∀ (pins : List (Addr×Obj)) (s : Shared) (σ : St) (H : Hp) (x : V) (v : Value) (Q : Bool→Hp→Prop),Inv X pins σ H s→RelV x v→r x H Q→
    wpAny (model X.prog X.w) X.A (truthy v) (TP X pins σ Q) X.xe s
def tOp (r : R2) (ta tb : TE) : TE:=fun σ H Q=>ta σ H fun x H1=>tb σ H1 fun y H2=>r x y H2 Q
def tUn (r : V→Hp→VK→Prop) (ta : TE) : TE:=fun σ H Q=>ta σ H fun x H1=>r x H1 Q
def rI (C : Int→Int→Prop) (g : Int→Int→V) : R2:=fun x y H Q=>∃ i j,x = .int i∧y = .int j∧C i j∧Q (g i j) H
def rI0 (g : Int→Int→V) : R2:=fun x y H Q=>∃ i j,x = .int i∧y = .int j∧Q (g i j) H
def rU (g : Int→V) : V→Hp→VK→Prop:=fun x H Q=>∃ i,x = .int i∧Q (g i) H
section
variable {X : Cx} {a b c : Expr} {ta tb tc : TE} {pos : Pos}
theorem binT (ha : PE X a ta) (hb : PE X b tb) {pins : List (Addr×Obj)} {s : Shared} {σ : St} {H : Hp} {R : V→V→Hp→Prop} (I : Inv X pins σ H s)
    (h : ta σ H fun x H1=>tb σ H1 fun y H2=>R x y H2) {Q : Value→Shared→Prop} {f : Value→Value→Sem Value}
    (hf : ∀ v u s2 x y H2,Inv X pins σ H2 s2→RelV x v→RelV y u→R x y H2→wpAny (model X.prog X.w) X.A (f v u) Q X.xe s2) :
    wpAny (model X.prog X.w) X.A (eval a X.env) (fun v s₁=>wpAny (model X.prog X.w) X.A (eval b X.env) (fun u s₂=>wpAny (model X.prog X.w) X.A (f v u) Q X.xe s₂) X.xe s₁) X.xe s:=by
  refine thn (ha pins s σ H _ I h) fun v s1 ⟨x,H1,I1,r1,q1⟩=>?_
  refine thn (hb pins s1 σ H1 _ I1 q1) fun u s2 ⟨y,H2,I2,r2,q2⟩=>?_
  exact hf v u s2 x y H2 I2 r1 r2 q2
theorem zax {op : Operator} {r : R2} (ho : OpR X (binaryOp op) r) (ha : PE X a ta) (hb : PE X b tb) : PE X (.BinOp a op b pos) (tOp r ta tb):=by
  intro pins s σ H Q I h
  exact wpAny_BinOp (binT ha hb I h fun v u s2 x y H2 I2 rx ry q=>ho pins s2 σ H2 x y v u Q I2 rx ry q)
theorem zjw {op : UnaryOp} {r : V→Hp→VK→Prop} (ho : UnR X (unaryOp op) r) (ha : PE X a ta) : PE X (.UnaryOp op a pos) (tUn r ta):=by
  intro pins s σ H Q I h
  exact UnaryOp_ (thn (ha pins s σ H _ I h) fun v s1 ⟨x,H1,I1,r1,q1⟩=>ho pins s1 σ H1 x v Q I1 r1 q1)
theorem opI {f : Value→Value→Sem Value} {C : Int→Int→Prop} {g : Int→Int→Int}
    (rule : ∀ (i j : Int) (t u : Tok) (s : Shared) (Q : Value→Shared→Prop) (E : Value→Shared→Prop),C i j→Q (.int (g i j) s.toks) { s with toks:=s.toks + 1 }→wpAny (model X.prog X.w) X.A (f (.int i t) (.int j u)) Q E s) :
    OpR X f (rI C fun i j=>.int (g i j)):=by
  intro pins s σ H x y v u Q I rx ry h
  obtain ⟨i,j,rfl,rfl,hc,q⟩:=h
  obtain ⟨t,rfl⟩:=rx
  obtain ⟨t',rfl⟩:=ry
  exact rule i j t t' s _ _ hc ⟨.int (g i j),H,I.tok _,⟨_,rfl⟩,q⟩
theorem opI0 {f : Value→Value→Sem Value} {g : Int→Int→Int}
    (rule : ∀ (i j : Int) (t u : Tok) (s : Shared) (Q : Value→Shared→Prop) (E : Value→Shared→Prop),Q (.int (g i j) s.toks) { s with toks:=s.toks + 1 }→wpAny (model X.prog X.w) X.A (f (.int i t) (.int j u)) Q E s) :
    OpR X f (rI0 fun i j=>.int (g i j)):=by
  intro pins s σ H x y v u Q I rx ry h
  obtain ⟨i,j,rfl,rfl,q⟩:=h
  obtain ⟨t,rfl⟩:=rx
  obtain ⟨t',rfl⟩:=ry
  exact rule i j t t' s _ _ ⟨.int (g i j),H,I.tok _,⟨_,rfl⟩,q⟩
theorem opB0 {f : Value→Value→Sem Value} {g : Int→Int→Bool}
    (rule : ∀ (i j : Int) (t u : Tok) (s : Shared) (Q : Value→Shared→Prop) (E : Value→Shared→Prop),Q (.bool (g i j)) s→wpAny (model X.prog X.w) X.A (f (.int i t) (.int j u)) Q E s) :
    OpR X f (rI0 fun i j=>.bl (g i j)):=by
  intro pins s σ H x y v u Q I rx ry h
  obtain ⟨i,j,rfl,rfl,q⟩:=h
  obtain ⟨t,rfl⟩:=rx
  obtain ⟨t',rfl⟩:=ry
  exact rule i j t t' s _ _ ⟨.bl (g i j),H,I,rfl,q⟩
def CDiv (i j : Int) : Prop:=0 < j∧j < 1073741824
def CDivN (i j : Int) : Prop:=j≠0∧j.natAbs < 1073741824
def CPow (i j : Int) : Prop:=0≤j∧j≤1000000∧i.natAbs < 2 ^ 64
def CMul (i j : Int) : Prop:=(-(2 ^ 64) < i∧i < 2 ^ 64)∨(-(2 ^ 64) < j∧j < 2 ^ 64)
theorem CMul.ok {i j : Int} (h : CMul i j) : IntMulOk i j:=by
  rcases h with ⟨h1,h2⟩ | ⟨h1,h2⟩
  · exact .of_left (intBits_le_64 h1 h2)
  · exact .of_right (intBits_le_64 h1 h2)
theorem zjn (k : Nat) : (0 : Int)≤2 ^ k:=by
  rw [two_pow_cast]
  exact Int.natCast_nonneg _
theorem zbf : OpR X (binaryOp .Add) (rI0 fun i j=>.int (i + j)):=opI0 fun _ _ _ _ _ _ _ q=>add_int q
theorem zbR : OpR X (binaryOp .Sub) (rI0 fun i j=>.int (i - j)):=opI0 fun _ _ _ _ _ _ _ q=>sub_int q
theorem zb5 : OpR X (binaryOp .Mult) (rI CMul fun i j=>.int (i * j)):=opI fun _ _ _ _ _ _ _ hc q=>mul_int q hc.ok
theorem zgw : OpR X (binaryOp .FloorDiv) (rI CDiv fun i j=>.int (i / j)):=opI fun i j _ _ _ _ _ hc q=>by
  have h1 : (0 : Int) < j:=hc.1
  have h2 : j < 1073741824:=hc.2
  exact floordiv_int (by omega) (by rw [Int.fdiv_eq_ediv_of_nonneg i (by omega)]; exact q) (.inl (PyProof.noPylong_small (by omega)))
theorem zeu : OpR X (binaryOp .Mod) (rI (fun _ j=>0 < j) fun i j=>.int (i % j)):=opI fun i j _ _ _ _ _ hc q=>by
  have h1 : (0 : Int) < j:=hc
  exact mod_int' (by omega) (by rw [Int.fmod_eq_emod_of_nonneg i (by omega)]; exact q)
theorem zg9 : OpR X (binaryOp .Pow) (rI CPow fun i j=>.int (i ^ j.toNat)):=opI fun _ _ _ _ _ _ _ hc q=>pow_int_small hc.1 hc.2.1 hc.2.2 q
theorem op_shr : OpR X (binaryOp .RShift) (rI (fun _ j=>0≤j) fun i j=>.int (i / 2 ^ j.toNat)):=opI fun i j _ _ _ _ _ hc q=>
  rshift_int hc (by rw [Int.fdiv_eq_ediv_of_nonneg i (zjn _)]; exact q)
theorem zns : OpR X (binaryOp .BitAnd) (rI0 fun i j=>.int (Builtin.bitAnd i j)):=opI0 fun _ _ _ _ _ _ _ q=>and_int q
theorem op_xor : OpR X (binaryOp .BitXor) (rI0 fun i j=>.int (Builtin.bitXor i j)):=opI0 fun _ _ _ _ _ _ _ q=>xor_int q
theorem unI {f : Value→Sem Value} {g : Int→Int}
    (rule : ∀ (i : Int) (t : Tok) (s : Shared) (Q : Value→Shared→Prop) (E : Value→Shared→Prop),Q (.int (g i) s.toks) { s with toks:=s.toks + 1 }→wpAny (model X.prog X.w) X.A (f (.int i t)) Q E s) :
    UnR X f (rU fun i=>.int (g i)):=by
  intro pins s σ H x v Q I rx h
  obtain ⟨i,rfl,q⟩:=h
  obtain ⟨t,rfl⟩:=rx
  exact rule i t s _ _ ⟨.int (g i),H,I.tok _,⟨_,rfl⟩,q⟩
theorem zfL : UnR X (unaryOp .USub) (rU fun i=>.int (-i)):=unI fun _ _ _ _ _ q=>neg_int q
end
def scal : V→V→Bool
  | .non,.non=>true | .non,.int _=>true | .int _,.non=>true | .non,.bl _=>true | .bl _,.non=>true | .non,.str _=>true | .str _,.non=>true
  | .int _,.int _=>true | .bl _,.bl _=>true | .str _,.str _=>true | .byt _,.byt _=>true
  | .int _,.str _=>true | .str _,.int _=>true | .bl _,.str _=>true | .str _,.bl _=>true
  | _,_=>false
def rEq : R2:=fun x y H Q=>scal x y = true∧Q (.bl (decide (x = y))) H
def rNe : R2:=fun x y H Q=>scal x y = true∧Q (.bl (!decide (x = y))) H
theorem zlF {i j : Int} : decide (V.int i = V.int j) = (i == j):=by
  rw [Bool.eq_iff_iff]
  simp
theorem znC {i j : Bool} : decide (V.bl i = V.bl j) = (i == j):=by
  rw [Bool.eq_iff_iff]
  simp
theorem zlE {i j : Str} : decide (V.str i = V.str j) = (i == j):=by
  rw [Bool.eq_iff_iff]
  simp
theorem zlG {i j : Array UInt8} : decide (V.byt i = V.byt j) = (i.toList == j.toList):=by
  rw [Bool.eq_iff_iff]
  cases i
  cases j
  simp
section
variable {X : Cx} {a b c : Expr} {ta tb tc : TE} {pos : Pos}
theorem zaR {pins : List (Addr×Obj)} {σ : St} {H : Hp} {s : Shared} {Q : VK} {k k' : Bool} (I : Inv X pins σ H s) (q : Q (.bl k) H) (e : k = k') : EP X pins σ Q (.bool k') s:=by
  subst e
  exact ⟨.bl k,H,I,rfl,q⟩
theorem zfF : OpR X (compareOp .Eq) rEq:=by
  intro pins s σ H x y v u Q I rx ry h
  obtain ⟨hs,q⟩:=h
  cases x with
  | non=>
    cases rx
    cases y with
    | non=>cases ry; exact PySem.EqNone.eq_none_none (zaR I q (by simp))
    | bl j=>cases ry; exact PySem.EqNone.eq_none_bool (zaR I q (by simp))
    | int j=>obtain ⟨t',rfl⟩:=ry; exact PySem.EqNone.eq_none_int (zaR I q (by simp))
    | str j=>obtain ⟨t',rfl⟩:=ry; exact PySem.EqNone.eq_none_str (zaR I q (by simp))
    | _=>exact absurd (show false = true from hs) Bool.false_ne_true
  | bl i=>
    cases rx
    cases y with
    | non=>cases ry; exact PySem.EqNone.eq_bool_none (zaR I q (by simp))
    | bl j=>cases ry; exact eq_bool (zaR I q znC)
    | str j=>obtain ⟨t',rfl⟩:=ry; exact PySem.EqMixed.eq_bool_str (zaR I q (by simp))
    | _=>exact absurd (show false = true from hs) Bool.false_ne_true
  | int i=>
    obtain ⟨t,rfl⟩:=rx
    cases y with
    | non=>cases ry; exact PySem.EqNone.eq_int_none (zaR I q (by simp))
    | int j=>obtain ⟨t',rfl⟩:=ry; exact eq_int (zaR I q zlF)
    | str j=>obtain ⟨t',rfl⟩:=ry; exact PySem.EqMixed.eq_int_str (zaR I q (by simp))
    | _=>exact absurd (show false = true from hs) Bool.false_ne_true
  | str i=>
    obtain ⟨t,rfl⟩:=rx
    cases y with
    | non=>cases ry; exact PySem.EqNone.eq_str_none (zaR I q (by simp))
    | bl j=>cases ry; exact PySem.EqMixed.eq_str_bool (zaR I q (by simp))
    | int j=>obtain ⟨t',rfl⟩:=ry; exact PySem.EqMixed.eq_str_int (zaR I q (by simp))
    | str j=>obtain ⟨t',rfl⟩:=ry; exact eq_str (zaR I q zlE)
    | _=>exact absurd (show false = true from hs) Bool.false_ne_true
  | byt i=>
    obtain ⟨t,rfl⟩:=rx
    cases y with
    | byt j=>obtain ⟨t',rfl⟩:=ry; exact PySem.W.eq_bytes (zaR I q zlG)
    | _=>exact absurd (show false = true from hs) Bool.false_ne_true
  | _=>cases y <;> exact absurd (show false = true from hs) Bool.false_ne_true
theorem op_ne : OpR X (compareOp .NotEq) rNe:=by
  intro pins s σ H x y v u Q I rx ry h
  obtain ⟨hs,q⟩:=h
  cases x with
  | non=>
    cases rx
    cases y with
    | non=>cases ry; exact PySem.EqNone.ne_none_none (zaR I q (by simp))
    | bl j=>cases ry; exact PySem.EqNone.ne_none_bool (zaR I q (by simp))
    | int j=>obtain ⟨t',rfl⟩:=ry; exact PySem.EqNone.ne_none_int (zaR I q (by simp))
    | str j=>obtain ⟨t',rfl⟩:=ry; exact PySem.EqNone.ne_none_str (zaR I q (by simp))
    | _=>exact absurd (show false = true from hs) Bool.false_ne_true
  | bl i=>
    cases rx
    cases y with
    | non=>cases ry; exact PySem.EqNone.ne_bool_none (zaR I q (by simp))
    | bl j=>cases ry; exact ne_bool (zaR I q (congrArg not znC))
    | str j=>obtain ⟨t',rfl⟩:=ry; exact PySem.EqMixed.ne_bool_str (zaR I q (by simp))
    | _=>exact absurd (show false = true from hs) Bool.false_ne_true
  | int i=>
    obtain ⟨t,rfl⟩:=rx
    cases y with
    | non=>cases ry; exact PySem.EqNone.ne_int_none (zaR I q (by simp))
    | int j=>obtain ⟨t',rfl⟩:=ry; exact ne_int (zaR I q (congrArg not zlF))
    | str j=>obtain ⟨t',rfl⟩:=ry; exact PySem.EqMixed.ne_int_str (zaR I q (by simp))
    | _=>exact absurd (show false = true from hs) Bool.false_ne_true
  | str i=>
    obtain ⟨t,rfl⟩:=rx
    cases y with
    | non=>cases ry; exact PySem.EqNone.ne_str_none (zaR I q (by simp))
    | bl j=>cases ry; exact PySem.EqMixed.ne_str_bool (zaR I q (by simp))
    | int j=>obtain ⟨t',rfl⟩:=ry; exact PySem.EqMixed.ne_str_int (zaR I q (by simp))
    | str j=>obtain ⟨t',rfl⟩:=ry; exact ne_str (zaR I q (congrArg not zlE))
    | _=>exact absurd (show false = true from hs) Bool.false_ne_true
  | byt i=>
    obtain ⟨t,rfl⟩:=rx
    cases y with
    | byt j=>obtain ⟨t',rfl⟩:=ry; exact PySem.W.ne_bytes (zaR I q (congrArg not zlG))
    | _=>exact absurd (show false = true from hs) Bool.false_ne_true
  | _=>cases y <;> exact absurd (show false = true from hs) Bool.false_ne_true
theorem zgv : OpR X (compareOp .Lt) (rI0 fun i j=>.bl (decide (i < j))):=opB0 fun _ _ _ _ _ _ _ q=>lt_int q
theorem op_le : OpR X (compareOp .LtE) (rI0 fun i j=>.bl (decide (i≤j))):=opB0 fun _ _ _ _ _ _ _ q=>le_int q
theorem zjC : OpR X (compareOp .Gt) (rI0 fun i j=>.bl (decide (j < i))):=opB0 fun _ _ _ _ _ _ _ q=>gt_int q
theorem op_ge : OpR X (compareOp .GtE) (rI0 fun i j=>.bl (decide (j≤i))):=opB0 fun _ _ _ _ _ _ _ q=>ge_int q
def isObj : HO→Bool
  | .lst _=>true
  | .ins _ _ _=>true
  | _=>false
theorem zaP (b : Expr) {op : CmpOp} (h : op≠.In:=by decide) (h2 : op≠.NotIn:=by decide) : behindInMarks op b = false:=by
  have e1 : (op == CmpOp.In) = false:=by cases op <;> first | rfl | exact absurd rfl h
  have e2 : (op == CmpOp.NotIn) = false:=by cases op <;> first | rfl | exact absurd rfl h2
  cases b <;> simp [behindInMarks,e1,e2]
theorem zkI {op : CmpOp} {r : R2} (ho : OpR X (compareOp op) r) (ha : PE X a ta) (hb : PE X b tb) (hm : behindInMarks op b = false) : PE X (.Compare a [op] [b] pos) (tOp r ta tb):=by
  intro pins s σ H Q I h
  exact wpAny_Compare1 (binT ha hb I h fun v u s2 x y H2 I2 rx ry q=>ho pins s2 σ H2 x y v u Q I2 rx ry q) hm
def tTest (t : TE) : TT:=fun σ H Q=>t σ H fun x H'=>∃ k,x = .bl k∧Q k H'
theorem zaC {op : CmpOp} {r : R2} (ho : OpR X (compareOp op) r) (ha : PE X a ta) (hb : PE X b tb) (hm : behindInMarks op b = false) : PT X (.Compare a [op] [b] pos) (tTest (tOp r ta tb)):=by
  intro pins s σ H Q I h
  refine wpAny_isTrue_Compare1 (thn (ha pins s σ H _ I h) fun v s1 ⟨x,H1,I1,r1,q1⟩=>thn (hb pins s1 σ H1 _ I1 q1) fun u s2 ⟨y,H2,I2,r2,q2⟩=>
    thn (ho pins s2 σ H2 x y v u _ I2 r1 r2 q2) fun c s3 ⟨z,H3,I3,r3,k,e,q3⟩=>?_) hm
  subst e
  cases r3
  exact wpAny_truthy_bool ⟨H3,I3,q3⟩
def tChain (r r' : R2) (ta tb tc : TE) : TE:=fun σ H Q=>ta σ H fun x H1=>tb σ H1 fun y H2=>r x y H2 fun z H3=>∃ k,z = .bl k∧
  (if k = true then tc σ H3 fun w' H4=>r' y w' H4 Q else Q (.bl false) H3)
theorem ziV {op op' : CmpOp} {r r' : R2} (ho : OpR X (compareOp op) r) (ho' : OpR X (compareOp op') r') (ha : PE X a ta) (hb : PE X b tb) (hc : PE X c tc)
    (hm : lastMarks [op,op'] [b,c] = false:=by with_unfolding_all rfl) : PE X (.Compare a [op,op'] [b,c] pos) (tChain r r' ta tb tc):=by
  intro pins s σ H Q I h
  refine Compare_chain (thn (ha pins s σ H _ I h) fun v s1 ⟨x,H1,I1,r1,q1⟩=>chain_link (thn (hb pins s1 σ H1 _ I1 q1) fun u s2 ⟨y,H2,I2,r2,q2⟩=>
    thn (ho pins s2 σ H2 x y v u _ I2 r1 r2 q2) fun d s3 ⟨z,H3,I3,r3,k,e,q3⟩=>?_)) hm
  subst e
  cases r3
  refine wpAny_truthy_bool ?_
  cases k with
  | false=>exact ite_ff ⟨.bl false,H3,I3,rfl,q3⟩
  | true=>exact ite_tt (chain_last (thn (hc pins s3 σ H3 _ I3 q3) fun w' s4 ⟨z',H4,I4,r4,q4⟩=>ho' pins s4 σ H4 y z' u w' Q I4 r2 r4 q4))
def TruV (K : PySem.W.Frag) (x : V) (H : Hp) (k : Bool) : Prop:=
  match x with
  | .non=>k = false
  | .bl b=>k = b
  | .int i=>k = (i != 0)
  | .str y=>y.length≤sizeLine∧k = ((y.length : Int) != 0)
  | .byt y=>y.size≤sizeLine∧k = ((y.size : Int) != 0)
  | .ref p=>(∃ xs,SqL K H p xs∧k = !xs.isEmpty)∨(∃ xs,SqT K H p xs∧k = !xs.isEmpty)∨∃ kvs,H p = some (.dK kvs)∧k = !kvs.isEmpty
  | _=>False
theorem zi2 : (sizeLine : Nat) < 2 ^ 63:=by rw [sizeLine_eq]; decide
def PlainIxT (b : Expr) : Prop:=∀ o i,subscripted b false o i = operate [o,i] (getItem o i)
theorem zgb {x : V} {us : List Value} (r : Vals [x] us) : ∃ u,us = [u]∧RelV x u:=by
  cases r with
  | cons r1 r2=>cases r2; exact ⟨_,rfl,r1⟩
theorem zga {x y : V} {us : List Value} (r : Vals [x,y] us) : ∃ u w',us = [u,w']∧RelV x u∧RelV y w':=by
  cases r with
  | cons r1 r2=>
    cases r2 with
    | cons r3 r4=>cases r4; exact ⟨_,_,rfl,r1,r3⟩
theorem zjk : zeg X (.builtin "abs") (fun xs H Q=>∃ i,xs = [.int i]∧Q (.int (if i < 0 then -i else i)) H):=by
  intro pins s σ H xs us Q I r h
  obtain ⟨i,rfl,q⟩:=h
  obtain ⟨u,rfl,t,rfl⟩:=zgb r
  exact call_abs_int fun u tk=>⟨.int (if i < 0 then -i else i),H,I.tok _,⟨_,rfl⟩,q⟩
theorem zhy (hc : X.calm = true) : zeg X (.builtin "max") (fun xs H Q=>∃ i j,xs = [.int i,.int j]∧Q (.int (if j > i then j else i)) H):=by
  intro pins s σ H xs us Q I r h
  obtain ⟨i,j,rfl,q⟩:=h
  obtain ⟨u,w',rfl,⟨t,rfl⟩,⟨t',rfl⟩⟩:=zga r
  refine max_two_ints (I.ok.hd hc) fun h' tk k=>⟨_,H,I.kept k,?_,q⟩
  by_cases hj : j > i
  · rw [if_pos hj,if_pos hj]; exact ⟨_,rfl⟩
  · rw [if_neg hj,if_neg hj]; exact ⟨_,rfl⟩
theorem zlQ (hc : X.calm = true) : zeg X (.builtin "min") (fun xs H Q=>∃ i j,xs = [.int i,.int j]∧Q (.int (if j < i then j else i)) H):=by
  intro pins s σ H xs us Q I r h
  obtain ⟨i,j,rfl,q⟩:=h
  obtain ⟨u,w',rfl,⟨t,rfl⟩,⟨t',rfl⟩⟩:=zga r
  refine min_two_ints (I.ok.hd hc) fun h' tk k=>⟨_,H,I.kept k,?_,q⟩
  by_cases hj : j < i
  · rw [if_pos hj,if_pos hj]; exact ⟨_,rfl⟩
  · rw [if_neg hj,if_neg hj]; exact ⟨_,rfl⟩
def LenV (K : PySem.W.Frag) (x : V) (H : Hp) (n : Nat) : Prop:=
  match x with
  | .str y=>y.length≤sizeLine∧n = y.length
  | .byt y=>y.size≤sizeLine∧n = y.size
  | .ref p=>(∃ xs,SqL K H p xs∧n = xs.length)∨∃ xs,SqT K H p xs∧n = xs.length
  | _=>False
end
end L2
namespace L2
open PySem PySem.Spec PyProof.Rows
structure ObjM (h : Heap) (x dx C : Addr) (mA : Str→Option Value) : Prop where
  obj : h.get? x = some (PySem.W.instObj C dx)
  ns : h.Ns1 dx mA
  ne : dx≠x
theorem zlb {h : Heap} {dx : Addr} {mA : Str→Option Value} (n : h.Ns1 dx mA) : ∃ od,h.get? dx = some od∧∀ name,PySem.W.lookIn name od = some (mA name):=by
  obtain ⟨o,es,ep,ho,hd,hk,_,hm⟩:=n
  refine ⟨o,ho,fun name=>?_⟩
  have e:=hm name
  unfold nsFind findBy at e
  rw [← Array.find?_toList] at e
  unfold PySem.W.lookIn
  rw [hd]
  dsimp only
  split
  · rename_i y q
    rw [q] at e
    exact congrArg some e
  · rename_i q
    rw [q] at e
    have a : es.toList.any (·.refKey) = false:=by
      rw [List.any_eq_false]
      intro y hy
      obtain ⟨z,t,hkey⟩:=hk y (Array.mem_toList_iff.mp hy)
      simp [DictEntry.refKey,hkey]
    have a' : ¬ es.toList.any (·.refKey) = true:=by rw [a]; exact Bool.false_ne_true
    rw [if_neg a']
    exact congrArg some e
theorem ObjM.look {h : Heap} {x dx C : Addr} {mA : Str→Option Value} (I : ObjM h x dx C mA) : ∃ od,PySem.W.InstAt h x (PySem.W.instObj C dx) C (some od)∧∀ name,PySem.W.lookIn name od = some (mA name):=
  let ⟨od,ho,hl⟩:=zlb I.ns
  ⟨od,⟨I.obj,rfl,rfl,ho⟩,hl⟩
section
variable {prog : Program} {w : World} {A : Around} {E : Value→Shared→Prop} {s : Shared} {K : PySem.W.Frag} {x dx C f : Addr} {mA : Str→Option Value} {name : Str} {v : Value}
end
def putF (f : Str) (v : V) : List (Str×V)→List (Str×V)
  | []=>[(f,v)]
  | (g,x) :: r=>if g = f then (g,v) :: r else (g,x) :: putF f v r
theorem RelO.some_of {v : V} {o : Option Value} (r : RelO (some v) o) : ∃ u,o = some u∧RelV v u:=by
  cases o with
  | none=>exact (show False from r).elim
  | some u=>exact ⟨u,rfl,r⟩
section
variable {P : Program} {w : World} {H H' : Hp} {h h' : Heap} {a C dx : Addr} {fs fs' : List (Str×V)}
theorem zon (hok : HOk P w H h) (e : H a = some (.ins C dx fs)) : ∃ mA,ObjM h a dx C mA∧(∀ f,RelO (fs.lookup f) (mA f))∧PySem.Within mA (fs.map (·.1))∧fs.length≤1000∧H dx = some (.own a):=by
  obtain ⟨d,z,ne,ob,mA,n,r,q⟩:=(show zbv P w H h a (.ins C dx fs) from hok a _ e)
  exact ⟨mA,⟨ob,n,ne⟩,r,q,z,d⟩
end
structure Cls (K : PySem.W.Frag) (C : Addr) : Prop where
  pg : PySem.W.plainGet K C Str.empty = true
  hd : PySem.W.hasDictIn K C = true
  po : PySem.W.plainOver K C = true
  sa : PySem.W.findIn K (.ref C) "__setattr__" = some (some (.builtin "object.__setattr__"))
theorem Cls.get {K : PySem.W.Frag} {C : Addr} (c : Cls K C) (f : Str) : PySem.W.plainGet K C f = true:=c.pg
def zlZ (K : PySem.W.Frag) (C : Addr) (f : Str) : Prop:=PySem.W.findIn K (.ref C) f = some none
structure Con (K : PySem.W.Frag) (C : Addr) (f : Str) (v : V) (u : Value) : Prop where
  at_ : PySem.W.findIn K (.ref C) f = some (some u)
  rel : RelV v u
  get : PySem.W.specialIn K u "__get__" = some none
  cp : PySem.W.copiedNames.contains f = false
structure Meth (K : PySem.W.Frag) (C : Addr) (m : Str) (f : Addr) : Prop where
  at_ : PySem.W.findIn K (.ref C) m = some (some (.ref f))
  fn : PySem.W.isFn K (.ref f) = true
  kp : PySem.W.keepIn K (.ref f) = true
section
variable {X : Cx} {pins : List (Addr×Obj)} {σ : St} {H : Hp} {s : Shared} {a C dx : Addr} {fs : List (Str×V)} {f : Str} {v : V} {A : Around} {E : Value→Shared→Prop}
end
def tFld (K : PySem.W.Frag) (ta : TE) (f : Str) : TE:=fun σ H Q=>ta σ H fun x H1=>∃ a C dx fs v,x = .ref a∧H1 a = some (.ins C dx fs)∧Cls K C∧zlZ K C f∧fs.lookup f = some v∧Q v H1
def tCon (K : PySem.W.Frag) (ta : TE) (f : Str) : TE:=fun σ H Q=>ta σ H fun x H1=>∃ a C dx fs v u,x = .ref a∧H1 a = some (.ins C dx fs)∧Cls K C∧Con K C f v u∧fs.lookup f = none∧Q v H1
def sFld (K : PySem.W.Frag) (ta tv : TE) (f : Str) : TS:=fun D σ H=>tv σ H fun y H1=>ta σ H1 fun x H2=>∃ a C dx fs,x = .ref a∧H2 a = some (.ins C dx fs)∧Cls K C∧zlZ K C f∧fs.length < 1000∧
  D.nx σ (upd H2 a (.ins C dx (putF f y fs)))
def InOp (X : Cx) (op : Operator) (rd : V→V→Hp→VK→Prop) : Prop:=
  ∀ (pins : List (Addr×Obj)) (s : Shared) (σ : St) (H : Hp) (x y : V) (u v : Value) (Q : VK),Inv X pins σ H s→RelV x u→RelV y v→rd x y H Q→wpAny (model X.prog X.w) X.A (inplaceOp op u v) (EP X pins σ Q) X.xe s
def sFldAug (K : PySem.W.Frag) (ta tv : TE) (rd : V→V→Hp→VK→Prop) (f : Str) : TS:=fun D σ H=>ta σ H fun x H1=>∃ a C dx fs v,x = .ref a∧H1 a = some (.ins C dx fs)∧Cls K C∧zlZ K C f∧fs.lookup f = some v∧
  tv σ H1 fun y H2=>rd v y H2 fun z H3=>∃ dx' fs',H3 a = some (.ins C dx' fs')∧fs'.length < 1000∧D.nx σ (upd H3 a (.ins C dx' (putF f z fs')))
section
variable {X : Cx} {o e value : Expr} {f : Str} {pos pos' tpos : Pos} {ta tv : TE}
def rAdd : V→V→Hp→VK→Prop:=fun x y H Q=>∃ i j,x = .int i∧y = .int j∧Q (.int (i + j)) H
def rSub : V→V→Hp→VK→Prop:=fun x y H Q=>∃ i j,x = .int i∧y = .int j∧Q (.int (i - j)) H
end
section
variable {X : Cx} {pins : List (Addr×Obj)} {σ : St} {H : Hp} {s : Shared} {A : Around} {E : Value→Shared→Prop} {Q : Value→Shared→Prop} {c : Value} {b : Bool}
inductive TyOf (K : PySem.W.Frag) (H : Hp) : V→Value→Prop where
  | non : TyOf K H .non (.type "NoneType")
  | bl (x : Bool) : TyOf K H (.bl x) (.type "bool")
  | int (i : Int) : TyOf K H (.int i) (.type "int")
  | str (x : Str) : TyOf K H (.str x) (.type "str")
  | flt (x : UInt64) : TyOf K H (.flt x) (.type "float")
  | lst {a : Addr} {xs : List V} (e : H a = some (.lst xs)) : TyOf K H (.ref a) (.type "list")
  | frz {a : Addr} {o : Obj} {xs : List V} (e : H a = some (.frz o (.lst xs))) : TyOf K H (.ref a) (.type "list")
  | tup {a : Addr} {xs : List V} (e : H a = some (.tup xs)) : TyOf K H (.ref a) (.type "tuple")
  | dK {a : Addr} {kvs : List (Key×V)} (e : H a = some (.dK kvs)) : TyOf K H (.ref a) (.type "dict")
  | dT {a : Addr} {kvs : List (List Key×V)} (e : H a = some (.dT kvs)) : TyOf K H (.ref a) (.type "dict")
  | ins {a C dx : Addr} {fs : List (Str×V)} (e : H a = some (.ins C dx fs)) (cl : Cls K C) (ha : PySem.W.findIn K (.ref C) "__class__" = some (some (.builtin "object.__class__")))
      (hn : PySem.W.specialIn K (.builtin "object.__class__") "__get__" = some (some (.builtin "getset_descriptor.__get__"))) (htk : PySem.W.takesIn K (.builtin "object.__class__") = some true)
      (hm : PySem.W.mroIn K C (.type "object") = some true) : TyOf K H (.ref a) (.ref C)
theorem zlp {x : V} {u t : Value} (I : Inv X pins σ H s) (rx : RelV x u) (ty : TyOf X.K H x t) (e : PySem.W.kitOne X.K t c = some b) (h : ∀ tk,Q (.bool b) { s with toks:=tk }) :
    wpAny (model X.prog X.w) A (call (.builtin "isinstance") [u,c]) Q E s:=by
  cases ty with
  | non=>cases (show u = Value.none from rx); exact PySem.W.kia_one PySem.W.kitx_none I.kIn True.intro e (fun z=>nomatch z) h
  | bl y=>cases (show u = Value.bool y from rx); exact PySem.W.kia_one PySem.W.kitx_bool I.kIn True.intro e (fun z=>nomatch z) h
  | int i=>obtain ⟨t,q⟩:=(show ∃ t,u = Value.int i t from rx); cases q; exact PySem.W.kia_one PySem.W.kitx_int I.kIn True.intro e (fun z=>nomatch z) h
  | str y=>obtain ⟨t,q⟩:=(show ∃ t,u = Value.str y t from rx); cases q; exact PySem.W.kia_one PySem.W.kitx_str I.kIn True.intro e (fun z=>nomatch z) h
  | flt y=>obtain ⟨t,q⟩:=(show ∃ t,u = Value.float y t from rx); cases q; exact PySem.W.kia_one PySem.W.kitx_float I.kIn True.intro e (fun z=>nomatch z) h
  | @lst a xs ea=>
    cases (show u = Value.ref a from rx)
    obtain ⟨_,_,n,_,h1⟩:=(show zbv X.prog X.w H s.heap a (.lst xs) from I.hok a _ ea)
    exact PySem.W.kia_one PySem.W.kitx_list I.kIn ⟨_,h1,rfl⟩ e (fun z=>nomatch z) h
  | @frz a ob xs ea=>
    cases (show u = Value.ref a from rx)
    obtain ⟨_,_,_,n,_,h1⟩:=(show zbv X.prog X.w H s.heap a (.frz ob (.lst xs)) from I.hok a _ ea)
    exact PySem.W.kia_one PySem.W.kitx_list I.kIn ⟨_,h1,rfl⟩ e (fun z=>nomatch z) h
  | @tup a xs ea=>
    cases (show u = Value.ref a from rx)
    obtain ⟨_,_,_,p⟩:=(show zbv X.prog X.w H s.heap a (.tup xs) from I.hok a _ ea)
    obtain ⟨o,h1,h2,_⟩:=p
    exact PySem.W.kia_one PySem.W.kitx_tuple I.kIn ⟨o,h1,h2⟩ e (fun z=>nomatch z) h
  | @dK a kvs ea=>
    cases (show u = Value.ref a from rx)
    obtain ⟨_,_,vs,_,p⟩:=(show zbv X.prog X.w H s.heap a (.dK kvs) from I.hok a _ ea)
    obtain ⟨o,es,ep,h1,h2,_⟩:=p
    exact PySem.W.kia_one PySem.W.kitx_dict I.kIn ⟨o,h1,h2.1⟩ e (fun z=>nomatch z) h
  | @dT a kvs ea=>
    cases (show u = Value.ref a from rx)
    obtain ⟨_,_,xs,_,o,es,ep,h1,h2,_⟩:=(show zbv X.prog X.w H s.heap a (.dT kvs) from I.hok a _ ea)
    exact PySem.W.kia_one PySem.W.kitx_dict I.kIn ⟨o,h1,h2.1⟩ e (fun z=>nomatch z) h
  | @ins a C dx fs ea cl ha hn htk hm=>
    cases (show u = Value.ref a from rx)
    obtain ⟨mA,O,_⟩:=zon I.hok ea
    obtain ⟨od,J,_⟩:=O.look
    exact PySem.W.kia_one (PySem.W.kitx_own (cl.get _) cl.hd ha hn htk hm) I.kIn J e (fun z=>nomatch z) h
end
end L2
namespace L2
open PySem PySem.Spec PyProof.Rows
structure Room (k : Nat) (A : Around) : Prop where
  hd : A.handled = none
  dp : A.depth + 3 * k + 5 < recursionLimit
  un : A.units + 16 * k + 200 < cLine
  gd : A.guards = some []
theorem Room.mono {j k : Nat} {A : Around} (r : Room k A) (h : j≤k) : Room j A:=⟨r.hd,by have:=r.dp; omega,by have:=r.un; omega,r.gd⟩
theorem Room.deeper {k : Nat} {A : Around} (r : Room (k + 1) A) (env : Env) : Room k (A.deeper env):=
  ⟨r.hd,by have:=r.dp; show A.depth + 1 + 3 * k + 5 < _; omega,by have:=r.un; show A.units + 3 + 16 * k + 200 < _; omega,r.gd⟩
theorem Room.in1 {k : Nat} {A : Around} (r : Room (k + 1) A) : Room k A.in1:=
  ⟨r.hd,by have:=r.dp; show A.depth + 3 * k + 5 < _; omega,by have:=r.un; show A.units + 1 + 16 * k + 200 < _; omega,r.gd⟩
theorem Room.depth {k : Nat} {A : Around} (r : Room k A) : A.depth < recursionLimit:=by have:=r.dp; omega
theorem Room.units {k : Nat} {A : Around} (r : Room k A) : A.units + 64 < cLine:=by have:=r.un; omega
def tNil : TA:=fun _ H Q=>Q [] H
def tCons (ta : TE) (tr : TA) : TA:=fun σ H Q=>ta σ H fun x H1=>tr σ H1 fun xs H2=>Q (x :: xs) H2
section
variable {X : Cx} {e : Expr} {es : List Expr} {te : TE} {t : TA} {pos : Pos}
theorem zad : PA X [] tNil:=fun _ _ _ _ H Q I h=>Calls.spliced_nil ⟨[],H,I,.nil,h⟩
theorem zaa (ha : PE X e te) (hr : PA X es t) (hs : starEach (e :: es) X.env = (false,eval e X.env) :: starEach es X.env:=by rfl) : PA X (e :: es) (tCons te t):=by
  intro pos pins s σ H Q I h
  rw [hs]
  show wpAny _ _ (spliced ((false,eval e X.env) :: backTo pos (starEach es X.env))) _ _ s
  refine Calls.spliced_cons (thn (ha pins s σ H _ I h) fun u s1 ⟨x,H1,I1,r1,q1⟩=>?_)
  exact thn (hr pos pins s1 σ H1 _ I1 q1) fun us s2 ⟨xs,H2,I2,r2,q2⟩=>⟨x :: xs,H2,I2,.cons r1 r2,q2⟩
def tTup (t : TA) : TE:=fun σ H Q=>t σ H fun xs H1=>xs.length≤sizeLine∧∀ p,H1 p = none→Q (.ref p) (upd H1 p (.tup xs))
def tLst (t : TA) : TE:=fun σ H Q=>t σ H fun xs H1=>xs.length≤sizeLine∧∀ p,H1 p = none→Q (.ref p) (upd H1 p (.lst xs))
theorem zb2 {x1} (h : PA X es t) : PE X (.Tuple es x1 pos) (tTup t):=by
  intro pins s σ H Q I hq
  refine wpAny_Tuple_spliced (thn (h pos pins s σ H _ I hq) fun us s1 ⟨xs,H1,I1,r,z,q⟩=>⟨by rw [← r.length]; exact z,?_⟩)
  have hf : H1 s1.heap.objs.size = none:=I1.hok.fresh (Nat.le_refl _)
  refine ⟨.ref s1.heap.objs.size,upd H1 s1.heap.objs.size (.tup xs),I1.laid (t':=s1.toks) (fun b u e=>Heap.get?_push_of_some _ e) (Nat.le_refl _) ?_,rfl,q _ hf⟩
  exact ⟨z,us,r,⟨_,Heap.get?_push_size _ rfl,rfl,_,rfl⟩⟩
theorem zbQ (h : PA X es t) : PE X (.List es pos) (tLst t):=by
  intro pins s σ H Q I hq
  refine wpAny_List_spliced (thn (h pos pins s σ H _ I hq) fun us s1 ⟨xs,H1,I1,r,z,q⟩=>⟨by rw [← r.length]; exact z,?_⟩)
  have hf : H1 s1.heap.objs.size = none:=I1.hok.fresh (Nat.le_refl _)
  refine ⟨.ref s1.heap.objs.size,upd H1 s1.heap.objs.size (.lst xs),I1.laid (t':=s1.toks) (fun b u e=>Heap.get?_push_of_some _ e) (Nat.le_refl _) ?_,rfl,q _ hf⟩
  exact ⟨z,us,0,r,Heap.get?_push_size _ rfl⟩
end
abbrev Sp:=List V→Hp→VK→XK→Prop
abbrev CXT:=List Env→Hp→Shared→XK→Value→Shared→Prop
structure Env0 (P : Program) (w : World) (K : PySem.W.Frag) (mg : Str→Option Value) (base : Heap) (A : Around) (outer : List Env) (s : Shared) (H : Hp) : Prop where
  frames : A.frames = some outer
  mod : Mod K mg base
  bs : ∀ b o,base.get? b = some o→s.heap.get? b = some o∧H b = none
  bsz : base.objs.size≤s.heap.objs.size
  funs : s.heap.FunFrames base outer
  frf : ∀ b∈frs outer,H b = none
  hok : HOk P w H s.heap
  bare : AllBare s.gens
def CE (outer : List Env) (P : Program) (w : World) (H : Hp) (s : Shared) (Q : VK) (u : Value) (s' : Shared) : Prop:=
  ∃ v H',s'.os = s.os∧AllBare s'.gens∧Un (frs outer) [] H H' s.heap s'.heap∧HOk P w H' s'.heap∧RelV v u∧Q v H'
def CR (CX : CXT) (outer : List Env) (P : Program) (w : World) (H : Hp) (s : Shared) (Q : VK) (E : XK) (r : Result) (s' : Shared) : Prop:=
  match r with
  | .ok (.ret u)=>CE outer P w H s Q u s'
  | .ok _=>False
  | .error e=>CX outer H s E e s'
structure FnOk (P : Program) (w : World) (K : PySem.W.Frag) (mg : Str→Option Value) (base : Heap) (CX : CXT) (k : Nat) (f : Addr) (fd : FuncData) (ps : List Str) (sp : Sp) : Prop where
  len : ∀ vs H Q E,sp vs H Q E→vs.length = ps.length
  run : ∀ (A : Around) (outer : List Env) (s : Shared) (H : Hp) (args : Args) (us : List Value) (vs : List V) (Q : VK) (E : XK),Room k A→Env0 P w K mg base A outer s H→BindsTo s fd args (ps.zip us)→Vals vs us→sp vs H Q E→
    codeAny (model P w) A (.call (.ref f) args) (CR CX outer P w H s Q E) s
theorem FnOk.mono {P : Program} {w : World} {K : PySem.W.Frag} {mg : Str→Option Value} {base : Heap} {CX : CXT} {j k : Nat} {f : Addr} {fd : FuncData} {ps : List Str} {sp : Sp} (F : FnOk P w K mg base CX j f fd ps sp) (h : j≤k) :
    FnOk P w K mg base CX k f fd ps sp:=⟨F.len,fun A outer s H args us vs Q E hr=>F.run A outer s H args us vs Q E (hr.mono h)⟩
theorem FnOk.imp {P : Program} {w : World} {K : PySem.W.Frag} {mg : Str→Option Value} {base : Heap} {CX : CXT} {k : Nat} {f : Addr} {fd : FuncData} {ps : List Str} {sp sp' : Sp} (F : FnOk P w K mg base CX k f fd ps sp)
    (h : ∀ vs H Q E,sp' vs H Q E→sp vs H Q E) : FnOk P w K mg base CX k f fd ps sp':=
  ⟨fun vs H Q E q=>F.len vs H Q E (h _ _ _ _ q),fun A outer s H args us vs Q E hr he hb hv hs=>F.run A outer s H args us vs Q E hr he hb hv (h _ _ _ _ hs)⟩
theorem Env0.in1 {P : Program} {w : World} {K : PySem.W.Frag} {mg : Str→Option Value} {base : Heap} {A : Around} {outer : List Env} {s : Shared} {H : Hp} (e : Env0 P w K mg base A outer s H) :
    Env0 P w K mg base A.in1 outer s H:=⟨e.frames,e.mod,e.bs,e.bsz,e.funs,e.frf,e.hok,e.bare⟩
section
variable {X : Cx} {pins : List (Addr×Obj)} {σ : St} {H : Hp} {s s' : Shared}
theorem Inv.env0 (I : Inv X pins σ H s) : Env0 X.prog X.w X.K X.mg X.base X.A X.stack s H:=
  ⟨I.ok.frames,I.ok.mod,I.bs,Nat.le_trans I.ok.bsz I.sz,I.stack,I.stkFree,I.hok,I.bare⟩
theorem Inv.after {Q : VK} {u : Value} (I : Inv X pins σ H s) (h : CE X.stack X.prog X.w H s Q u s') : EP X pins σ Q u s':=by
  obtain ⟨v,H',os,bare,un,hok,r,q⟩:=h
  obtain ⟨hh,g,d,t,os'⟩:=s'
  obtain rfl : os' = s.os:=os
  exact ⟨v,H',I.call (h':=hh) (g':=g) (d':=d) (t':=t) (ch:=[]) un hok bare (fun b z=>absurd z (by simp)),r,q⟩
end
def tCall (sp : Sp) (dvs : List V) (E : XK) (t : TA) : TE:=fun σ H Q=>t σ H fun vs H1=>sp (vs ++ dvs) H1 Q E
def tMeth (C : Addr) (m : Str) (sp : Sp) (dvs : List V) (E : XK) (ta : TE) (t : TA) : TE:=fun σ H Q=>ta σ H fun x H1=>∃ a dx fs,x = .ref a∧H1 a = some (.ins C dx fs)∧fs.lookup m = none∧
  t σ H1 fun vs H2=>sp (x :: (vs ++ dvs)) H2 Q E
def tMake (C : Addr) (sp : Sp) (dvs : List V) (E : XK) (t : TA) : TE:=fun σ H Q=>t σ H fun vs H1=>∀ x dx,H1 x = none→H1 dx = none→dx≠x→
  sp (.ref x :: (vs ++ dvs)) (upd (upd H1 dx (.own x)) x (.ins C dx [])) (fun v H2=>v = .non∧Q (.ref x) H2) E
def zgT (K : PySem.W.Frag) (fd : FuncData) (ps : List Str) (ds : List Value) : Prop:=
  ∀ (s : Shared) (us : List Value),K.In s.heap→(us ++ ds).length = ps.length→BindsTo s fd ⟨us,[]⟩ (ps.zip (us ++ ds))
theorem zgT.all {K : PySem.W.Frag} {fd : FuncData} {ps : List Str} (h : ∀ us : List Value,us.length = ps.length→bindArgs fd ⟨us,[]⟩ = pure (ps.zip us)) : zgT K fd ps []:=fun s us _ hl=>by
  rw [List.append_nil] at hl ⊢
  exact .of_eq (h us hl)
def zlY (CX : CXT) (X : Cx) (E : XK) : Prop:=∀ (pins : List (Addr×Obj)) (σ : St) (H : Hp) (s : Shared) (e : Value) (s' : Shared),Inv X pins σ H s→CX X.stack H s E e s'→X.xe e s'
section
variable {X : Cx} {CX : CXT} {k : Nat} {f C : Addr} {fd : FuncData} {ps : List Str} {sp : Sp} {dvs : List V} {ds : List Value} {E : XK} {x m : Str} {p pos apos : Pos} {e o : Expr} {es : List Expr} {ta : TE} {t : TA}
theorem znm {pins : List (Addr×Obj)} {σ : St} {H : Hp} {s : Shared} {Q : VK} {us : List Value} {vs : List V} (F : FnOk X.prog X.w X.K X.mg X.base CX k f fd ps sp) (hr : Room k X.A) (hb : zgT X.K fd ps ds) (hd : Vals dvs ds) (hx : zlY CX X E)
    (I : Inv X pins σ H s) (r : Vals vs us) (h : sp (vs ++ dvs) H Q E) : wpAny (model X.prog X.w) X.A (call (.ref f) us) (EP X pins σ Q) X.xe s:=by
  have r2 : Vals (vs ++ dvs) (us ++ ds):=r.append hd
  have hl : (us ++ ds).length = ps.length:=by rw [← r2.length]; exact F.len _ _ _ _ h
  refine wpAny_call (codeAny_mono (F.run X.A X.stack s H ⟨us,[]⟩ (us ++ ds) (vs ++ dvs) Q E hr I.env0 (hb s us I.kIn hl) r2 h) fun r s' hq=>?_)
  cases r with
  | error e=>exact hx pins σ H s e s' I hq
  | ok fl=>
    cases fl with
    | ret u=>exact I.after hq
    | next=>exact False.elim hq
    | brk=>exact False.elim hq
    | cont=>exact False.elim hq
theorem zn3 (F : FnOk X.prog X.w X.K X.mg X.base CX k f fd ps sp) (hr : Room k X.A) (hg : Gl X x) (hm : X.mg x = some (.ref f)) (hk : PySem.W.keepIn X.K (.ref f) = true) (hb : zgT X.K fd ps ds) (hd : Vals dvs ds) (hx : zlY CX X E)
    (ha : PA X (e :: es) t) (hdb : (x == ("__debug__" : Str)) = false:=by decide) (he : starEach (e :: es) X.env = (false,eval e X.env) :: starEach es X.env:=by rfl) (hpl : (backTo pos (starEach es X.env)).any (·.1) = false:=by rfl) :
    PE X (.Call (.Name x p) (e :: es) [] pos) (tCall sp dvs E t):=by
  intro pins s σ H Q I h
  refine wpAny_Call_Name_kw (zfn I hg hm ?_ hdb)
  refine PySem.W.callWith_K (h₀:=X.base) I.ok.mod.kin hk (thn (ha pos pins s σ H _ I h) fun us s1 ⟨vs,H1,I1,r,q⟩=>⟨I1.kIn,?_⟩) he hpl
  exact znm F hr hb hd hx I1 r q
structure Mk (K : PySem.W.Frag) (C f : Addr) : Prop where
  makes : PySem.W.makesIn K C = true
  init : PySem.W.findIn K (.ref C) "__init__" = some (some (.ref f))
  fn : PySem.W.isFn K (.ref f) = true
  kp : PySem.W.keepIn K (.ref C) = true
end
def PK (X : Cx) (kws : List Keyword) (t : TA) : Prop:=
  ∀ (pos : Pos) (pins : List (Addr×Obj)) (s : Shared) (σ : St) (H : Hp) (Q : List V→Hp→Prop),Inv X pins σ H s→t σ H Q→wpAny (model X.prog X.w) X.A (evalAll ((backToKw pos (keywordEach kws X.env)).map (·.2))) (AP X pins σ Q) X.xe s
section
variable {X : Cx} {CX : CXT} {k : Nat} {f C : Addr} {fd : FuncData} {ps ks : List Str} {sp : Sp} {E : XK} {x m : Str} {p pos apos kpos : Pos} {e o : Expr} {es : List Expr} {kws : List Keyword} {te ta : TE} {t tk : TA} {nm : Option Str}
structure KBinds (K : PySem.W.Frag) (fd : FuncData) (ps ks : List Str) (g : List Value→List Value→List Value) (gV : List V→List V→List V) : Prop where
  to : ∀ (s : Shared) (us ws : List Value),K.In s.heap→(g us ws).length = ps.length→BindsTo s fd ⟨us,ks.zip ws⟩ (ps.zip (g us ws))
  rel : ∀ {vs : List V} {us : List Value} {zs : List V} {ws : List Value},Vals vs us→Vals zs ws→Vals (gV vs zs) (g us ws)
def tCallK (sp : Sp) (gV : List V→List V→List V) (E : XK) (t tk : TA) : TE:=fun σ H Q=>t σ H fun vs H1=>tk σ H1 fun zs H2=>sp (gV vs zs) H2 Q E
variable {g : List Value→List Value→List Value} {gV : List V→List V→List V}
end
structure zao (N P : List Str) (sc : Scope) : Prop where
  kind : sc.kind = .function
  co : sc.isCoroutine = false
  gen : sc.isGenerator = false
  nd : N.Nodup
  pre : N.take P.length = P
  par : ∀ x∈P,sc.names.lookup x = some .local∨sc.names.lookup x = some .cell
  nofree : ∀ y∈sc.names,y.2≠.free
theorem zhz {kindOf : Str→Option NameKind} {x : Str} : ∀ {binds : List (Str×Value)} {m : Str→Option Value},(∀ v,(x,v)∉binds)→bindL kindOf binds m x = m x
  | [],_,_=>rfl
  | (n,v) :: r,m,h=>by
    unfold bindL
    rw [zhz fun w hw=>h w (List.mem_cons_of_mem _ hw)]
    split
    · have : x≠n:=by rintro rfl; exact h v List.mem_cons_self
      simp [this]
    · rfl
theorem zhB {kindOf : Str→Option NameKind} {x : Str} : ∀ {binds : List (Str×Value)} {m : Str→Option Value},(∀ v,(x,v)∉binds)→bindC kindOf binds m x = m x
  | [],_,_=>rfl
  | (n,v) :: r,m,h=>by
    unfold bindC
    rw [zhB fun w hw=>h w (List.mem_cons_of_mem _ hw)]
    split
    · rfl
    · have : x≠n:=by rintro rfl; exact h v List.mem_cons_self
      simp [this]
theorem zhA {kindOf : Str→Option NameKind} {x : Str} {v : Value} : ∀ {P : List Str} {vs : List Value} {i : Nat} {m : Str→Option Value},P.Nodup→P[i]? = some x→vs[i]? = some v→kindOf x = some .local→
    bindL kindOf (P.zip vs) m x = some v
  | [],_,_,_,_,h,_,_=>by simp at h
  | _ :: _,[],_,_,_,_,h,_=>by simp at h
  | p :: P,w :: vs,0,m,nd,h1,h2,hk=>by
    simp at h1 h2; subst h1; subst h2
    show bindL kindOf ((p,w) :: P.zip vs) m p = _
    unfold bindL
    rw [zhz fun v hv=>(List.nodup_cons.mp nd).1 (List.of_mem_zip hv).1,if_pos hk]
    simp
  | p :: P,w :: vs,i + 1,m,nd,h1,h2,hk=>by
    show bindL kindOf ((p,w) :: P.zip vs) m x = _
    unfold bindL
    exact zhA (i:=i) (List.nodup_cons.mp nd).2 (by simpa using h1) (by simpa using h2) hk
theorem zhC {kindOf : Str→Option NameKind} {x : Str} {v : Value} : ∀ {P : List Str} {vs : List Value} {i : Nat} {m : Str→Option Value},P.Nodup→P[i]? = some x→vs[i]? = some v→kindOf x≠some .local→
    bindC kindOf (P.zip vs) m x = some v
  | [],_,_,_,_,h,_,_=>by simp at h
  | _ :: _,[],_,_,_,_,h,_=>by simp at h
  | p :: P,w :: vs,0,m,nd,h1,h2,hk=>by
    simp at h1 h2; subst h1; subst h2
    show bindC kindOf ((p,w) :: P.zip vs) m p = _
    unfold bindC
    rw [zhB fun v hv=>(List.nodup_cons.mp nd).1 (List.of_mem_zip hv).1,if_neg hk]
    simp
  | p :: P,w :: vs,i + 1,m,nd,h1,h2,hk=>by
    show bindC kindOf ((p,w) :: P.zip vs) m x = _
    unfold bindC
    exact zhC (i:=i) (List.nodup_cons.mp nd).2 (by simpa using h1) (by simpa using h2) hk
def zcp (N : List Str) (vs : List V) : St:=vs.map some ++ List.replicate (N.length - vs.length) none
def cxOf (CX : CXT) (P : Program) (w : World) (K : PySem.W.Frag) (mg : Str→Option Value) (base : Heap) (N : List Str) (qual : Str) (scope : Scope) (f : Addr) (cd : Value) (A : Around) (outer : List Env) (s : Shared) (H : Hp) (E : XK) : Cx where
  prog:=P
  w:=w
  K:=K
  mg:=mg
  base:=base
  A:=A.deeper (envOfC qual scope s.heap.objs.size f cd)
  N:=N
  s₀:=s
  H₀:=H
  env:=envOfC qual scope s.heap.objs.size f cd
  outer:=outer
  stack:=envOfC qual scope s.heap.objs.size f cd :: outer
  ex:=[]
  calm:=true
  fn:=fun _=>true
  pn:=[]
  xe:=fun e s'=>wpAny (model P w) (A.deeper (envOfC qual scope s.heap.objs.size f cd)) (leaving (envOfC qual scope s.heap.objs.size f cd) e) (fun _ s''=>CX outer H s E e s'') (fun e' s''=>CX outer H s E e' s'') s'
theorem zjj {sc : Scope} {n : Nat} {x : Str} (h : sc.names.lookup x = some .cell) : ∃ c,(cellsFrom n sc.names []).lookup x = some c:=by
  have q:=PySem.W.cellsFrom_some sc.names n [] (.inl h)
  exact Option.isSome_iff_exists.mp q
theorem zlq {CX : CXT} {P : Program} {w : World} {K : PySem.W.Frag} {mg : Str→Option Value} {base : Heap} {N ps : List Str} {qual : Str} {scope : Scope} {f : Addr} {cd : Value} {A : Around} {outer : List Env} {s s1 : Shared} {H : Hp} {E : XK} {us : List Value} {vs : List V}
    (S : zao N ps scope) (hd : A.handled = none) (e0 : Env0 P w K mg base A outer s H) (hl : vs.length = ps.length) (r : Vals vs us)
    (x : InCallC s s.heap.objs.size (bindL (envOfC qual scope s.heap.objs.size f cd).kindOf (ps.zip us) fun _=>none) (cellsFrom (s.heap.objs.size + 1) scope.names []) (bindC (envOfC qual scope s.heap.objs.size f cd).kindOf (ps.zip us) fun _=>none) s1) :
    Inv (cxOf CX P w K mg base N qual scope f cd A outer s H E) [] (zcp N vs) H s1:=by
  have hpl : ps.length≤N.length:=by have:=congrArg List.length S.pre; rw [List.length_take] at this; omega
  obtain ⟨h1,tk,rfl,hk⟩:=x.done
  have noA : ∀ b : Addr,b∉(cxOf CX P w K mg base N qual scope f cd A outer s H E).ex:=fun b z=>absurd (show b∈([] : List Addr) from z) (by simp)
  refine ⟨⟨e0.mod,S.kind,rfl,rfl,Nat.le_refl _,fun y z c h1 h2=>?_,fun y hy=>?_,fun y c _ h=>?_,fun _=>hd,Around.frames_deeper e0.frames,.inr ⟨rfl,rfl⟩,fun b z=>absurd z (noA b),e0.bs,e0.bsz,fun b _ _=>noA b,fun b z=>absurd z (noA b),e0.funs,e0.frf⟩,
    rfl,e0.bare,Un.kept hk,⟨_,x.toInCall.ns,fun i y v h1 h2 h3=>?_⟩,fun y c h=>⟨_,x.cell y c h⟩,e0.hok.fresh (Nat.le_refl _),fun y c h=>?_,fun p hp=>absurd (show p∈([] : List (Addr×Obj)) from hp) (by simp),e0.hok.kept hk,?_⟩
  · exact name_of_addr x.apart (PySem.mem_of_lookup h1) (PySem.mem_of_lookup h2)
  · have hy : scope.names.lookup y = some .cell∨scope.names.lookup y = some .free:=hy
    rcases hy with hy | hy
    · exact zjj hy
    · exact absurd rfl (S.nofree _ (PySem.mem_of_lookup hy))
  · exact Nat.le_of_lt (x.above y c (PySem.mem_of_lookup h))
  · have hi : i < vs.length:=by
      unfold zcp at h2
      by_cases hi : i < vs.length
      · exact hi
      · rw [List.getElem?_append_right (by simpa using hi)] at h2
        rw [List.getElem?_replicate] at h2
        split at h2 <;> cases h2
    have ha : vs[i]? = some v:=by
      unfold zcp at h2
      rw [List.getElem?_append_left (by simpa using hi),List.getElem?_map] at h2
      cases e : vs[i]? with
      | none=>rw [e] at h2; cases h2
      | some a=>rw [e] at h2; cases h2; rfl
    obtain ⟨u,hu,rv⟩:=r.get ha
    have hp : ps[i]? = some y:=by
      rw [← S.pre,List.getElem?_take_of_lt (by omega)]; exact h1
    have ndP : ps.Nodup:=by rw [← S.pre]; exact S.nd.sublist (List.take_sublist _ _)
    refine ⟨u,rv,?_⟩
    rcases S.par y (List.mem_of_getElem? hp) with k | k
    · exact .inl ⟨k,zhA ndP hp hu k⟩
    · obtain ⟨c,e⟩:=zjj (n:=s.heap.objs.size + 1) k
      refine .inr ⟨.inl k,c,e,?_⟩
      have q:=x.cell y c e
      rw [zhC ndP hp hu (by show scope.names.lookup y≠_; rw [k]; decide)] at q
      exact q
  · exact e0.hok.fresh (Nat.le_of_lt (x.above y c (PySem.mem_of_lookup h)))
  · unfold zcp
    show _ = N.length
    rw [List.length_append,List.length_map,List.length_replicate]
    omega
theorem fn_of {CX : CXT} {P : Program} {w : World} {K : PySem.W.Frag} {mg : Str→Option Value} {base : Heap} {k : Nat} {f : Addr} {name qual : Str} {params : Arguments} {body : List Stmt} {scope : Scope} {dV kV doc pm cdv ct oc : Value} {an od : Option Addr}
    {osl : Array (Option Value)} {N ps : List Str} {sp : Sp} (lk : K.lookup f = some ⟨oc,od,.func (PySem.W.fnOf name qual params body scope dV kV doc pm an cdv ct),osl⟩) (hcd : PySem.W.codeIn K cdv qual = true) (S : zao N ps scope)
    (len : ∀ vs H Q E,sp vs H Q E→vs.length = ps.length)
    (hbody : ∀ (A : Around) (outer : List Env) (s : Shared) (H : Hp) (vs : List V) (Q : VK) (E : XK),Room k (A.deeper (envOfC qual scope s.heap.objs.size f cdv))→sp vs H Q E→
      ∃ t,PSs (cxOf CX P w K mg base N qual scope f cdv A outer s H E) body t∧t { nx:=fun _ H'=>Q .non H',rt:=Q } (zcp N vs) H) :
    FnOk P w K mg base CX (k + 1) f (PySem.W.fnOf name qual params body scope dV kV doc pm an cdv ct) ps sp:=by
  refine ⟨len,fun A outer s H args us vs Q E hr e0 hb r hsp=>?_⟩
  have hl:=len _ _ _ _ hsp
  have KX : K.In s.heap:=e0.mod.kin.keeps fun b o e=>(e0.bs b o e).1
  have lim : s.heap.NoLimit:=e0.mod.nolimit.keeps fun b o e=>(e0.bs b o e).1
  have hkind : ∀ y∈ps.zip us,scope.names.lookup y.1 = some .local∨(scope.names.lookup y.1 = some .cell∧((cellsFrom (s.heap.objs.size + 1) scope.names []).lookup y.1).isSome = true):=fun ⟨n,v⟩ hy=>by
    rcases S.par n (List.of_mem_zip hy).1 with q | q
    · exact .inl q
    · exact .inr ⟨q,PySem.W.cellsFrom_some _ _ _ (.inl q)⟩
  refine codeAny_call_function hr.depth (KX _ _ lk) rfl S.co S.gen rfl (PySem.W.codeRec_of KX hcd) (hb _ _ _ _ ?_)
  refine wpAny_newFunctionEnv_cells S.kind hkind fun env he s1 x=>?_
  subst he
  refine ⟨lim.keeps x.toInCall.keep,codeAny_func ?_⟩
  obtain ⟨t,ht,hq⟩:=hbody A outer s H vs Q E (hr.deeper _) hsp
  have I : Inv (cxOf CX P w K mg base N qual scope f cdv A outer s H E) [] (zcp N vs) H s1:=zlq S hr.hd e0 hl r x
  refine wpAny_mono (ht [] s1 (zcp N vs) H _ I hq) (fun fl s' hs=>?_) fun e s' hs=>hs
  have fin : ∀ {σ' : St} {H' : Hp} {v : V} {u : Value},Inv (cxOf CX P w K mg base N qual scope f cdv A outer s H E) [] σ' H' s'→RelV v u→Q v H'→CE outer P w H s Q u s':=
    fun {σ' H' v u} J rv q=>⟨v,H',J.os,J.bare,J.base,J.hok,rv,q⟩
  cases fl with
  | ret u=>
    obtain ⟨v,σ',H',J,rv,q⟩:=hs
    exact fin J rv q
  | next=>
    obtain ⟨σ',H',J,q⟩:=hs
    exact fin (v:=V.non) (u:=Value.none) J rfl q
  | brk=>
    obtain ⟨_,_,_,q⟩:=hs
    exact False.elim q
  | cont=>
    obtain ⟨_,_,_,q⟩:=hs
    exact False.elim q
end L2
namespace L2
open PySem PySem.Spec PyProof.Rows
section
variable {X : Cx} {x : Str} {p pos : Pos} {e : Expr} {es : List Expr} {t : TA} {id T : String} {r : List V→Hp→VK→Prop}
def tCB (r : List V→Hp→VK→Prop) (t : TA) : TE:=fun σ H Q=>t σ H fun vs H1=>r vs H1 Q
theorem zap (hc : zeg X (.builtin id) r) (hg : Gl X x) (hm : X.mg x = none) (hv : bootBuiltins x = some (.builtin id)) (ha : PA X (e :: es) t) (hn : x ≠ "__name__":=by decide) (hdb : (x == ("__debug__" : Str)) = false:=by decide)
    (he : starEach (e :: es) X.env = (false,eval e X.env) :: starEach es X.env:=by rfl) (hpl : (backTo pos (starEach es X.env)).any (·.1) = false:=by rfl) : PE X (.Call (.Name x p) (e :: es) [] pos) (tCB r t):=by
  intro pins s σ H Q I h
  refine wpAny_Call_Name_kw (zdy I hg hm hv ?_ hn hdb)
  exact PyProof.Rows.callWith_builtin1 (thn (ha pos pins s σ H _ I h) fun us s1 ⟨vs,H1,I1,r1,q1⟩=>hc pins s1 σ H1 vs us Q I1 r1 q1) he hpl
theorem zbL (hc : zeg X (.type T) r) (hg : Gl X x) (hm : X.mg x = none) (hv : bootBuiltins x = some (.type T)) (ha : PA X (e :: es) t) (hn : x ≠ "__name__":=by decide) (hdb : (x == ("__debug__" : Str)) = false:=by decide)
    (he : starEach (e :: es) X.env = (false,eval e X.env) :: starEach es X.env:=by rfl) (hpl : (backTo pos (starEach es X.env)).any (·.1) = false:=by rfl) : PE X (.Call (.Name x p) (e :: es) [] pos) (tCB r t):=by
  intro pins s σ H Q I h
  refine wpAny_Call_Name_kw (zdy I hg hm hv ?_ hn hdb)
  exact PyProof.Rows.callWith_type1 (thn (ha pos pins s σ H _ I h) fun us s1 ⟨vs,H1,I1,r1,q1⟩=>hc pins s1 σ H1 vs us Q I1 r1 q1) he hpl
end
end L2
namespace HT
open PySem PyProof.Rows
def lexLt : List Int→List Int→Bool
  | [],[]=>false
  | [],_ :: _=>true
  | _ :: _,[]=>false
  | x :: xs,y :: ys=>if x = y then lexLt xs ys else decide (x < y)
section
open PySem.SeqAt
open PySem.AutoSeq1 (wpAny_loadPart')
open PySem.MeetsSeq PySem.MeetsSeq2 PySem.MeetsSeq3
end
section
variable {prog : Program} {w : World} {A : Around} {E : Value→Shared→Prop} {s : Shared}
def sIx (n d : Nat) : Option Int→Nat
  | none=>d
  | some v=>if v < 0 then (v + (n : Int)).toNat else min v.toNat n
theorem zgj (n d k : Nat) : sIx n d (some (k : Int)) = min k n:=by
  show (if (k : Int) < 0 then ((k : Int) + (n : Int)).toNat else min (k : Int).toNat n) = min k n
  rw [if_neg (by omega),Int.toNat_natCast]
end
end HT
namespace L2
open PySem PySem.Spec PyProof.Rows
abbrev TO:=St→Hp→(Option Int→Hp→Prop)→Prop
def PO (X : Cx) (e : Option Expr) (t : TO) : Prop:=
  ∀ (pins : List (Addr×Obj)) (s : Shared) (σ : St) (H : Hp) (Q : Option Int→Hp→Prop),Inv X pins σ H s→t σ H Q→
    wpAny (model X.prog X.w) X.A (evalPart e X.env) (fun u s'=>∃ o H',Inv X pins σ H' s'∧IsPart u o∧Q o H') X.xe s
def znR : TO:=fun _ H Q=>Q none H
def tPart (t : TE) : TO:=fun σ H Q=>t σ H fun x H1=>∃ i,x = .int i∧Q (some i) H1
section
variable {X : Cx} {e : Expr} {te : TE} {lo hi : Option Expr} {tl th : TO} {pos p2 : Pos}
theorem zhQ : PO X none znR:=by
  intro pins s σ H Q I h
  rw [evalPart_none]
  exact wpAny_pure ⟨none,H,I,.none,h⟩
theorem zdG (h : PE X e te) : PO X (some e) (tPart te):=by
  intro pins s σ H Q I hw
  rw [evalPart_some]
  refine thn (h pins s σ H _ I hw) fun u s1 ⟨x,H1,I1,r1,q1⟩=>?_
  obtain ⟨i,rfl,q⟩:=q1
  obtain ⟨t,rfl⟩:=r1
  exact ⟨some i,H1,I1,.int i t,q⟩
def SlR (X : Cx) (r : V→Option Int→Option Int→Hp→VK→Prop) : Prop:=
  ∀ (pins : List (Addr×Obj)) (s : Shared) (σ : St) (H : Hp) (x : V) (v vl vu : Value) (lo hi : Option Int) (sl : Addr) (Q : VK),Inv X pins σ H s→RelV x v→s.heap.IsSliceOf sl vl vu .none→IsPart vl lo→IsPart vu hi→r x lo hi H Q→
    ∃ T id,typeLookup (.type T) "__getitem__" = pure (some (.builtin id))∧s.TypeIs v T∧wpAny (model X.prog X.w) X.A (getItem v (.ref sl)) (EP X pins σ Q) X.xe s
def tSl (r : V→Option Int→Option Int→Hp→VK→Prop) (te : TE) (tl th : TO) : TE:=fun σ H Q=>te σ H fun x H1=>tl σ H1 fun l H2=>th σ H2 fun u H3=>r x l u H3 Q
theorem zd3 {r : V→Option Int→Option Int→Hp→VK→Prop} (hr : SlR X r) (he : PE X e te) (hl : PO X lo tl) (hu : PO X hi th) : PE X (.Subscript e (.Slice lo hi none p2) pos) (tSl r te tl th):=by
  intro pins s σ H Q I h
  refine Subscript_ (thn (he pins s σ H _ I h) fun v s1 ⟨x,H1,I1,r1,q1⟩=>?_)
  refine wpAny_Slice (thn (hl pins s1 σ H1 _ I1 q1) fun vl s2 ⟨l,H2,I2,pl,q2⟩=>thn (hu pins s2 σ H2 _ I2 q2) fun vu s3 ⟨u,H3,I3,pu,q3⟩=>?_)
  rw [evalPart_none]
  refine wpAny_pure ?_
  have I4 : Inv X pins σ H3 { s3 with heap:=s3.heap.push { cls:=.type "slice",data:=.fields #[vl,vu,.none] } }:=I3.kept (t':=s3.toks) fun b ob q=>Heap.get?_push_of_some _ q
  obtain ⟨T,id,hT,ht,hg⟩:=hr pins { s3 with heap:=s3.heap.push { cls:=.type "slice",data:=.fields #[vl,vu,.none] } } σ H3 x v vl vu l u s3.heap.objs.size Q I4 r1 (Heap.IsSliceOf.new ..) pl pu q3
  show wpAny (model X.prog X.w) X.A (subscriptTail e (.Slice lo hi none p2) v (.ref s3.heap.objs.size)) (EP X pins σ Q) X.xe { s3 with heap:=s3.heap.push { cls:=.type "slice",data:=.fields #[vl,vu,.none] } }
  exact tail_any (ops:=[.ref s3.heap.objs.size,v]) ht hT hg (by with_unfolding_all rfl)
def cutV (xs : List V) (lo hi : Option Int) : List V:=(xs.drop (HT.sIx xs.length 0 lo)).take (HT.sIx xs.length xs.length hi - HT.sIx xs.length 0 lo)
theorem zig (xs : List V) (lo hi : Option Int) : (cutV xs lo hi).length≤xs.length:=by
  unfold cutV
  rw [List.length_take,List.length_drop]
  omega
def rSlT (K : PySem.W.Frag) : V→Option Int→Option Int→Hp→VK→Prop:=fun x lo hi H Q=>∃ a xs,x = .ref a∧SqT K H a xs∧
  ¬ (HT.sIx xs.length 0 lo = 0∧HT.sIx xs.length xs.length hi = xs.length)∧∀ p,H p = none→Q (.ref p) (upd H p (.tup (cutV xs lo hi)))
def rLtT (K : PySem.W.Frag) : R2:=fun x y H Q=>∃ a b ns ms,x = .ref a∧y = .ref b∧SqT K H a (ns.map V.int)∧SqT K H b (ms.map V.int)∧Q (.bl (HT.lexLt ns ms)) H
def rCatT (K : PySem.W.Frag) : R2:=fun x y H Q=>∃ a b xs ys,x = .ref a∧y = .ref b∧SqT K H a xs∧SqT K H b ys∧xs≠[]∧xs.length + ys.length≤sizeLine∧
  (ys = []→Q (.ref a) H)∧(ys≠[]→∀ p,H p = none→Q (.ref p) (upd H p (.tup (xs ++ ys))))
end
end L2
namespace L2
open PySem PySem.Spec PyProof.Rows
def ixN (n : Nat) (i : Int) : Option Nat:=if 0≤i then (if i < n then some i.toNat else none) else if -(n : Int)≤i then some (i + n).toNat else none
def atI {α : Type} (xs : List α) (i : Int) : Option α:=(ixN xs.length i).bind fun j=>xs[j]?
theorem zln {n : Nat} {i : Int} {j : Nat} (h : ixN n i = some j) : seqIndex? i n = some j∧j < n∧-(n : Int)≤i∧i < n:=by
  unfold ixN at h
  by_cases h0 : 0≤i
  · rw [if_pos h0] at h
    by_cases h1 : i < n
    · rw [if_pos h1] at h
      have e : i.toNat = j:=Option.some.inj h
      exact ⟨by rw [seqIndex_of h0 h1,e],by omega,by omega,h1⟩
    · rw [if_neg h1] at h; cases h
  · rw [if_neg h0] at h
    by_cases h1 : -(n : Int)≤i
    · rw [if_pos h1] at h
      have e : (i + n).toNat = j:=Option.some.inj h
      exact ⟨by rw [seqIndex_neg (by omega) h1,e],by omega,h1,by omega⟩
    · rw [if_neg h1] at h; cases h
theorem zlX {α : Type} {xs : List α} {i : Int} {v : α} (h : atI xs i = some v) : ∃ j,seqIndex? i xs.length = some j∧xs[j]? = some v∧j < xs.length∧-(xs.length : Int)≤i∧i < xs.length:=by
  unfold atI at h
  cases e : ixN xs.length i with
  | none=>rw [e] at h; cases h
  | some j=>
    rw [e] at h
    obtain ⟨h1,h2,h3,h4⟩:=zln e
    exact ⟨j,h1,h,h2,h3,h4⟩
theorem zaJ {α : Type} {xs : List α} {j : Nat} {v : α} (h : xs[j]? = some v) : atI xs (j : Int) = some v:=by
  have hj : j < xs.length:=(List.getElem?_eq_some_iff.mp h).1
  have e : ixN xs.length (j : Int) = some j:=by
    unfold ixN
    rw [if_pos (by omega),if_pos (by omega)]; simp
  unfold atI; rw [e]; exact h
def zoG (b : Expr) : Prop:=∀ o i,subscripted b false o i = operate [o,i] (getItem o i)
def IxR (X : Cx) (r : R2) : Prop:=
  ∀ (value slice : Expr) (pins : List (Addr×Obj)) (s : Shared) (σ : St) (H : Hp) (x y : V) (v u : Value) (Q : VK),Inv X pins σ H s→RelV x v→RelV y u→r x y H Q→
    subscripted slice false v u = operate [v,u] (getItem v u)→wpAny (model X.prog X.w) X.A (subscriptTail value slice v u) (EP X pins σ Q) X.xe s
def MtR (X : Cx) (id : String) (r : V→List V→Hp→VK→Prop) : Prop:=
  ∀ (pins : List (Addr×Obj)) (s : Shared) (σ : St) (H : Hp) (x : V) (xs : List V) (v : Value) (us : List Value) (Q : VK),Inv X pins σ H s→RelV x v→Vals xs us→r x xs H Q→
    wpAny (model X.prog X.w) X.A (call (.builtin id) (v :: us)) (EP X pins σ Q) X.xe s
section
variable {X : Cx} {a b : Expr} {ta tb : TE} {pos : Pos}
theorem zaB {r : R2} (hr : IxR X r) (ha : PE X a ta) (hb : PE X b tb) (hs : zoG b) : PE X (.Subscript a b pos) (tOp r ta tb):=by
  intro pins s σ H Q I h
  exact Subscript_ (binT ha hb I h fun v u s2 x y H2 I2 rx ry q=>hr a b pins s2 σ H2 x y v u Q I2 rx ry q (hs _ _))
def rIxL (K : PySem.W.Frag) : R2:=fun x y H Q=>∃ p xs i v,x = .ref p∧y = .int i∧SqL K H p xs∧atI xs i = some v∧Q v H
def rIxT (K : PySem.W.Frag) : R2:=fun x y H Q=>∃ p xs i v,x = .ref p∧y = .int i∧SqT K H p xs∧atI xs i = some v∧Q v H
def rIxS : R2:=fun x y H Q=>∃ z i c,x = .str z∧y = .int i∧z.length≤sizeLine∧atI z.cps.toList i = some c∧Q (.str ⟨#[c]⟩) H
theorem zaz : IxR X (rIxL X.K):=by
  intro value slice pins s σ H x y v u Q I rx ry h hs
  obtain ⟨p,xs,i,z,rfl,rfl,hq,he,q⟩:=h
  cases rx
  obtain ⟨t,rfl⟩:=ry
  obtain ⟨its,r,pl,hz⟩:=I.list hq
  obtain ⟨j,h1,h2,h3,h4,h5⟩:=zlX he
  obtain ⟨w,ew,rw'⟩:=r.get h2
  have hl:=r.length
  have hn:=zi2
  have fin : EP X pins σ Q w s:=⟨z,H,I,rw',q⟩
  by_cases h0 : 0≤i
  · have hj : i.toNat = j:=by
      rw [seqIndex_of h0 h5] at h1
      exact Option.some.inj h1
    exact item_listR pl.isList h0 (by omega) (by rw [hj]; simpa using ew) fin hs
  · have hj : (i + (its.toArray.size : Int)).toNat = j:=by
      rw [seqIndex_neg (by omega) h4] at h1
      rw [List.size_toArray,← hl]
      exact Option.some.inj h1
    exact subscriptTail_builtinR (x:=w) pl.isList.typeIs slot_list_getitem.lookup
      (wpAny_getItem_list_neg (Q:=fun r s'=>r = w∧EP X pins σ Q r s') pl.isList (by omega) (by rw [List.size_toArray] <;> omega) (by omega) (by rw [hj]; simpa using ew) ⟨rfl,fin⟩) hs
theorem zaL : IxR X (rIxT X.K):=by
  intro value slice pins s σ H x y v u Q I rx ry h hs
  obtain ⟨p,xs,i,z,rfl,rfl,hq,he,q⟩:=h
  cases rx
  obtain ⟨t,rfl⟩:=ry
  obtain ⟨its,r,pl,hz⟩:=I.tuple hq
  obtain ⟨j,h1,h2,h3,h4,h5⟩:=zlX he
  obtain ⟨w,ew,rw'⟩:=r.get h2
  have hl:=r.length
  have hn:=zi2
  have fin : EP X pins σ Q w s:=⟨z,H,I,rw',q⟩
  exact subscriptTail_builtinR (x:=w) pl.typeIs slot_tuple_getitem.lookup
    (getItem_tuple (j:=j) (Q:=fun r s'=>r = w∧EP X pins σ Q r s') pl (by omega) (by omega) (by rw [List.size_toArray,← hl]; exact h1) (by simpa using ew) ⟨rfl,fin⟩) hs
def rIx (K : PySem.W.Frag) : R2:=fun x y H Q=>rIxL K x y H Q∨rIxT K x y H Q∨rIxS x y H Q
theorem zjK (its : List Value) (n j : Nat) (u : Value) : Obj.mapSeq (·.setIfInBounds j u) { cls:=.type "list",data:=.seq its.toArray n } = { cls:=.type "list",data:=.seq (its.set j u).toArray n }:=by
  simp [Obj.mapSeq]
theorem Inv.lst {pins : List (Addr×Obj)} {σ : St} {H : Hp} {s : Shared} {p : Addr} {xs : List V} (I : Inv X pins σ H s) (h : H p = some (.lst xs)) :
    ∃ (its : List Value) (n : Nat),Vals xs its∧s.heap.get? p = some { cls:=.type "list",data:=.seq its.toArray n }∧xs.length≤sizeLine:=by
  obtain ⟨z,its,n,r,e⟩:=I.hok p _ h
  exact ⟨its,n,r,e,z⟩
theorem Inv.lstUpd {pins : List (Addr×Obj)} {σ : St} {H : Hp} {s : Shared} {p : Addr} {xs ys : List V} {its its' : List Value} {n n' : Nat} {f : Obj→Obj} (I : Inv X pins σ H s) (h : H p = some (.lst xs))
    (ho : s.heap.get? p = some { cls:=.type "list",data:=.seq its.toArray n }) (hf : f { cls:=.type "list",data:=.seq its.toArray n } = { cls:=.type "list",data:=.seq its'.toArray n' }) (r : Vals ys its') (hz : ys.length≤sizeLine) (t : Nat) :
    Inv X pins σ (upd H p (.lst ys)) { s with heap:=s.heap.update p f,toks:=t }:=by
  have e : (s.heap.update p f).get? p = some { cls:=.type "list",data:=.seq its'.toArray n' }:=by
    rw [Heap.get?_update_self f ho (by rw [hf] <;> rfl),hf]
  refine I.write (x:=p) (e:=p) (by rw [h]; trivial) (.inl rfl) (fun b u hb q=>(Heap.get?_update_other _ _ (Ne.symm hb)).trans q) ⟨_,e⟩ ?_
  exact ⟨hz,its',n',r,e⟩
def rSetL : V→V→V→Hp→(Hp→Prop)→Prop:=fun o i v H Q=>∃ p xs k j,o = .ref p∧i = .int k∧H p = some (.lst xs)∧ixN xs.length k = some j∧Q (upd H p (.lst (xs.set j v)))
theorem ziL : PSet X rSetL:=by
  intro pins s σ H o i v ov iv u Q I ro ri rv h
  obtain ⟨p,xs,k,j,rfl,rfl,hp,hj,q⟩:=h
  cases ro
  obtain ⟨t,rfl⟩:=ri
  obtain ⟨its,n,r,ho,hz⟩:=I.lst hp
  obtain ⟨h1,h2,h3,h4⟩:=zln hj
  have hl:=r.length
  have hn:=zi2
  have I' : Inv X pins σ (upd H p (.lst (xs.set j v))) { s with heap:=s.heap.update p (Obj.mapSeq (·.setIfInBounds j u)) }:=
    I.lstUpd hp ho (zjK its n j u) (r.set rv j) (by rw [List.length_set]; exact hz) s.toks
  by_cases h0 : 0≤k
  · have hk : k.toNat = j:=by
      rw [seqIndex_of h0 h4] at h1
      exact Option.some.inj h1
    exact PySem.W.ki_setAt ho h0 (by omega) (by rw [List.size_toArray,← hl]; exact h4) (by rw [hk]; exact ⟨_,I',q⟩)
  · have hk : (k + (its.toArray.size : Int)).toNat = j:=by
      rw [seqIndex_neg (by omega) h3] at h1
      rw [List.size_toArray,← hl]
      exact Option.some.inj h1
    exact PySem.W.ki_setBack ho (by omega) (by rw [List.size_toArray,← hl]; exact h3) (by omega) (by rw [hk]; exact ⟨_,I',q⟩)
theorem zg2 (lo hi : Option Int) (n : Nat) : (sliceBounds lo hi none n).1 = ((HT.sIx n 0 lo : Nat) : Int)∧(sliceBounds lo hi none n).2.1 = ((HT.sIx n n hi : Nat) : Int)∧(sliceBounds lo hi none n).2.2 = 1:=by
  refine ⟨?_,?_,rfl⟩
  · cases lo with
    | none=>simp [sliceBounds,HT.sIx]
    | some i=>
      simp only [sliceBounds,HT.sIx,Option.getD_none,show (1 : Int) > 0 by decide,if_true]
      by_cases h : i < 0
      · simp only [h,if_true] <;> omega
      · simp only [h,if_false] <;> omega
  · cases hi with
    | none=>simp [sliceBounds,HT.sIx]
    | some i=>
      simp only [sliceBounds,HT.sIx,Option.getD_none,show (1 : Int) > 0 by decide,if_true]
      by_cases h : i < 0
      · simp only [h,if_true] <;> omega
      · simp only [h,if_false] <;> omega
theorem zge (its : List Value) (lo hi : Option Int) : slicePick its.toArray lo hi none = ((its.drop (HT.sIx its.length 0 lo)).take (HT.sIx its.length its.length hi - HT.sIx its.length 0 lo)).toArray:=by
  obtain ⟨h1,h2,h3⟩:=zg2 lo hi its.toArray.size
  unfold slicePick
  rw [h1,h2,h3]
  simp only [sliceRange_one,pick_run,List.size_toArray] <;> rfl
def rSlL (K : PySem.W.Frag) : V→Option Int→Option Int→Hp→VK→Prop:=fun x lo hi H Q=>∃ a xs,x = .ref a∧SqL K H a xs∧∀ p,H p = none→Q (.ref p) (upd H p (.lst (cutV xs lo hi)))
theorem zfc : SlR X (rSlL X.K):=by
  intro pins s σ H x v vl vu lo hi sl Q I rx hs pl pu h
  obtain ⟨a,xs,rfl,hx,q⟩:=h
  cases rx
  obtain ⟨its,r,ht,hz⟩:=I.list hx
  have hlen:=r.length
  refine ⟨"list",_,slot_list_getitem.lookup,ht.isList.typeIs,?_⟩
  refine wpAny_getItem_list_slice ht.isList hs pl pu .none (by simp) ?_ (by rw [List.size_toArray] <;> omega)
  rw [zge,← hlen]
  refine ⟨.ref s.heap.objs.size,_,I.laid (t':=s.toks) (o:=.lst (cutV xs lo hi)) (fun b ob q=>Heap.get?_push_of_some _ q) (Nat.le_refl _) ?_,rfl,q _ (I.hok.fresh (Nat.le_refl _))⟩
  exact ⟨Nat.le_trans (zig xs lo hi) hz,_,0,(r.drop (HT.sIx xs.length 0 lo)).take (HT.sIx xs.length xs.length hi - HT.sIx xs.length 0 lo),Heap.get?_push_size _ rfl⟩
def zfH : V→Bool
  | .non=>true
  | .bl _=>true
  | .int _=>true
  | .str _=>true
  | _=>false
def eqV : V→V→Bool
  | .non,.non=>true
  | .bl a,.bl b=>a == b
  | .bl a,.int b=>(if a then 1 else 0) == b
  | .int a,.bl b=>a == (if b then 1 else 0)
  | .int a,.int b=>a == b
  | .str a,.str b=>a == b
  | _,_=>false
theorem eqAt_V {A : Around} {s : Shared} {y x : V} {u v : Value} (ry : RelV y u) (rx : RelV x v) (fy : zfH y = true) (fx : zfH x = true) : SeqAt.EqAt A s u v (eqV y x):=by
  cases y with
  | non=>
    cases ry
    cases x with
    | non=>cases rx; exact SeqAt.EqAt.same _
    | bl b=>cases rx; exact SeqAt.EqAt.none_bool b
    | int b=>obtain ⟨t,rfl⟩:=rx; exact SeqAt.EqAt.none_int b t
    | str b=>obtain ⟨t,rfl⟩:=rx; exact SeqAt.EqAt.none_str b t
    | _=>exact absurd (show false = true from fx) Bool.false_ne_true
  | bl a=>
    cases ry
    cases x with
    | non=>cases rx; exact SeqAt.EqAt.bool_none a
    | bl b=>cases rx; exact SeqAt.EqAt.bool_bool a b
    | int b=>obtain ⟨t,rfl⟩:=rx; exact SeqAt.EqAt.bool_int a b t
    | str b=>obtain ⟨t,rfl⟩:=rx; exact SeqAt.EqAt.bool_str a b t
    | _=>exact absurd (show false = true from fx) Bool.false_ne_true
  | int a=>
    obtain ⟨t',rfl⟩:=ry
    cases x with
    | non=>cases rx; exact SeqAt.EqAt.int_none a t'
    | bl b=>cases rx; exact SeqAt.EqAt.int_bool a t' b
    | int b=>obtain ⟨t,rfl⟩:=rx; exact SeqAt.EqAt.int_int a t' b t
    | str b=>obtain ⟨t,rfl⟩:=rx; exact SeqAt.EqAt.int_str a t' b t
    | _=>exact absurd (show false = true from fx) Bool.false_ne_true
  | str a=>
    obtain ⟨t',rfl⟩:=ry
    cases x with
    | non=>cases rx; exact SeqAt.EqAt.str_none a t'
    | bl b=>cases rx; exact SeqAt.EqAt.str_bool a t' b
    | int b=>obtain ⟨t,rfl⟩:=rx; exact SeqAt.EqAt.str_int a t' b t
    | str b=>obtain ⟨t,rfl⟩:=rx; exact SeqAt.EqAt.str_str a t' b t
    | _=>exact absurd (show false = true from fx) Bool.false_ne_true
  | _=>exact absurd (show false = true from fy) Bool.false_ne_true
def eqU (x : V) (u : Value) : Bool:=match u with
  | .none=>eqV .non x
  | .bool b=>eqV (.bl b) x
  | .int i _=>eqV (.int i) x
  | .str z _=>eqV (.str z) x
  | _=>false
theorem znA {x y : V} {u : Value} (r : RelV y u) (f : zfH y = true) : eqU x u = eqV y x:=by
  cases y with
  | non=>cases r; rfl
  | bl b=>cases r; rfl
  | int i=>obtain ⟨t,rfl⟩:=r; rfl
  | str z=>obtain ⟨t,rfl⟩:=r; rfl
  | _=>exact absurd (show false = true from f) Bool.false_ne_true
theorem zfD {x : V} : ∀ {xs : List V} {us : List Value},Vals xs us→xs.all zfH = true→us.any (eqU x) = xs.any fun y=>eqV y x
  | _,_,.nil,_=>rfl
  | y :: xs,u :: us,.cons r t,f=>by
    rw [List.all_cons,Bool.and_eq_true] at f
    rw [List.any_cons,List.any_cons,znA r f.1,zfD t f.2]
theorem zd7 {A : Around} {s : Shared} {x : V} {v : Value} (rx : RelV x v) (fx : zfH x = true) : ∀ {xs : List V} {us : List Value},Vals xs us→xs.all zfH = true→∀ u∈us,SeqAt.EqAt A s u v (eqU x u)
  | _,_,.nil,_=>fun u hu=>by cases hu
  | y :: xs,u :: us,.cons r t,f=>fun u' hu=>by
    rw [List.all_cons,Bool.and_eq_true] at f
    rcases List.mem_cons.mp hu with rfl | hu
    · rw [znA r f.1]; exact eqAt_V r rx f.1 fx
    · exact zd7 rx fx t f.2 u' hu
def inV (x : V) (xs : List V) : Bool:=xs.any fun y=>eqV y x
def rIn (K : PySem.W.Frag) (neg : Bool) : R2:=fun x y H Q=>∃ p xs,y = .ref p∧(SqL K H p xs∨SqT K H p xs)∧zfH x = true∧xs.all zfH = true∧Q (.bl (if neg then !inV x xs else inV x xs)) H
theorem zkM : OpR X (compareOp .In) (rIn X.K false):=by
  intro pins s σ H x y v u Q I rx ry h
  obtain ⟨p,xs,rfl,hq,fx,fs,q⟩:=h
  cases ry
  rcases hq with hq | hq
  · obtain ⟨its,r,pl,hz⟩:=I.list hq
    refine SeqAt.in_listAt (eqU x) pl.isList (fun w hw=>zd7 rx fx r fs w (by simpa using hw)) ⟨.bl _,H,I,rfl,?_⟩
    rw [show its.toArray.any (eqU x) = its.any (eqU x) by simp,zfD r fs]
    exact q
  · obtain ⟨its,r,pl,hz⟩:=I.tuple hq
    refine SeqAt.in_tupleAt (eqU x) pl (fun w hw=>zd7 rx fx r fs w (by simpa using hw)) ⟨.bl _,H,I,rfl,?_⟩
    rw [show its.toArray.any (eqU x) = its.any (eqU x) by simp,zfD r fs]
    exact q
theorem zet : OpR X (compareOp .NotIn) (rIn X.K true):=by
  intro pins s σ H x y v u Q I rx ry h
  obtain ⟨p,xs,rfl,hq,fx,fs,q⟩:=h
  cases ry
  rcases hq with hq | hq
  · obtain ⟨its,r,pl,hz⟩:=I.list hq
    refine SeqAt.notIn_listAt (eqU x) pl.isList (fun w hw=>zd7 rx fx r fs w (by simpa using hw)) ⟨.bl _,H,I,rfl,?_⟩
    rw [show its.toArray.any (eqU x) = its.any (eqU x) by simp,zfD r fs]
    exact q
  · obtain ⟨its,r,pl,hz⟩:=I.tuple hq
    refine SeqAt.notIn_tupleAt (eqU x) pl (fun w hw=>zd7 rx fx r fs w (by simpa using hw)) ⟨.bl _,H,I,rfl,?_⟩
    rw [show its.toArray.any (eqU x) = its.any (eqU x) by simp,zfD r fs]
    exact q
theorem zam : zeg X (.builtin "len") (fun xs H Q=>∃ p ys,xs = [.ref p]∧(SqL X.K H p ys∨SqT X.K H p ys)∧Q (.int ys.length) H):=by
  intro pins s σ H xs us Q I r h
  obtain ⟨p,ys,rfl,hq,q⟩:=h
  obtain ⟨u,rfl,rx⟩:=zgb r
  cases rx
  have hn:=zi2
  rcases hq with hq | hq
  · obtain ⟨its,r',pl,hz⟩:=I.list hq
    have hlen:=r'.length
    exact Calls.call_len_list pl.isList (by simp only [List.size_toArray] <;> omega) ⟨.int ys.length,H,I.tok _,⟨s.toks + 1,by rw [List.size_toArray,hlen]⟩,q⟩
  · obtain ⟨its,r',pl,hz⟩:=I.tuple hq
    have hlen:=r'.length
    exact len_tuple pl (by simp only [List.size_toArray] <;> omega) ⟨.int ys.length,H,I.tok _,⟨s.toks + 1,by rw [List.size_toArray,hlen]⟩,q⟩
theorem zeD : zeg X (.type "list") (fun xs H Q=>∃ p ys,xs = [.ref p]∧(SqL X.K H p ys∨SqT X.K H p ys)∧∀ l,H l = none→Q (.ref l) (upd H l (.lst ys))):=by
  intro pins s σ H xs us Q I r h
  obtain ⟨p,ys,rfl,hq,q⟩:=h
  obtain ⟨u,rfl,rx⟩:=zgb r
  cases rx
  have fin : ∀ (its : List Value),Vals ys its→ys.length≤sizeLine→∀ (h' : Heap) (c' : Nat),(∀ b o',s.heap.get? b = some o'→h'.get? b = some o')→
      h'.get? s.heap.objs.size = some { cls:=.type "list",dict:=none,data:=.seq its.toArray c',slots:=#[] }→EP X pins σ Q (.ref s.heap.objs.size) { s with heap:=h' }:=fun its r' hz h' c' kp e=>
    ⟨.ref s.heap.objs.size,_,I.laid (t':=s.toks) kp (Nat.le_refl _) (show zbv X.prog X.w _ h' _ (.lst ys) from ⟨hz,its,c',r',e⟩),rfl,q _ (I.hok.fresh (Nat.le_refl _))⟩
  rcases hq with hq | hq
  · obtain ⟨its,r',pl,hz⟩:=I.list hq
    have hlen:=r'.length
    obtain ⟨o,ho,hc,n,hd⟩:=pl.isList
    exact call_list_seq p (.inl rfl) ho hc hd (fun h' c' kp e=>fin its r' hz h' c' kp e) (by simp only [List.size_toArray] <;> omega)
  · obtain ⟨its,r',pl,hz⟩:=I.tuple hq
    have hlen:=r'.length
    obtain ⟨o,ho,hc,n,hd⟩:=pl
    exact call_list_seq p (.inr rfl) ho hc hd (fun h' c' kp e=>fin its r' hz h' c' kp e) (by simp only [List.size_toArray] <;> omega)
theorem zcO : zeg X (.type "tuple") (fun xs H Q=>∃ p ys,xs = [.ref p]∧((SqL X.K H p ys∧∀ l,H l = none→Q (.ref l) (upd H l (.tup ys)))∨(SqT X.K H p ys∧Q (.ref p) H))):=by
  intro pins s σ H xs us Q I r h
  obtain ⟨p,ys,rfl,h⟩:=h
  obtain ⟨u,rfl,rx⟩:=zgb r
  cases rx
  rcases h with ⟨hq,q⟩ | ⟨hq,q⟩
  · obtain ⟨its,r',pl,hz⟩:=I.list hq
    have hlen:=r'.length
    refine call_tuple_list pl.isList (fun h' kp=>?_) (by simp only [List.size_toArray] <;> omega)
    have I1 : Inv X pins σ H { s with heap:=h' }:=I.kept (t':=s.toks) kp
    have I2 : Inv X pins σ (upd H h'.objs.size (.tup ys)) { s with heap:=h'.push { cls:=.type "tuple",data:=.seq its.toArray } }:=
      I1.laid (t':=s.toks) (fun b o e=>Heap.get?_push_of_some _ e) (Nat.le_refl _) (show zbv X.prog X.w _ _ _ (.tup ys) from ⟨hz,its,r',IsTup.new _ _⟩)
    exact ⟨.ref h'.objs.size,_,I2,rfl,q _ (I1.hok.fresh (Nat.le_refl _))⟩
  · obtain ⟨its,r',pl,hz⟩:=I.tuple hq
    exact call_tuple_same pl ⟨.ref p,H,I,rfl,q⟩
def tyV (K : PySem.W.Frag) (T : String) (x : V) (H : Hp) : Prop:=match x with
  | .str _=>T = "str"
  | .int _=>T = "int"
  | .ref p=>(T = "list"∧∃ xs,SqL K H p xs)∨(T = "tuple"∧∃ o,K.lookup p = some o∧o.cls = .type "tuple"∧o.dict = none)∨
      (T = "dict"∧((∃ kvs,H p = some (.dK kvs))∨∃ kvs,H p = some (.dT kvs)))∨(T = "set"∧∃ S n,H p = some (.set S n))
  | _=>False
theorem zna {pins : List (Addr×Obj)} {σ : St} {H : Hp} {s : Shared} {T : String} {x : V} {v : Value} (I : Inv X pins σ H s) (r : RelV x v) (ty : tyV X.K T x H) :
    s.TypeIs v T∧∀ a,v = .ref a→∃ ob,s.heap.get? a = some ob∧ob.dict = none:=by
  cases x with
  | str z=>
    obtain ⟨t,rfl⟩:=r
    cases (show T = "str" from ty)
    exact ⟨typeIs_str s z t,fun _ e=>nomatch e⟩
  | int i=>
    obtain ⟨t,rfl⟩:=r
    cases (show T = "int" from ty)
    exact ⟨typeIs_int s i t,fun _ e=>nomatch e⟩
  | ref p=>
    cases r
    rcases ty with ⟨rfl,xs,hq⟩ | ⟨rfl,o,hk,hc,hd⟩ | ⟨rfl,hk⟩ | ⟨rfl,S,n,hk⟩
    · obtain ⟨its,_,pl,_⟩:=I.list hq
      refine ⟨pl.isList.typeIs,fun a e=>?_⟩
      cases e
      obtain ⟨o,n,e,c,hd,_⟩:=pl
      exact ⟨o,e,hd⟩
    · refine ⟨⟨o,I.kIn p o hk,hc⟩,fun a e=>?_⟩
      cases e
      exact ⟨o,I.kIn _ o hk,hd⟩
    · have z : ∃ o,s.heap.get? p = some o∧o.ExactDict:=by
        rcases hk with ⟨kvs,hk⟩ | ⟨kvs,hk⟩
        · obtain ⟨_,_,_,_,o,_,_,e,ex,_⟩:=I.hok p _ hk
          exact ⟨o,e,ex⟩
        · obtain ⟨_,_,_,_,o,_,_,e,ex,_⟩:=I.hok p _ hk
          exact ⟨o,e,ex⟩
      obtain ⟨o,e,ex⟩:=z
      refine ⟨⟨o,e,ex.1⟩,fun a e2=>?_⟩
      cases e2
      exact ⟨o,e,ex.2.1⟩
    · obtain ⟨o,_,_,_,e,ex,_⟩:=I.hok p _ hk
      refine ⟨⟨o,e,ex.1⟩,fun a e2=>?_⟩
      cases e2
      exact ⟨o,e,ex.2.1⟩
  | _=>exact False.elim ty
def tBM0 (K : PySem.W.Frag) (T : String) (r : V→List V→Hp→VK→Prop) (to : TE) : TE:=fun σ H Q=>to σ H fun x H1=>tyV K T x H1∧r x [] H1 Q
def tBM (K : PySem.W.Frag) (T : String) (r : V→List V→Hp→VK→Prop) (to : TE) (t : TA) : TE:=fun σ H Q=>to σ H fun x H1=>tyV K T x H1∧t σ H1 fun xs H2=>r x xs H2 Q
variable {o e : Expr} {es : List Expr} {to : TE} {t : TA} {name : Str} {apos cpos : Pos} {T id : String} {r : V→List V→Hp→VK→Prop}
theorem pe_bm0 (pa : PlainAttrs T) (slot : Slot T name id) (hty : typeOf (.builtin id) = pure (.type "method_descriptor")) (hm : MtR X id r) (ho : PE X o to)
    (hbase : attributeBase o name X.env (eval o X.env) = eval o X.env:=by rfl) (hline : (apos.endLine == cpos.line) = true:=by rfl) : PE X (.Call (.Attribute o name apos) [] [] cpos) (tBM0 X.K T r to):=by
  intro pins s σ H Q I h
  refine wpAny_Call_method0_late hbase hline (thn (ho pins s σ H _ I h) fun v s1 ⟨x,H1,I1,r1,ty,q1⟩=>?_)
  obtain ⟨h1,h2⟩:=zna I1 r1 ty
  exact ⟨T,id,pa,slot,hty,h1,h2,Calls.callWith_builtin rfl (PySem.evalArgs_none (hm pins s1 σ H1 x [] v [] Q I1 r1 .nil q1))⟩
theorem zd4 (pa : PlainAttrs T) (slot : Slot T name id) (hty : typeOf (.builtin id) = pure (.type "method_descriptor")) (hm : MtR X id r) (ho : PE X o to) (ha : PA X (e :: es) t)
    (hbase : attributeBase o name X.env (eval o X.env) = eval o X.env:=by rfl)
    (hfew : ((backTo cpos (starEach (e :: es) X.env)).all (fun x=>!x.1) && (backToKw cpos (keywordEach [] X.env)).all (fun x=>x.1.isSome)
      && decide ((e :: es).length + ([] : List Keyword).length + (if ([] : List Keyword).isEmpty then 0 else 1) < 30)) = true:=by rfl)
    (hline : (apos.endLine == cpos.line) = true:=by rfl) (hs : starEach (e :: es) X.env = (false,eval e X.env) :: starEach es X.env:=by rfl) (hplain : (backTo cpos (starEach es X.env)).any (·.1) = false:=by rfl) :
    PE X (.Call (.Attribute o name apos) (e :: es) [] cpos) (tBM X.K T r to t):=by
  intro pins s σ H Q I h
  refine wpAny_Call_method_late hbase hfew hline rfl (thn (ho pins s σ H _ I h) fun v s1 ⟨x,H1,I1,r1,ty,q1⟩=>?_)
  obtain ⟨h1,h2⟩:=zna I1 r1 ty
  refine ⟨T,id,pa,slot,hty,h1,h2,?_⟩
  have hA:=ha cpos pins s1 σ H1 _ I1 q1
  rw [hs] at hA ⊢
  refine Calls.callWith_builtin (by show (false || (backTo cpos (starEach es X.env)).any (·.1)) = false; rw [hplain] <;> rfl) (Calls.evalArgs_plain ?_)
  exact thn hA fun us s2 ⟨vs,H2,I2,r2,q2⟩=>hm pins s2 σ H2 x vs v us Q I2 r1 r2 q2
end
end L2
namespace L2
open PySem PySem.Spec PyProof.Rows
def MtM (X : Cx) (id : String) (r : V→List V→Hp→VK→Prop) : Prop:=
  ∀ (pins : List (Addr×Obj)) (s : Shared) (σ : St) (H : Hp) (x : V) (xs : List V) (v : Value) (us : List Value) (Q : VK),Inv X pins σ H s→RelV x v→Vals xs us→r x xs H Q→
    wpAny (model X.prog X.w) X.A (call (.builtin id) (v :: us)) (EP X pins σ Q) X.xe s
theorem Vals.one : ∀ {x : V} {us : List Value},Vals [x] us→∃ u,us = [u]∧RelV x u
  | _,_,.cons r .nil=>⟨_,rfl,r⟩
theorem Vals.zero : ∀ {us : List Value},Vals [] us→us = []
  | _,.nil=>rfl
theorem Vals.dropLast {xs : List V} {us : List Value} (h : Vals xs us) : Vals xs.dropLast us.dropLast:=by
  induction h with
  | nil=>exact .nil
  | cons r t ih=>
    cases t with
    | nil=>exact .nil
    | cons q t'=>exact .cons r ih
theorem Vals.eraseIdx : ∀ {xs : List V} {us : List Value} (i : Nat),Vals xs us→Vals (xs.eraseIdx i) (us.eraseIdx i)
  | _,_,_,.nil=>.nil
  | _,_,0,.cons _ t=>t
  | _,_,i + 1,.cons r t=>.cons r (Vals.eraseIdx i t)
theorem Vals.reverse {xs : List V} {us : List Value} (h : Vals xs us) : Vals xs.reverse us.reverse:=by
  induction h with
  | nil=>exact .nil
  | cons r t ih=>rw [List.reverse_cons,List.reverse_cons]; exact Vals.append ih (.cons r .nil)
section
variable {X : Cx} {pins : List (Addr×Obj)} {σ : St} {H : Hp} {s : Shared} {l b : Addr} {xs ys zs : List V}
theorem Inv.lset {its its' : List Value} {n : Nat} {f : Array Value→Array Value} {t' : Nat} (I : Inv X pins σ H s) (hH : H l = some (.lst xs))
    (e : s.heap.get? l = some { cls:=.type "list",data:=.seq its.toArray n }) (hf : f its.toArray = its'.toArray) (hv : Vals ys its') (hz : ys.length≤sizeLine) :
    Inv X pins σ (upd H l (.lst ys)) { s with heap:=s.heap.update l (Obj.mapSeq f),toks:=t' }:=by
  have q:=PySem.IsL.update e f
  rw [hf] at q
  refine I.write (x:=l) (e:=l) (by rw [hH]; exact trivial) (.inl rfl) (fun b' u hb hu=>(Heap.get?_update_other s.heap (Obj.mapSeq f) (Ne.symm hb)).trans hu) ⟨_,q⟩ ?_
  exact ⟨hz,its',_,hv,q⟩
theorem Inv.lnew {its : List Value} {t' : Nat} (I : Inv X pins σ H s) (hv : Vals ys its) (hz : ys.length≤sizeLine) :
    Inv X pins σ (upd H s.heap.objs.size (.lst ys)) { s with heap:=s.heap.push { cls:=.type "list",data:=.seq its.toArray },toks:=t' }:=
  I.laid (fun _ _ q=>Heap.get?_push_of_some _ q) (Nat.le_refl _) ⟨hz,its,0,hv,Heap.get?_push_size _ rfl⟩
theorem Inv.fresh (I : Inv X pins σ H s) : H s.heap.objs.size = none:=I.hok.fresh (Nat.le_refl _)
theorem Inv.lstM (I : Inv X pins σ H s) (hH : H l = some (.lst xs)) : xs.length≤sizeLine∧∃ (its : List Value) (n : Nat),Vals xs its∧xs.length = its.length∧s.heap.get? l = some { cls:=.type "list",data:=.seq its.toArray n }:=by
  obtain ⟨z,its,n,r,e⟩:=I.hok l _ hH
  exact ⟨z,its,n,r,r.length,e⟩
theorem zmz {n : Nat} (h : n≤sizeLine) : Builtin.List.listTooLong n = false:=by
  unfold Builtin.List.listTooLong
  exact decide_eq_false (by omega)
end
section
variable {X : Cx}
def zn0 : V→List V→Hp→VK→Prop:=fun x vs H Q=>∃ l xs y,x = .ref l∧vs = [y]∧H l = some (.lst xs)∧xs.length < sizeLine∧Q .non (upd H l (.lst (xs ++ [y])))
theorem za2 : MtM X "list.append" zn0:=by
  intro pins s σ H x vs v us Q I rx rv h
  obtain ⟨l,xs,y,rfl,rfl,hH,hz,q⟩:=h
  cases rx
  obtain ⟨u,rfl,ru⟩:=rv.one
  obtain ⟨z,its,n,r,hl,e⟩:=I.lstM hH
  refine call_meets F.slot_list_append ⟨_,e,rfl⟩ F.entry_list_append (F.args_list_append_2 _ _) (PySem.list_append l its.toArray n u (by rw [List.size_toArray]; omega)) ⟨e,?_⟩
  refine ⟨.non,_,I.lset (its':=its ++ [u]) hH e (by simp) (r.append (.cons ru .nil)) ?_,rfl,q⟩
  rw [List.length_append,List.length_singleton]
  omega
def znY : V→List V→Hp→VK→Prop:=fun x vs H Q=>∃ l b xs zs,x = .ref l∧vs = [.ref b]∧H l = some (.lst xs)∧H b = some (.lst zs)∧xs.length + zs.length≤sizeLine∧Q .non (upd H l (.lst (xs ++ zs)))
theorem zk1 : MtM X "list.extend" znY:=by
  intro pins s σ H x vs v us Q I rx rv h
  obtain ⟨l,b,xs,zs,rfl,rfl,hH,hB,hz,q⟩:=h
  cases rx
  obtain ⟨u,rfl,ru⟩:=rv.one
  cases ru
  obtain ⟨z,its,n,r,hl,e⟩:=I.lstM hH
  obtain ⟨z2,its2,n2,r2,hl2,e2⟩:=I.lstM hB
  have hsz : its.toArray.size + its2.toArray.size≤sizeLine:=by rw [List.size_toArray,List.size_toArray]; omega
  have hlong : ¬ (!its.toArray.isEmpty && Builtin.List.listTooLong (its.toArray.size + its2.toArray.size)) = true:=by
    rw [zmz hsz,Bool.and_false]
    exact Bool.false_ne_true
  refine call_meets F.slot_list_extend ⟨_,e,rfl⟩ F.entry_list_extend (F.args_list_extend_2 _ _)
    (AutoSeq1.list_extend_list_list_0 l its.toArray n b its2.toArray n2 hlong (by rw [List.size_toArray]; omega) (by omega)) ⟨e,e2,?_⟩
  refine ⟨.non,_,I.lset (its':=its ++ its2) hH e (by simp) (r.append r2) ?_,rfl,q⟩
  rw [List.length_append]
  omega
def rPop : V→List V→Hp→VK→Prop:=fun x vs H Q=>∃ l xs y,x = .ref l∧vs = []∧H l = some (.lst xs)∧xs[xs.length - 1]? = some y∧Q y (upd H l (.lst xs.dropLast))
def rPopAt : V→List V→Hp→VK→Prop:=fun x vs H Q=>∃ l xs i k y,x = .ref l∧vs = [.int i]∧H l = some (.lst xs)∧-(2 ^ 63)≤i∧i < 2 ^ 63∧seqIndex? i xs.length = some k∧xs[k]? = some y∧Q y (upd H l (.lst (xs.eraseIdx k)))
def rReverse : V→List V→Hp→VK→Prop:=fun x vs H Q=>∃ l xs,x = .ref l∧vs = []∧H l = some (.lst xs)∧Q .non (upd H l (.lst xs.reverse))
def rClear : V→List V→Hp→VK→Prop:=fun x vs H Q=>∃ l xs,x = .ref l∧vs = []∧H l = some (.lst xs)∧Q .non (upd H l (.lst []))
def rCat : R2:=fun x y H Q=>∃ l b xs zs,x = .ref l∧y = .ref b∧H l = some (.lst xs)∧H b = some (.lst zs)∧xs.length + zs.length≤sizeLine∧∀ p,H p = none→Q (.ref p) (upd H p (.lst (xs ++ zs)))
theorem op_cat : OpR X (binaryOp .Add) rCat:=by
  intro pins s σ H x y v u Q I rx ry h
  obtain ⟨l,b,xs,zs,rfl,rfl,hH,hB,hz,q⟩:=h
  cases rx
  cases ry
  obtain ⟨z,its,n,r,hl,e⟩:=I.lstM hH
  obtain ⟨z2,its2,n2,r2,hl2,e2⟩:=I.lstM hB
  refine PySem.P.add_list e e2 ?_ (by rw [List.size_toArray,List.size_toArray]; omega)
  have ea : its.toArray ++ its2.toArray = (its ++ its2).toArray:=by simp
  rw [ea]
  exact ⟨.ref _,_,I.lnew (t':=s.toks) (r.append r2) (by rw [List.length_append]; omega),rfl,q _ I.fresh⟩
def rRep : R2:=fun x y H Q=>∃ l k xs,x = .ref l∧y = .int k∧H l = some (.lst xs)∧-(2 ^ 63)≤k∧k < 2 ^ 63∧xs.length * k.toNat≤sizeLine∧
  ∀ p,H p = none→Q (.ref p) (upd H p (.lst (List.replicate k.toNat xs).flatten))
end
section
variable {prog : Program} {w : World} {A : Around} {E : Value→Shared→Prop} {s : Shared}
end
section
variable {X : Cx}
end
end L2
namespace L2
open PySem PySem.Spec PyProof.Rows
section
variable {κ : Type} [DecidableEq κ]
def valV (kvs : List (κ×V)) (k : κ) : Option V:=(kvs.find? fun kv=>decide (kv.1 = k)).map (·.2)
def putK (kvs : List (κ×V)) (k : κ) (v : V) : List (κ×V):=
  if (kvs.any fun kv=>decide (kv.1 = k)) = true then kvs.map (fun kv=>if kv.1 = k then (kv.1,v) else kv) else kvs ++ [(k,v)]
def zlC (kvs : List (κ×V)) (k : κ) : List (κ×V):=kvs.filter fun kv=>decide (kv.1≠k)
theorem zaZ {p : κ×V} {r : List (κ×V)} {k : κ} (e : p.1 = k) : valV (p :: r) k = some p.2:=by simp [valV,List.find?_cons,e]
theorem zaH {p : κ×V} {r : List (κ×V)} {k : κ} (e : ¬ p.1 = k) : valV (p :: r) k = valV r k:=by simp [valV,List.find?_cons,e]
theorem zdN (k : κ) : ∀ kvs : List (κ×V),(kvs.any fun kv=>decide (kv.1 = k)) = (valV kvs k).isSome
  | []=>rfl
  | p :: r=>by
    rw [List.any_cons]
    by_cases e : p.1 = k
    · simp only [zaZ e,decide_eq_true e,Bool.true_or,Option.isSome_some]
    · rw [zaH e,decide_eq_false e,Bool.false_or]; exact zdN k r
theorem ziv (k j : κ) (y : V) : ∀ kvs : List (κ×V),valV (kvs.map fun kv=>if kv.1 = k then (kv.1,y) else kv) j = (valV kvs j).map fun x=>if j = k then y else x
  | []=>rfl
  | p :: r=>by
    have ih:=ziv k j y r
    rw [List.map_cons]
    by_cases h : p.1 = k
    · rw [if_pos h]
      by_cases e : p.1 = j
      · rw [zaZ (p:=(p.1,y)) e,zaZ e,Option.map_some,if_pos (e.symm.trans h)]
      · rw [zaH (p:=(p.1,y)) e,zaH e,ih]
    · rw [if_neg h]
      by_cases e : p.1 = j
      · rw [zaZ (p:=p) e,zaZ e,Option.map_some,if_neg (fun z=>h (e.trans z))]
      · rw [zaH (p:=p) e,zaH e,ih]
theorem zgW (k j : κ) (y : V) : ∀ kvs : List (κ×V),valV kvs k = none→valV (kvs ++ [(k,y)]) j = if j = k then some y else valV kvs j
  | [],_=>by
    by_cases e : k = j
    · rw [if_pos e.symm]; exact zaZ (p:=(k,y)) e
    · rw [if_neg (fun z=>e z.symm)]; exact zaH (p:=(k,y)) e
  | p :: r,hn=>by
    rw [List.cons_append]
    have hk : ¬ p.1 = k:=fun z=>by rw [zaZ z] at hn; cases hn
    rw [zaH hk] at hn
    have ih:=zgW k j y r hn
    by_cases e : p.1 = j
    · rw [zaZ e,zaZ e,if_neg (fun z=>hk (e.trans z))]
    · rw [zaH e,zaH e,ih]
theorem zl5 (kvs : List (κ×V)) (k j : κ) (y : V) : valV (putK kvs k y) j = if j = k then some y else valV kvs j:=by
  unfold putK
  by_cases a : (kvs.any fun kv=>decide (kv.1 = k)) = true
  · rw [if_pos a,ziv]
    rw [zdN] at a
    by_cases e : j = k
    · obtain ⟨x,hx⟩:=Option.isSome_iff_exists.mp a
      rw [if_pos e,e,hx,Option.map_some,if_pos rfl]
    · rw [if_neg e]
      cases valV kvs j with
      | none=>rfl
      | some x=>rw [Option.map_some,if_neg e]
  · rw [if_neg a]
    refine zgW k j y kvs ?_
    rw [zdN] at a
    cases q : valV kvs k with
    | none=>rfl
    | some x=>rw [q] at a; exact (a rfl).elim
theorem zcK (kvs : List (κ×V)) (k : κ) (v : V) : (putK kvs k v).length≤kvs.length + 1:=by
  unfold putK
  split
  · rw [List.length_map]; omega
  · rw [List.length_append,List.length_cons,List.length_nil]; omega
theorem zcI {kvs : List (κ×V)} {k : κ} (v : V) (h : valV kvs k = none) : putK kvs k v = kvs ++ [(k,v)]:=by
  unfold putK
  rw [zdN,h]
  exact if_neg (by decide)
theorem RelO.isSome_eq {o : Option V} {u : Option Value} (r : RelO o u) : o.isSome = u.isSome:=by
  cases o with
  | none=>cases u with
    | none=>rfl
    | some _=>exact (show False from r).elim
  | some _=>cases u with
    | none=>exact (show False from r).elim
    | some _=>rfl
theorem RelO.getD {o : Option V} {u : Option Value} {d : V} {d' : Value} (r : RelO o u) (rd : RelV d d') : RelV (o.getD d) (u.getD d'):=by
  cases o with
  | none=>cases u with
    | none=>exact rd
    | some _=>exact (show False from r).elim
  | some _=>cases u with
    | none=>exact (show False from r).elim
    | some _=>exact r
theorem KV.val {kvs : List (κ×V)} {vs : List (κ×Value)} (r : KV kvs vs) (k : κ) : RelO (valV kvs k) (valueAt vs k):=by
  unfold KV at r
  induction r with
  | nil=>exact True.intro
  | @cons p q ps qs h t ih=>
    obtain ⟨h1,h2⟩:=h
    by_cases e : p.1 = k
    · have e' : q.1 = k:=h1.symm.trans e
      have b : valueAt (q :: qs) k = some q.2:=by simp [valueAt,List.find?_cons,e']
      rw [zaZ e,b]; exact h2
    · have e' : ¬ q.1 = k:=fun z=>e (h1.trans z)
      have b : valueAt (q :: qs) k = valueAt qs k:=by simp [valueAt,List.find?_cons,e']
      rw [zaH e,b]; exact ih
theorem KV.any {kvs : List (κ×V)} {vs : List (κ×Value)} (r : KV kvs vs) (k : κ) : (kvs.any fun kv=>decide (kv.1 = k)) = vs.any fun kv=>decide (kv.1 = k):=by
  unfold KV at r
  induction r with
  | nil=>rfl
  | cons h t ih=>rw [List.any_cons,List.any_cons,ih,h.1]
theorem KV.repl {kvs : List (κ×V)} {vs : List (κ×Value)} (r : KV kvs vs) (k : κ) {y : V} {u : Value} (ry : RelV y u) :
    KV (kvs.map fun kv=>if kv.1 = k then (kv.1,y) else kv) (vs.map fun kv=>if kv.1 = k then (kv.1,u) else kv):=by
  unfold KV at r ⊢
  induction r with
  | nil=>exact .nil
  | @cons p q ps qs h t ih=>
    rw [List.map_cons,List.map_cons]
    refine .cons ?_ ih
    obtain ⟨h1,h2⟩:=h
    by_cases e : p.1 = k
    · rw [if_pos e,if_pos (h1.symm.trans e)]; exact ⟨h1,ry⟩
    · rw [if_neg e,if_neg (fun z=>e (h1.trans z))]; exact ⟨h1,h2⟩
theorem KV.put {kvs : List (κ×V)} {vs : List (κ×Value)} (r : KV kvs vs) (k : κ) {y : V} {u : Value} (ry : RelV y u) : KV (putK kvs k y) (stored vs k u):=by
  unfold putK stored
  rw [r.any k]
  by_cases e : (vs.any fun kv=>decide (kv.1 = k)) = true
  · rw [if_pos e,if_pos e]; exact r.repl k ry
  · rw [if_neg e,if_neg e]; exact Paired.snoc r ⟨rfl,ry⟩
theorem KV.drop {kvs : List (κ×V)} {vs : List (κ×Value)} (r : KV kvs vs) (k : κ) : KV (zlC kvs k) (without vs k):=by
  unfold KV at r ⊢
  unfold zlC without
  induction r with
  | nil=>exact .nil
  | @cons p q ps qs h t ih=>
    obtain ⟨h1,h2⟩:=h
    rw [List.filter_cons,List.filter_cons]
    by_cases e : p.1 = k
    · have a : ¬ decide (p.1≠k) = true:=by simp [e]
      have b : ¬ decide (q.1≠k) = true:=by simp [h1.symm.trans e]
      rw [if_neg a,if_neg b]; exact ih
    · have e' : ¬ q.1 = k:=fun z=>e (h1.trans z)
      have a : decide (p.1≠k) = true:=by simp [e]
      have b : decide (q.1≠k) = true:=by simp [e']
      rw [if_pos a,if_pos b]; exact .cons ⟨h1,h2⟩ ih
theorem KV.keys {kvs : List (κ×V)} {vs : List (κ×Value)} (r : KV kvs vs) : kvs.map (·.1) = vs.map (·.1):=by
  unfold KV at r
  induction r with
  | nil=>rfl
  | cons h t ih=>rw [List.map_cons,List.map_cons,ih,h.1]
theorem KV.length {kvs : List (κ×V)} {vs : List (κ×Value)} (r : KV kvs vs) : kvs.length = vs.length:=Paired.length r
end
theorem zh8 {P : Program} {w : World} {k : Key} {u : Value} (r : RelV (kV k) u) : (zaD P w).is k u = true:=by
  cases k with
  | inl i=>obtain ⟨t,e⟩:=(show ∃ t,u = Value.int i t from r); subst e; exact zh0 P w i t
  | inr x=>obtain ⟨t,e⟩:=(show ∃ t,u = Value.str x t from r); subst e; exact zhZ P w x t
theorem zhk {P : Program} {w : World} : ∀ {ks : List Key} {us : List Value},Vals (ks.map kV) us→ItemsAre (zaD P w) ks us
  | [],_,r=>by rw [List.map_nil] at r; cases r; exact .nil
  | k :: ks,_,r=>by
    rw [List.map_cons] at r
    cases r with
    | cons h t=>exact .cons (zh8 h) (zhk t)
abbrev KT (H : Hp) : List (List Key×V)→List (List Key×Addr×Value)→Prop:=Paired fun p q=>p.1 = q.1∧H q.2.1 = some (.tup (p.1.map kV))∧RelV p.2 q.2.2
theorem KT.val {H : Hp} {kvs : List (List Key×V)} {xs : List (List Key×Addr×Value)} (r : KT H kvs xs) (k : List Key) : RelO (valV kvs k) ((atKey xs k).map (·.2)):=by
  induction r with
  | nil=>exact True.intro
  | @cons p q ps qs h t ih=>
    obtain ⟨h1,_,h2⟩:=h
    by_cases e : p.1 = k
    · have e' : q.1 = k:=h1.symm.trans e
      have b : atKey (q :: qs) k = some q.2:=by simp [atKey,List.find?_cons,e']
      rw [zaZ e,b]; exact h2
    · have e' : ¬ q.1 = k:=fun z=>e (h1.trans z)
      have b : atKey (q :: qs) k = atKey qs k:=by simp [atKey,List.find?_cons,e']
      rw [zaH e,b]; exact ih
theorem KT.repl {H : Hp} {kvs : List (List Key×V)} {xs : List (List Key×Addr×Value)} (r : KT H kvs xs) (k : List Key) {y : V} {u : Value} (ry : RelV y u) :
    KT H (kvs.map fun kv=>if kv.1 = k then (kv.1,y) else kv) (xs.map (putAt k u)):=by
  induction r with
  | nil=>exact .nil
  | @cons p q ps qs h t ih=>
    rw [List.map_cons,List.map_cons]
    refine .cons ?_ ih
    obtain ⟨h1,h2,h3⟩:=h
    unfold putAt
    by_cases e : p.1 = k
    · rw [if_pos e,if_pos (h1.symm.trans e)]; exact ⟨h1,h2,ry⟩
    · rw [if_neg e,if_neg (fun z=>e (h1.trans z))]; exact ⟨h1,h2,h3⟩
theorem KT.put {H : Hp} {kvs : List (List Key×V)} {xs : List (List Key×Addr×Value)} (r : KT H kvs xs) (k : List Key) {b : Addr} {y : V} {u : Value} (hb : H b = some (.tup (k.map kV))) (ry : RelV y u) :
    KT H (putK kvs k y) (storedH xs k b u):=by
  have e : (kvs.any fun kv=>decide (kv.1 = k)) = (atKey xs k).isSome:=by
    rw [zdN,(r.val k).isSome_eq,Option.isSome_map]
  unfold putK storedH
  rw [e]
  by_cases q : (atKey xs k).isSome = true
  · rw [if_pos q,if_pos q]; exact r.repl k ry
  · rw [if_neg q,if_neg q]; exact Paired.snoc r ⟨rfl,hb,ry⟩
theorem KT.keeps {H H' : Hp} {kvs : List (List Key×V)} {xs : List (List Key×Addr×Value)} (r : KT H kvs xs) (ht : ∀ b ys,H b = some (.tup ys)→H' b = some (.tup ys)) : KT H' kvs xs:=
  Paired.mapP r fun _ _ z=>⟨z.1,ht _ _ z.2.1,z.2.2⟩
section
variable {P : Program} {w : World} {H : Hp} {h : Heap} {a : Addr}
theorem rd_of {u : HO} (ok : HOk P w H h) (e : Rd H a u) : zbv P w H h a u:=e.ok ok
theorem zjS {kvs : List (Key×V)} (ok : HOk P w H h) (e : Rd H a (.dK kvs)) : kvs.length≤sizeLine∧(a == sysModules) = false∧∃ vs,KV kvs vs∧h.DictOf (zaD P w) a vs:=
  show zbv P w H h a (.dK kvs) from rd_of ok e
theorem zmY {kvs : List (Key×V)} (ok : HOk P w H h) (e : H a = some (.dK kvs)) : kvs.length≤sizeLine∧(a == sysModules) = false∧∃ vs,KV kvs vs∧h.DictOf (zaD P w) a vs:=zjS ok (.inl e)
theorem zhj {ks : List Key} (ok : HOk P w H h) (e : H a = some (.tup (ks.map kV))) : (tupleKind (zaD P w)).is h ks a:=by
  obtain ⟨_,its,r,o,h1,h2,n,h3⟩:=(show zbv P w H h a (.tup (ks.map kV)) from ok a _ e)
  exact ⟨o,its.toArray,n,h1,h2,h3,by simpa using zhk r⟩
theorem zjR {kvs : List (List Key×V)} (ok : HOk P w H h) (e : Rd H a (.dT kvs)) : kvs.length≤sizeLine∧(a == sysModules) = false∧
    ∃ xs,KT H kvs xs∧h.DictOfH (tupleKind (zaD P w)) a xs:=by
  obtain ⟨z,y,xs,r,o,es,ep,h1,h2,h3,h4,h5⟩:=(show zbv P w H h a (.dT kvs) from rd_of ok e)
  refine ⟨z,y,xs,r,o,es,ep,h1,h2,h3,h4,fun x hx=>?_,h5⟩
  have all : ∀ {l : List (List Key×V)} {m : List (List Key×Addr×Value)},KT H l m→∀ x∈m,(tupleKind (zaD P w)).is h x.1 x.2.1:=by
    intro l m q
    induction q with
    | nil=>intro x hx; exact nomatch hx
    | @cons p q ps qs hq t ih=>
      intro x hx
      rcases List.mem_cons.mp hx with e | hx
      · subst e
        exact zhj ok (by rw [← hq.1]; exact hq.2.1)
      · exact ih x hx
  exact all r x hx
theorem dt_of {kvs : List (List Key×V)} (ok : HOk P w H h) (e : H a = some (.dT kvs)) : kvs.length≤sizeLine∧(a == sysModules) = false∧
    ∃ xs,KT H kvs xs∧h.DictOfH (tupleKind (zaD P w)) a xs:=zjR ok (.inl e)
end
def DGet (H : Hp) (a : Addr) (y : V) (r : Option V) : Prop:=
  (∃ kvs k,Rd H a (.dK kvs)∧y = kV k∧r = valV kvs k)∨∃ kvs k b,Rd H a (.dT kvs)∧y = .ref b∧H b = some (.tup (k.map kV))∧r = valV kvs k
def DPut (H : Hp) (a : Addr) (y v : V) (H' : Hp) : Prop:=
  (∃ kvs k,H a = some (.dK kvs)∧y = kV k∧kvs.length < sizeLine∧H' = upd H a (.dK (putK kvs k v)))∨
  ∃ kvs k b,H a = some (.dT kvs)∧y = .ref b∧H b = some (.tup (k.map kV))∧kvs.length < sizeLine∧H' = upd H a (.dT (putK kvs k v))
theorem DGet.k {H : Hp} {a : Addr} {kvs : List (Key×V)} {k : Key} (e : H a = some (.dK kvs)) : DGet H a (kV k) (valV kvs k):=.inl ⟨kvs,k,.inl e,rfl,rfl⟩
theorem DGet.t {H : Hp} {a b : Addr} {kvs : List (List Key×V)} {k : List Key} (e : H a = some (.dT kvs)) (eb : H b = some (.tup (k.map kV))) : DGet H a (.ref b) (valV kvs k):=.inr ⟨kvs,k,b,.inl e,rfl,eb,rfl⟩
theorem DPut.k {H : Hp} {a : Addr} {kvs : List (Key×V)} {k : Key} {v : V} (e : H a = some (.dK kvs)) (hl : kvs.length < sizeLine) : DPut H a (kV k) v (upd H a (.dK (putK kvs k v))):=.inl ⟨kvs,k,e,rfl,hl,rfl⟩
theorem DPut.t {H : Hp} {a b : Addr} {kvs : List (List Key×V)} {k : List Key} {v : V} (e : H a = some (.dT kvs)) (eb : H b = some (.tup (k.map kV))) (hl : kvs.length < sizeLine) :
    DPut H a (.ref b) v (upd H a (.dT (putK kvs k v))):=.inr ⟨kvs,k,b,e,rfl,eb,hl,rfl⟩
section
variable {X : Cx} {pins : List (Addr×Obj)} {σ : St} {H : Hp} {s : Shared} {a : Addr} {y v : V} {u r : Value} {o : Option V} {A : Around} {E : Value→Shared→Prop}
theorem Inv.big (I : Inv X pins σ H s) : sysModules < s.heap.objs.size:=by
  have h : mainGlobals < s.heap.objs.size:=(I.mod.glob.keeps I.bk).lt
  exact Nat.lt_trans (by decide) h
theorem zlI {Q : Value→Shared→Prop} (hu : A.units + 1 < cLine) (I : Inv X pins σ H s) (g : DGet H a y (some v)) (ry : RelV y u) (h : ∀ w' s',Inv X pins σ H s'→RelV v w'→Q w' s') :
    wpAny (model X.prog X.w) A (getItem (.ref a) u) Q E s:=by
  rcases g with ⟨kvs,k,e,ey,l⟩ | ⟨kvs,k,b,e,ey,eb,l⟩
  · subst ey
    obtain ⟨z,hd,vs,rel,dd⟩:=zjS I.hok e
    obtain ⟨w',hw,rw'⟩:=RelO.some_of (v:=v) (o:=valueAt vs k) (by rw [l]; exact rel.val k)
    exact wpAny_getItem_of (zh8 ry) dd.mapOf hw (h w' _ (I.tok _) rw')
  · subst ey
    cases (show u = Value.ref b from ry)
    obtain ⟨z,hd,xs,rel,dd⟩:=zjR I.hok e
    obtain ⟨w',hw,rw'⟩:=RelO.some_of (v:=v) (o:=(atKey xs k).map (·.2)) (by rw [l]; exact rel.val k)
    obtain ⟨p,hp,hp2⟩:=Option.map_eq_some_iff.mp hw
    refine wpAny_getItem_heap (tupleKind_room_in1 hu) (zhj I.hok eb) dd hp ?_
    rw [hp2]
    exact h w' _ (I.tok _) rw'
theorem d_in {Q : Value→Shared→Prop} (hu : A.units + 1 < cLine) (I : Inv X pins σ H s) (g : DGet H a y o) (ry : RelV y u) (h : ∀ s',Inv X pins σ H s'→Q (.bool o.isSome) s') :
    wpAny (model X.prog X.w) A (compareOp .In u (.ref a)) Q E s:=by
  rcases g with ⟨kvs,k,e,ey,l⟩ | ⟨kvs,k,b,e,ey,eb,l⟩
  · subst ey
    obtain ⟨z,hd,vs,rel,dd⟩:=zjS I.hok e
    refine wpAny_in_of (zh8 ry) hd dd.mapOf ?_
    rw [← (rel.val k).isSome_eq,← l]
    exact h _ (I.tok _)
  · subst ey
    cases (show u = Value.ref b from ry)
    obtain ⟨z,hd,xs,rel,dd⟩:=zjR I.hok e
    refine wpAny_in_heap (tupleKind_room_in1 hu) (zhj I.hok eb) hd dd ?_
    have q:=(rel.val k).isSome_eq
    rw [Option.isSome_map] at q
    rw [← q,← l]
    exact h _ (I.tok _)
theorem zif {h' : Heap} {t' : Nat} {ob : HO} (I : Inv X pins σ H s) (mu : Mut (H a)) (hs : Heap.SameBut a s.heap h') (he : ∃ q,h'.get? a = some q) (new : zbv X.prog X.w (upd H a ob) h' a ob) :
    Inv X pins σ (upd H a ob) { s with heap:=h',toks:=t' }:=
  I.write (x:=a) (e:=a) mu (.inl rfl) (fun b q hb z=>(hs.2 b hb).trans z) he new
theorem znB {P : Program} {w : World} {H' : Hp} {h' : Heap} {kvs : List (Key×V)} {vs : List (Key×Value)} (z : kvs.length≤sizeLine) (hd : (a == sysModules) = false) (rel : KV kvs vs) (dd : h'.DictOf (zaD P w) a vs) :
    zbv P w H' h' a (.dK kvs):=⟨z,hd,vs,rel,dd⟩
theorem zlH {H' : Hp} {Q : Unit→Shared→Prop} (hu : A.units + 1 < cLine) (I : Inv X pins σ H s) (g : DPut H a y v H') (ry : RelV y u) (rv : RelV v r) (h : ∀ s',Inv X pins σ H' s'→Q () s') :
    wpAny (model X.prog X.w) A (setItem (.ref a) u r) Q E s:=by
  rcases g with ⟨kvs,k,e,ey,l,eH⟩ | ⟨kvs,k,b,e,ey,eb,l,eH⟩
  · subst ey eH
    obtain ⟨z,hd,vs,rel,dd⟩:=zmY I.hok e
    have hz : vs.length≤sizeLine:=by rw [← rel.length]; exact z
    have hl : (putK kvs k v).length≤sizeLine:=by have:=zcK kvs k v; omega
    refine wpAny_setItem_pairs (hsz:=hz) (zh8 ry) dd fun h' dd' hs=>h _ ?_
    have he : ∃ q,h'.get? a = some q:=let ⟨q,_,_,hq,_⟩:=dd'; ⟨q,hq⟩
    exact zif I (by rw [e]; exact True.intro) hs he (znB hl hd (rel.put k rv) dd')
  · subst ey eH
    cases (show u = Value.ref b from ry)
    obtain ⟨z,hd,xs,rel,dd⟩:=dt_of I.hok e
    have hz : xs.length≤sizeLine:=by rw [← Paired.length rel]; exact z
    have hl : (putK kvs k v).length≤sizeLine:=by have:=zcK kvs k v; omega
    refine wpAny_setItem_heap (hsz:=hz) (tupleKind_room_in1 hu) (zhj I.hok eb) dd fun h' dd' hs=>h _ ?_
    obtain ⟨q,es,ep,hq,h2,h3,h4,_,h5⟩:=dd'
    refine zif I (by rw [e]; exact True.intro) hs ⟨q,hq⟩ ⟨hl,hd,_,(rel.put k eb rv).keeps fun c ys ec=>?_,q,es,ep,hq,h2,h3,h4,h5⟩
    rw [zag (ne_of ec e (fun z=>nomatch z))]
    exact ec
end
section
variable {X : Cx} {pins : List (Addr×Obj)} {σ : St} {H : Hp} {s : Shared} {a : Addr} {kvs : List (Key×V)} {k : Key} {u : Value} {A : Around} {E : Value→Shared→Prop}
end
def NoSl (i : Expr) : Prop:=∀ ov iv,subscripted i false ov iv = operate [ov,iv] (getItem ov iv)
theorem znS {prog : Program} {w : World} {A : Around} {E : Value→Shared→Prop} {s : Shared} {env : Env} {value slice : Expr} {pos : Pos} {T id : String} {Q : Value→Shared→Prop}
    (hl : typeLookup (.type T) "__getitem__" = pure (some (.builtin id))) (hs : NoSl slice)
    (h : wpAny (model prog w) A (eval value env) (fun o s₁=>wpAny (model prog w) A (eval slice env) (fun i s₂=>s₂.TypeIs o T∧wpAny (model prog w) A (getItem o i) Q E s₂) E s₁) E s) :
    wpAny (model prog w) A (eval (.Subscript value slice pos) env) Q E s:=by
  refine Subscript_ (wpAny_mono h (fun o s₁ h₁=>wpAny_mono h₁ (fun i s₂ h₂=>?_) fun _ _ x=>x) fun _ _ x=>x)
  obtain ⟨hT,h₂⟩:=h₂
  unfold subscriptTail
  refine wpAny_bind ?_
  rw [getitemInPython_of_ne hT.not_modules]
  refine wpAny_bind (wpAny_specialOf hT hl ?_)
  have fin : wpAny (model prog w) A (subscripted slice false o i) (fun r s₃=>wpAny (model prog w) A (letTemporaryGo value o r >>= fun _=>pure r) Q E s₃) E s₂:=by
    rw [hs o i]
    exact wpAny_operating (wpAny_mono h₂ (fun r s₃ h₃=>wpAny_bind (wpAny_letTemporaryGo (wpAny_pure h₃))) fun _ _ x=>x)
  first
    | exact wpAny_pure (wpAny_bind fin)
    | exact wpAny_bind (wpAny_pure (wpAny_bind fin))
    | exact wpAny_bind fin
theorem zie {X : Cx} {pins : List (Addr×Obj)} {σ : St} {H : Hp} {s : Shared} {a : Addr} {y : V} {o : Option V} (I : Inv X pins σ H s) (g : DGet H a y o) : s.TypeIs (.ref a) "dict":=by
  rcases g with ⟨kvs,k,e,_,_⟩ | ⟨kvs,k,b,e,_,_,_⟩
  · obtain ⟨_,_,vs,_,dd⟩:=zjS I.hok e
    exact dd.typeIs
  · obtain ⟨_,_,xs,_,dd⟩:=zjR I.hok e
    exact dd.typeIs
def tDGet (td ty : TE) : TE:=fun σ H Q=>td σ H fun x H1=>ty σ H1 fun y H2=>∃ a v,x = .ref a∧DGet H2 a y (some v)∧Q v H2
def tDIn (ty td : TE) : TE:=fun σ H Q=>ty σ H fun y H1=>td σ H1 fun x H2=>∃ a o,x = .ref a∧DGet H2 a y o∧Q (.bl o.isSome) H2
def tDNotIn (ty td : TE) : TE:=fun σ H Q=>ty σ H fun y H1=>td σ H1 fun x H2=>∃ a o,x = .ref a∧DGet H2 a y o∧Q (.bl (!o.isSome)) H2
def sDPut (td ty tv : TE) : TS:=fun D σ H=>tv σ H fun v H1=>td σ H1 fun x H2=>ty σ H2 fun y H3=>∃ a H4,x = .ref a∧DPut H3 a y v H4∧D.nx σ H4
def sDAug (td ty tv : TE) (rd : V→V→Hp→VK→Prop) : TS:=fun D σ H=>td σ H fun x H1=>ty σ H1 fun y H2=>∃ a v,x = .ref a∧DGet H2 a y (some v)∧
  tv σ H2 fun y2 H3=>rd v y2 H3 fun z H4=>∃ H5,DPut H4 a y z H5∧D.nx σ H5
def sDDel (td ty : TE) : TS:=fun D σ H=>td σ H fun x H1=>ty σ H1 fun y H2=>∃ a kvs k,x = .ref a∧H2 a = some (.dK kvs)∧y = kV k∧(valV kvs k).isSome = true∧D.nx σ (upd H2 a (.dK (zlC kvs k)))
section
variable {X : Cx} {o i e value : Expr} {pos pos' tpos : Pos} {td ty tv : TE}
theorem zb3 (hu : X.A.units + 1 < cLine) (ho : PE X o td) (hi : PE X i ty) (hs : NoSl i) : PE X (.Subscript o i pos) (tDGet td ty):=by
  intro pins s σ H Q I h
  refine znS PySem.F.slot_dict_getitem.lookup hs (thn (ho pins s σ H _ I h) fun u s1 ⟨x,H1,I1,rx,q1⟩=>thn (hi pins s1 σ H1 _ I1 q1) fun iv s2 ⟨y,H2,I2,ry,a,v,ex,g,q2⟩=>?_)
  subst ex
  obtain rfl : u = Value.ref a:=rx
  exact ⟨zie I2 g,zlI hu I2 g ry fun w' s3 I3 rw'=>⟨v,H2,I3,rw',q2⟩⟩
theorem zdF (hu : X.A.units + 1 < cLine) (ho : PE X o td) (hi : PE X i ty) (hv : PE X value tv) (hs : swapsWith value (some (.Subscript o i pos')) pos.line X.env = pure false) :
    PS X (.Assign [.Subscript o i pos'] value pos) (sDPut td ty tv):=by
  intro pins s σ H D I h
  refine wpAny_Assign_Subscript (thn (hv pins s σ H _ I h) fun r s1 ⟨v,H1,I1,rv,q1⟩=>thn (ho pins s1 σ H1 _ I1 q1) fun u s2 ⟨x,H2,I2,rx,q2⟩=>thn (hi pins s2 σ H2 _ I2 q2) fun iv s3 ⟨y,H3,I3,ry,a,H4,ex,g,q3⟩=>?_) hs
  subst ex
  obtain rfl : u = Value.ref a:=rx
  exact zlH hu I3 g ry rv fun s4 I4=>⟨σ,H4,I4,q3⟩
end
theorem zjf {P : Program} {w : World} {H : Hp} (h : Heap) (hb : sysModules < h.objs.size) : zbv P w H (h.push { cls:=.type "dict",data:=.dict #[] }) h.objs.size (.dK []):=
  ⟨Nat.zero_le _,beq_eq_false_iff_ne.mpr (Ne.symm (Nat.ne_of_lt hb)),[],.nil,Heap.DictOf.new h⟩
theorem zmW {P : Program} {w : World} {H : Hp} (h : Heap) (hb : sysModules < h.objs.size) : zbv P w H (h.push { cls:=.type "dict",data:=.dict #[] }) h.objs.size (.dT []):=
  ⟨Nat.zero_le _,beq_eq_false_iff_ne.mpr (Ne.symm (Nat.ne_of_lt hb)),[],.nil,_,#[],0,Heap.get?_push_size _ rfl,⟨rfl,rfl,rfl⟩,rfl,rfl,List.nodup_nil⟩
def tDNewK : TE:=fun _ H Q=>∀ p,H p = none→Q (.ref p) (upd H p (.dK []))
def tDNewT : TE:=fun _ H Q=>∀ p,H p = none→Q (.ref p) (upd H p (.dT []))
section
variable {X : Cx} {pos : Pos}
theorem ziU : PE X (.Dict [] [] pos) tDNewK:=fun pins s σ H Q I h=>
  wpAny_Dict_empty ⟨.ref s.heap.objs.size,_,I.laid (a:=s.heap.objs.size) (o:=.dK []) (t':=s.toks) (fun _ _ q=>Heap.get?_push_of_some _ q) (Nat.le_refl _) (zjf s.heap I.big),rfl,h _ (I.hok.fresh (Nat.le_refl _))⟩
theorem zmg : PE X (.Dict [] [] pos) tDNewT:=fun pins s σ H Q I h=>
  wpAny_Dict_empty ⟨.ref s.heap.objs.size,_,I.laid (a:=s.heap.objs.size) (o:=.dT []) (t':=s.toks) (fun _ _ q=>Heap.get?_push_of_some _ q) (Nat.le_refl _) (zmW s.heap I.big),rfl,h _ (I.hok.fresh (Nat.le_refl _))⟩
end
def zkf : List (TE×TE)→St→Hp→(List (V×V)→Hp→Prop)→Prop
  | [],_,H,Q=>Q [] H
  | (tk,tv) :: r,σ,H,Q=>tk σ H fun x H1=>tv σ H1 fun y H2=>zkf r σ H2 fun ps H3=>Q ((x,y) :: ps) H3
abbrev VV : List (V×V)→List (Value×Value)→Prop:=Paired fun p q=>RelV p.1 q.1∧RelV p.2 q.2
def PPs (X : Cx) (pos : Pos) (keys : List (Option Expr)) (values : List Expr) (trs : List (TE×TE)) : Prop:=
  ∀ (pins : List (Addr×Obj)) (s : Shared) (σ : St) (H : Hp) (Q : List (V×V)→Hp→Prop),Inv X pins σ H s→zkf trs σ H Q→
    wpAny (model X.prog X.w) X.A (evalPairs (pairTrees keys values X.env pos)) (fun vs s'=>∃ ps H',Inv X pins σ H' s'∧VV ps vs∧Q ps H') X.xe s
theorem zkB {X : Cx} {pos : Pos} : PPs X pos [] [] []:=fun pins s σ H Q I h=>pairTrees_nil_walk ⟨[],H,I,.nil,h⟩
theorem zeY {X : Cx} {pos : Pos} {k v : Expr} {ks : List (Option Expr)} {vs : List Expr} {tk tv : TE} {trs : List (TE×TE)} (hk : PE X k tk) (hv : PE X v tv) (hr : PPs X pos ks vs trs) :
    PPs X pos (some k :: ks) (v :: vs) ((tk,tv) :: trs):=fun pins s σ H Q I h=>
  pairTrees_cons_walk (thn (hk pins s σ H _ I h) fun u s1 ⟨x,H1,I1,rx,q1⟩=>thn (hv pins s1 σ H1 _ I1 q1) fun w2 s2 ⟨y,H2,I2,ry,q2⟩=>
    thn (hr pins s2 σ H2 _ I2 q2) fun ws s3 ⟨ps,H3,I3,rel,q3⟩=>⟨(x,y) :: ps,H3,I3,.cons ⟨rx,ry⟩ rel,q3⟩)
def zc7 (kvs more : List (Key×V)) : List (Key×V):=more.foldl (fun acc kv=>putK acc kv.1 kv.2) kvs
theorem KV.merge : ∀ {more : List (Key×V)} {rs : List (Key×Value)} {kvs : List (Key×V)} {vs : List (Key×Value)},KV more rs→KV kvs vs→KV (zc7 kvs more) (merged vs rs):=by
  intro more rs kvs vs r
  unfold KV at r
  induction r generalizing kvs vs with
  | nil=>intro q; exact q
  | @cons p q ps qs h t ih=>
    intro r0
    have e : KV (putK kvs p.1 p.2) (stored vs q.1 q.2):=by
      have:=r0.put p.1 h.2
      rw [← h.1]; exact this
    exact ih e
theorem zd9 : ∀ (more kvs : List (Key×V)),(zc7 kvs more).length≤kvs.length + more.length
  | [],kvs=>by show kvs.length≤kvs.length + 0; omega
  | p :: r,kvs=>by
    have h1:=zd9 r (putK kvs p.1 p.2)
    have h2:=zcK kvs p.1 p.2
    show (zc7 (putK kvs p.1 p.2) r).length≤_
    rw [List.length_cons]; omega
theorem zf4 {P : Program} {w : World} : ∀ {kvs : List (Key×V)} {ws : List (Value×Value)},VV (kvs.map fun kv=>(kV kv.1,kv.2)) ws→∃ rs,Carries (zaD P w) ws rs∧KV kvs rs
  | [],_,r=>by rw [List.map_nil] at r; cases r; exact ⟨[],True.intro,.nil⟩
  | p :: kvs,_,r=>by
    rw [List.map_cons] at r
    cases r with
    | @cons a b as bs h t=>
      obtain ⟨rs,c,q⟩:=zf4 (P:=P) (w:=w) t
      obtain ⟨b1,b2⟩:=b
      exact ⟨(p.1,b2) :: rs,⟨zh8 h.1,rfl,c⟩,.cons ⟨rfl,h.2⟩ q⟩
def tDisp (trs : List (TE×TE)) : TE:=fun σ H Q=>∀ p,H p = none→zkf trs σ (upd H p (.dK [])) fun ps H2=>H2 p = some (.dK [])∧∃ kvs : List (Key×V),ps = kvs.map (fun kv=>(kV kv.1,kv.2))∧kvs.length≤15∧Q (.ref p) (upd H2 p (.dK (zc7 [] kvs)))
theorem zkH {X : Cx} {pos : Pos} {keys : List (Option Expr)} {values : List Expr} {trs : List (TE×TE)} (h : PPs X pos keys values trs) (hall : keys.all (·.isSome) = true) (hl : keys.length = values.length) (h0 : keys≠[])
    (h15 : keys.length≤15) : PE X (.Dict keys values pos) (tDisp trs):=by
  intro pins s σ H Q I q
  have hn:=I.hok.fresh (Nat.le_refl s.heap.objs.size)
  have I1:=I.laid (a:=s.heap.objs.size) (o:=.dK []) (h':=s.heap.push { cls:=.type "dict",data:=.dict #[] }) (t':=s.toks) (fun _ _ q=>Heap.get?_push_of_some _ q) (Nat.le_refl _) (zjf s.heap I.big)
  refine wpAny_Dict_walk (knd:=zaD X.prog X.w) hall hl h0 h15 (thn (h pins _ σ _ _ I1 (q _ hn)) fun ws s2 ⟨ps,H2,I2,rel,e,kvs,ep,lk,q2⟩=>?_)
  subst ep
  obtain ⟨rs,c,rk⟩:=zf4 (P:=X.prog) (w:=X.w) rel
  obtain ⟨z,hd,vs0,r0,dd⟩:=zmY I2.hok e
  cases r0
  refine ⟨rs,c,dd,fun h' dd' hs=>⟨.ref s.heap.objs.size,_,?_,rfl,q2⟩⟩
  have hz : (zc7 [] kvs).length≤sizeLine:=by
    have h1:=zd9 kvs []
    rw [List.length_nil] at h1
    rw [sizeLine_eq]; omega
  have he : ∃ q,h'.get? s.heap.objs.size = some q:=let ⟨q,_,_,hq,_⟩:=dd'; ⟨q,hq⟩
  exact zif I2 (by rw [e]; exact True.intro) hs he (znB hz hd (rk.merge .nil) dd')
structure M1 (X : Cx) (o : Expr) (m : Str) (apos : Pos) (e : Expr) (cpos : Pos) : Prop where
  base : attributeBase o m X.env (eval o X.env) = eval o X.env
  few : ((backTo cpos (starEach [e] X.env)).all (fun x=>!x.1) && (backToKw cpos (keywordEach [] X.env)).all (fun x=>x.1.isSome)
    && decide (([e] : List Expr).length + ([] : List Keyword).length + (if ([] : List Keyword).isEmpty then 0 else 1) < 30)) = true
  line : (apos.endLine == cpos.line) = true
  trees : backTo cpos (starEach [e] X.env) = [(false,eval e X.env)]
structure M2 (X : Cx) (o : Expr) (m : Str) (apos : Pos) (e f : Expr) (cpos : Pos) : Prop where
  base : attributeBase o m X.env (eval o X.env) = eval o X.env
  few : ((backTo cpos (starEach [e,f] X.env)).all (fun x=>!x.1) && (backToKw cpos (keywordEach [] X.env)).all (fun x=>x.1.isSome)
    && decide (([e,f] : List Expr).length + ([] : List Keyword).length + (if ([] : List Keyword).isEmpty then 0 else 1) < 30)) = true
  line : (apos.endLine == cpos.line) = true
  trees : backTo cpos (starEach [e,f] X.env) = [(false,eval e X.env),(false,eval f X.env)]
def IsD (H : Hp) (a : Addr) : Prop:=(∃ kvs,Rd H a (.dK kvs))∨∃ kvs,Rd H a (.dT kvs)
theorem isD_at {X : Cx} {pins : List (Addr×Obj)} {σ : St} {H : Hp} {s : Shared} {a : Addr} (I : Inv X pins σ H s) (d : IsD H a) :
    s.TypeIs (.ref a) "dict"∧(∀ b,Value.ref a = .ref b→∃ ob,s.heap.get? b = some ob∧ob.dict = none)∧(a == sysModules) = false:=by
  rcases d with ⟨kvs,e⟩ | ⟨kvs,e⟩
  · obtain ⟨_,hd,vs,_,dd⟩:=zjS I.hok e
    refine ⟨dd.typeIs,fun b q=>?_,hd⟩
    cases q
    obtain ⟨ob,_,_,h1,h2,_⟩:=dd
    exact ⟨ob,h1,h2.2.1⟩
  · obtain ⟨_,hd,xs,_,dd⟩:=zjR I.hok e
    refine ⟨dd.typeIs,fun b q=>?_,hd⟩
    cases q
    obtain ⟨ob,_,_,h1,h2,_⟩:=dd
    exact ⟨ob,h1,h2.2.1⟩
section
variable {X : Cx} {pins : List (Addr×Obj)} {σ : St} {H : Hp} {s : Shared} {a : Addr} {y d : V} {u r : Value} {o : Option V} {A : Around} {E : Value→Shared→Prop}
theorem d_get2 {Q : Value→Shared→Prop} (hu : A.units + 1 < cLine) (I : Inv X pins σ H s) (g : DGet H a y o) (ry : RelV y u) (rd : RelV d r) (h : ∀ w' s',Inv X pins σ H s'→RelV (o.getD d) w'→Q w' s') :
    wpAny (model X.prog X.w) A (call (.builtin "dict.get") [.ref a,u,r]) Q E s:=by
  rcases g with ⟨kvs,k,e,ey,l⟩ | ⟨kvs,k,b,e,ey,eb,l⟩
  · subst ey
    obtain ⟨z,hd,vs,rel,dd⟩:=zjS I.hok e
    refine call_meetsIn PySem.F.slot_dict_get dd.typeIs PySem.F.entry_dict_get (PySem.F.args_dict_get_3 _ _ _) (meets_dict_get_default (zaD X.prog X.w) a (zh8 ry) hd r) ⟨_,dd.mapOf,h _ _ (I.tok _) ?_⟩
    rw [l]
    exact (rel.val k).getD rd
  · subst ey
    cases (show u = Value.ref b from ry)
    obtain ⟨z,hd,xs,rel,dd⟩:=zjR I.hok e
    refine call_meetsIn PySem.F.slot_dict_get dd.typeIs PySem.F.entry_dict_get (PySem.F.args_dict_get_3 _ _ _) (meetsH_dict_get_default (tupleKind (zaD X.prog X.w)) a b hd r) ⟨tupleKind_room_in1 hu,k,xs,zhj I.hok eb,dd,h _ _ (I.tok _) ?_⟩
    rw [l]
    exact (rel.val k).getD rd
end
def tDGet1 (td ty : TE) : TE:=fun σ H Q=>td σ H fun x H1=>∃ a,x = .ref a∧IsD H1 a∧ty σ H1 fun y H2=>∃ o,DGet H2 a y o∧Q (o.getD .non) H2
def tDGet2 (td ty tx : TE) : TE:=fun σ H Q=>td σ H fun x H1=>∃ a,x = .ref a∧IsD H1 a∧ty σ H1 fun y H2=>tx σ H2 fun z H3=>∃ o,DGet H3 a y o∧Q (o.getD z) H3
def tDPop1 (td ty : TE) : TE:=fun σ H Q=>td σ H fun x H1=>∃ a,x = .ref a∧IsD H1 a∧ty σ H1 fun y H2=>∃ kvs k v,H2 a = some (.dK kvs)∧y = kV k∧valV kvs k = some v∧Q v (upd H2 a (.dK (zlC kvs k)))
def tDPop2 (td ty tx : TE) : TE:=fun σ H Q=>td σ H fun x H1=>∃ a,x = .ref a∧IsD H1 a∧ty σ H1 fun y H2=>tx σ H2 fun z H3=>∃ kvs k,H3 a = some (.dK kvs)∧y = kV k∧
  (∀ v,valV kvs k = some v→Q v (upd H3 a (.dK (zlC kvs k))))∧(valV kvs k = none→Q z H3)
section
variable {X : Cx} {o e f : Expr} {apos cpos : Pos} {td ty tx : TE}
theorem zmh (hu : X.A.units + 1 < cLine) (ho : PE X o td) (he : PE X e ty) (hf : PE X f tx) (m : M2 X o "get" apos e f cpos) : PE X (.Call (.Attribute o "get" apos) [e,f] [] cpos) (tDGet2 td ty tx):=by
  intro pins s σ H Q I h
  refine wpAny_Call_method m.base m.few m.line PySem.F.plainAttrs_dict PySem.F.slot_dict_get PySem.F.type_dict_get (thn (ho pins s σ H _ I h) fun u s1 ⟨x,H1,I1,rx,a,ex,d,q1⟩=>?_)
  subst ex
  obtain rfl : u = Value.ref a:=rx
  obtain ⟨t1,t2,_⟩:=isD_at I1 d
  refine ⟨t1,t2,?_⟩
  rw [m.trees]
  refine Calls.callWith_builtin rfl (Calls.evalArgs_plain (Calls.spliced_cons (thn (he pins s1 σ H1 _ I1 q1) fun iv s2 ⟨y,H2,I2,ry,q2⟩=>
    Calls.spliced_cons (thn (hf pins s2 σ H2 _ I2 q2) fun fv s3 ⟨z,H3,I3,rz,ov,g,q3⟩=>Calls.spliced_nil ?_))))
  exact d_get2 hu I3 g ry rz fun w' s4 I4 rw'=>⟨_,H3,I4,rw',q3⟩
end
section
variable {X : Cx} {pins : List (Addr×Obj)} {σ : St} {H : Hp} {s : Shared} {a : Addr} {kvs : List (Key×V)} {A : Around} {E : Value→Shared→Prop}
end
section
variable {X : Cx} {pins : List (Addr×Obj)} {σ : St} {H : Hp} {s : Shared} {a : Addr} {y : V} {u : Value} {A : Around} {E : Value→Shared→Prop}
end
end L2
namespace Att
open PySem PySem.W PySem.Calls PyProof.Rows
theorem zfq {P : Params} {h : Heap} : ∀ (ns : List Int) (vs : List Value),WellAll P h vs (ns.map WData.int)→IntsAre vs ns:=by
  intro ns
  induction ns with
  | nil=>
    intro vs w
    rw [List.map_nil] at w
    cases w
    exact .nil
  | cons n ns ih=>
    intro vs w
    rw [List.map_cons] at w
    cases w with
    | cons a b=>
      cases a
      exact .cons _ _ (ih _ b)
theorem zkw {l : OpenLaw} {n : Nat} (hn : l.most = some n) {P : Params} {h : Heap} {args : List WData} {vals : List Value}
    (hpre : l.row.toRowW.claim.pre args = true) (hwl : WellAll P h vals args) :
    ∃ a vs ns,vals = [Value.ref a]∧args = [WData.list (ns.map WData.int)]∧h.get? a = some { cls:=.type "list",data:=.seq vs.toArray }∧IntsAre vs ns∧ns.length≤n:=by
  have hsh : WShape.hasAll [] args [.list .int] = true:=(pre_splitW hpre).1
  have hc : l.pre.holds [] { args:=args } = true:=(pre_splitW hpre).2
  obtain ⟨d,r,rfl,h1,h2⟩:=hasAllW_cons hsh
  obtain rfl:=hasAllW_nil h2
  obtain ⟨xs,rfl,h3⟩:=hasW_list h1
  obtain ⟨ns,rfl⟩:=items_int h3
  have hlen : ns.length≤n:=by
    unfold OpenLaw.pre at hc
    have h4 : (WTm.not (.lt (.lit (.int (n : Int))) (.len (.arg 0)))).holds [] { args:=[.list (ns.map .int)] } = true:=by
      have h4:=(holds_andW hc).1
      rw [hn] at h4
      exact h4
    have h5:=condW_of h4 (w_not (w_lt w_lit (w_len_list (w_arg rfl))))
    rw [List.length_map] at h5
    refine Nat.le_of_not_lt fun q=>?_
    have q' : (n : Int) < ((ns.length : Nat) : Int):=by omega
    first
      | (rw [decide_eq_true q'] at h5; exact absurd h5 (by decide))
      | (simp at h5; omega)
  cases hwl with
  | cons w1 w2=>
    cases w2
    cases w1 with
    | list ho hall=>exact ⟨_,_,ns,rfl,rfl,ho,zfq ns _ hall,hlen⟩
theorem zkC (l : OpenLaw) (args : List WData) : l.row.toRowW.claim.post args (.bool true) args = true:=
  postW_of (r:=l.row.toRowW) (X:=(true == true))
    (show WShape.has [] (.bool true) .bool = true by first | rfl | decide | simp [WShape.has,WShape.arms,WShape.armsAll])
    (show (WTm.eq .res (.lit (.bool true))).value [] { args:=args,res:=some (.bool true),after:=args } = some (.bool (true == true)) from w_eq_bool (w_res rfl) w_lit) rfl
theorem attach_call {l : OpenLaw} {n : Nat} {q : Program} {loose : List Str} {XP : (Str→Option Value)→Heap→Prop} {YP : World→Heap→Prop} {d : DefRec}
    (hn : l.most = some n) (hdf : d.params.defaults = [])
    (call : ∀ (w : World) (s₀ s₁ : Shared) (mg mb : Str→Option Value) (fa : Addr) (o : Obj) (pm cd doc : Value) (a : Addr) (vs : List Value) (ns : List Int),
      Ground q loose [] XP w s₀ mg mb s₁.heap→YP w s₁.heap→
      s₁.heap.get? fa = some o→o.data = .func (docDef d.name d.params d.body d.scope pm cd doc)→s₁.heap.CodeRec cd d.name→mg d.name = some (.ref fa)→
      s₁.heap.get? a = some { cls:=.type "list",data:=.seq vs.toArray }→IntsAre vs ns→ns.length≤n→s₁.gens = #[]→
      codeAny (model l.prog w) callerA (.call (.ref fa) ⟨[.ref a],[]⟩) (fun r s'=>r = .ok (.ret (.bool true))∧OldK s₁.heap s'.heap∧s'.os = s₁.os∧AllBare s'.gens) s₁) :
    WalkO q loose XP YP l.row.toRowW d [] (fun f vs=>PySem.call f vs):=by
  intro w s₀ s₁ mg mb G Y fa o pm cd doc dV kV ho hd hcd hD hmg hg args vals as hpre hlay hrd hwl hlo
  obtain rfl : dV = .none:=Dflts.none hD hdf
  obtain rfl : kV = .none:=Dflts.noKw hD
  obtain ⟨a,vs,ns,rfl,rfl,hobj,hints,hlen⟩:=zkw hn hpre hwl
  refine enter_call (codeAny_mono (call w s₀ s₁ mg mb fa o pm cd doc a vs ns G Y ho (fd_plain hd) hcd hmg hobj hints hlen hg) fun r s' hq=>?_)
  obtain ⟨rfl,h2,h3,h4⟩:=hq
  exact ⟨.inl ⟨.bool true,.bool true,[],rfl,fun _=>rfl,.bool true,zkC l _,fun _=>⟨List.Pairwise.nil,fun _ hm=>(nomatch hm)⟩⟩,h2,h3,h4⟩
section
variable {prog : Program} {w : World} {A : Around} {E : Value→Shared→Prop} {s : Shared} {K : Frag}
def noObjs (h : Heap) : Heap:={ h with objs:=#[] }
def ledger (h : Heap) (L d : Addr) : List (Addr×Obj):=(List.range h.objs.size).filterMap fun a=>if a = L∨a = d then none else (h.get? a).map fun o=>(a,o)
end
end Att
namespace L2
open PySem PySem.Spec PyProof.Rows
theorem zgV : ∀ {vs : List Value} {ns : List Int},IntsAre vs ns→Vals (ns.map V.int) vs
  | _,_,.nil=>.nil
  | _,_,.cons n t h=>.cons ⟨t,rfl⟩ (zgV h)
def Only (H : Hp) : Prop:=∀ b,H b = none∨∃ o xs,H b = some (.frz o (.lst xs))
end L2
namespace L2
open PySem PySem.Spec PyProof.Rows
abbrev KOf {K : PySem.W.Frag} {h : Heap} (_ : K.In h) : PySem.W.Frag:=K
end L2
namespace L2
open PySem PySem.Spec PyProof.Rows
def inClass (s : Stmt) (j : Nat) : Stmt:=match s with
  | .ClassDef _ _ _ body _ _ _ _ _ _ _=>body.getD j (.Pass ⟨0,0,0,0⟩)
  | _=>.Pass ⟨0,0,0,0⟩
def zcN (s : Stmt) : Arguments:=match s with
  | .FunctionDef _ a _ _ _ _ _ _ _ _=>a
  | _=>{ posonlyargs:=[],args:=[],vararg:=none,kwonlyargs:=[],kw_defaults:=[],kwarg:=none,defaults:=[] }
def zbP (s : Stmt) : List Stmt:=match s with
  | .FunctionDef _ _ b _ _ _ _ _ _ _=>b
  | _=>[]
def zai (s : Stmt) : Scope:=match s with
  | .FunctionDef _ _ _ _ _ _ sc _ _ _=>sc
  | _=>{ kind:=.function,names:=[],isGenerator:=false,isCoroutine:=false }
abbrev CX0 : CXT:=fun _ _ _ _ _ _=>False
abbrev E0 : XK:=fun _ _ _=>False
theorem pass0 {X : Cx} : zlY CX0 X E0:=fun _ _ _ _ _ _ _ h=>h.elim
structure Fun (K : PySem.W.Frag) (x qual : Str) (st : Stmt) (f : Addr) (fd : FuncData) : Prop where
  ex : ∃ (oc : Value) (od : Option Addr) (kV doc pm : Value) (an : Option Addr) (cdv ct : Value) (osl : Array (Option Value)),
    fd = PySem.W.fnOf x qual (zcN st) (zbP st) (zai st) .none kV doc pm an cdv ct∧K.lookup f = some ⟨oc,od,.func fd,osl⟩∧PySem.W.codeIn K cdv qual = true
  kp : PySem.W.keepIn K (.ref f) = true
section
variable {P : Program} {w : World} {K : PySem.W.Frag} {mg : Str→Option Value} {base : Heap}
theorem Fun.ok {x qual : Str} {st : Stmt} {f : Addr} {fd : FuncData} {N ps : List Str} {k : Nat} {sp : Sp} (F : Fun K x qual st f fd) (S : zao N ps (zai st)) (len : ∀ vs H Q E,sp vs H Q E→vs.length = ps.length)
    (hbody : ∀ (cdv : Value) (A : Around) (outer : List Env) (s : Shared) (H : Hp) (vs : List V) (Q : VK) (E : XK),Room k (A.deeper (envOfC qual (zai st) s.heap.objs.size f cdv))→sp vs H Q E→
      ∃ t,PSs (cxOf CX0 P w K mg base N qual (zai st) f cdv A outer s H E).nox (zbP st) t∧t { nx:=fun _ H'=>Q .non H',rt:=Q } (zcp N vs) H) : FnOk P w K mg base CX0 (k + 1) f fd ps sp:=by
  obtain ⟨oc,od,kV,doc,pm,an,cdv,ct,osl,rfl,lk,hcd⟩:=F.ex
  refine fn_of lk hcd S len fun A outer s H vs Q E hr hsp=>?_
  obtain ⟨t,h,q⟩:=hbody cdv A outer s H vs Q E hr hsp
  exact ⟨t,h.nox,q⟩
theorem Fun.binds {x qual : Str} {st : Stmt} {f : Addr} {fd : FuncData} {ps : List Str} (F : Fun K x qual st f fd)
    (h : ∀ (kV doc pm : Value) (an : Option Addr) (cdv ct : Value) (us : List Value),us.length = ps.length→bindArgs (PySem.W.fnOf x qual (zcN st) (zbP st) (zai st) .none kV doc pm an cdv ct) ⟨us,[]⟩ = pure (ps.zip us)) : zgT K fd ps []:=by
  obtain ⟨oc,od,kV,doc,pm,an,cdv,ct,osl,rfl,lk,hcd⟩:=F.ex
  exact .all (h kV doc pm an cdv ct)
theorem zfZ {x qual : Str} {st : Stmt} {f : Addr} {oc : Value} {od an : Option Addr} {osl : Array (Option Value)} {kV doc pm cdv ct : Value} (l : K.lookup f = some ⟨oc,od,.func (PySem.W.fnOf x qual (zcN st) (zbP st) (zai st) .none kV doc pm an cdv ct),osl⟩)
    (c : PySem.W.codeIn K cdv qual = true) (k : PySem.W.keepIn K (.ref f) = true) : Fun K x qual st f (PySem.W.fnOf x qual (zcN st) (zbP st) (zai st) .none kV doc pm an cdv ct):=⟨⟨oc,od,kV,doc,pm,an,cdv,ct,osl,rfl,l,c⟩,k⟩
end
theorem zcB {A : Around} {k : Nat} (hr : Room k A) : A.units + 1 < cLine:=Nat.lt_of_le_of_lt (Nat.add_le_add_left (by decide : 1≤64) _) hr.units
theorem zar {n : Nat} (h : n≤1000) : n < sizeLine:=Nat.lt_of_le_of_lt h (by decide)
section
variable {X : Cx}
theorem pv (i : Nat) {x : Str} {pos : Pos} (hN : X.N[i]? = some x:=by rfl) (hv : Vis X.env.scope x:=by first | exact Or.inl rfl | exact Or.inr (Or.inl rfl) | exact Or.inr (Or.inr rfl)) (hd : (x == ("__debug__" : Str)) = false:=by decide)
    (hcd : (x == ("__classdict__" : Str)) = false:=by decide) : PE X (.Name x pos) (tVar i):=pe_var hN hv hd hcd
end
theorem iteF {A B : Prop} (h : B) : if false = true then A else B:=by
  rw [if_neg Bool.false_ne_true]
  exact h
theorem iteT {A B : Prop} (h : A) : if true = true then A else B:=by
  rw [if_pos rfl]
  exact h
theorem ite2 {c A B : Prop} [Decidable c] (h1 : c→A) (h2 : ¬ c→B) : if c then A else B:=by
  by_cases h : c
  · rw [if_pos h]
    exact h1 h
  · rw [if_neg h]
    exact h2 h
theorem zmL {c A B : Prop} [Decidable c] (hc : c) (h : B) : if (!decide c) = true then A else B:=by
  rw [decide_eq_true hc]
  exact iteF h
def Same (H H' : Hp) : Prop:=∀ b o,H b = some o→H' b = some o
theorem Same.refl (H : Hp) : Same H H:=fun _ _ h=>h
theorem Same.trans {H H1 H2 : Hp} (a : Same H H1) (b : Same H1 H2) : Same H H2:=fun c o h=>b c o (a c o h)
theorem Same.free {H H' : Hp} (e : Same H H') {l : Addr} (h : H' l = Option.none) : H l = Option.none:=by
  cases q : H l with
  | none=>rfl
  | some o=>
    rw [e l o q] at h
    cases h
theorem Same.seq {K : PySem.W.Frag} {H H' : Hp} {a : Addr} {xs : List V} (e : Same H H') (h : SqL K H a xs) : SqL K H' a xs:=by
  rcases h with (h | ⟨o,h⟩) | h
  · exact .inl (.inl (e _ _ h))
  · exact .inl (.inr ⟨o,e _ _ h⟩)
  · exact .inr h
end L2
namespace L2
open PySem PySem.Spec PyProof.Rows
section
variable {X : Cx}
end
end L2
namespace L2
open PySem PySem.Spec PyProof.Rows
section
variable {κ : Type} [DecidableEq κ]
end
end L2
namespace Tim
open PySem PyProof.Rows
set_option autoImplicit false
section
variable {prog : Program} {w : World} {A : Around} {E : Value→Shared→Prop} {s : Shared} {κ : KeyKind} {kd : SortKind} {a₀ : Array Keyed}
def LtG (prog : Program) (w : World) (A : Around) (s : Shared) (κ : KeyKind) (kd : SortKind) : Prop:=
 ∀ (E : Value→Shared→Prop) (x y : Value) (a b : κ.α) (Q : Bool→Shared→Prop),κ.keyOf x = some a→κ.keyOf y = some b→Q (κ.blt a b) s→wpAny (model prog w) A (keyLt' kd x y) Q E s
def ky (κ : KeyKind) (p : Keyed) : κ.α:=(κ.keyOf p.1).getD κ.dflt
def Keyd (κ : KeyKind) (p : Keyed) : Prop:=∃ a,κ.keyOf p.1 = some a
theorem Keyd.eq {p : Keyed} (h : Keyd κ p) : κ.keyOf p.1 = some (ky κ p):=by
 obtain ⟨a,e⟩:=h
 unfold ky
 rw [e]
 rfl
structure TB (κ : KeyKind) (kd : SortKind) (n : Nat) (st : SortSt) : Prop where
 kind : kindOf st = kd
 keys : ∀ p∈(arrOf st).toList,Keyd κ p
 failed : failedOf st = none
 size : (arrOf st).size = n
def kAt (κ : KeyKind) (xs : Array Keyed) (i : Nat) : κ.α:=match xs[i]? with
 | some p=>ky κ p
 | none=>κ.dflt
theorem zh9 {xs : Array Keyed} {i : Nat} (h : i < xs.size) : kAt κ xs i = ky κ xs[i]:=by
 unfold kAt
 rw [Array.getElem?_eq_getElem h]
def Up (κ : KeyKind) (xs : Array Keyed) (lo hi : Nat) : Prop:=∀ i j,lo≤i→i≤j→j < hi→κ.kle (kAt κ xs i) (kAt κ xs j)
def Dn (κ : KeyKind) (xs : Array Keyed) (lo hi : Nat) : Prop:=∀ i j,lo≤i→i≤j→j < hi→κ.kle (kAt κ xs j) (kAt κ xs i)
structure Off (xs ys : Array Keyed) (lo hi : Nat) : Prop where
 perm : ys.Perm xs
 out : ∀ k,k < lo∨hi≤k→ys[k]? = xs[k]?
theorem Off.refl (xs : Array Keyed) (lo hi : Nat) : Off xs xs lo hi:=⟨Array.Perm.refl _,fun _ _=>rfl⟩
theorem Off.trans {xs ys zs : Array Keyed} {lo hi : Nat} (a : Off xs ys lo hi) (b : Off ys zs lo hi) : Off xs zs lo hi:=⟨b.perm.trans a.perm,fun k h=>(b.out k h).trans (a.out k h)⟩
theorem Off.size {xs ys : Array Keyed} {lo hi : Nat} (a : Off xs ys lo hi) : ys.size = xs.size:=a.perm.size_eq
end
end Tim
namespace Tim
open PySem PyProof.Rows
set_option autoImplicit false
section
variable {prog : Program} {w : World} {A : Around} {E : Value→Shared→Prop} {s : Shared} {κ : KeyKind} {kd : SortKind}
def RunOk (κ : KeyKind) (st : SortSt) (lo least nrem : Nat) (r : Option Nat) (st' : SortSt) : Prop:=
 ∃ n ys,r = some n∧least≤n∧n≤nrem∧st' = setArr st ys∧Off (arrOf st) ys lo (lo + n)∧Up κ ys lo (lo + n)
theorem Up.more {xs : Array Keyed} {lo hi : Nat} (h : Up κ xs lo hi) (hlo : lo < hi) (hn : κ.kle (kAt κ xs (hi - 1)) (kAt κ xs hi)) : Up κ xs lo (hi + 1):=fun i j h1 h2 h3=>by
 by_cases hj : j < hi
 ·exact h i j h1 h2 hj
 ·have e : j = hi:=by omega
  subst e
  by_cases hi' : i = j
  ·subst hi'; exact KeyOrd.kle_refl _
  ·exact KeyOrd.kle_trans (h i (j - 1) h1 (by omega) (by omega)) hn
theorem Dn.more {xs : Array Keyed} {lo hi : Nat} (h : Dn κ xs lo hi) (hlo : lo < hi) (hn : κ.kle (kAt κ xs hi) (kAt κ xs (hi - 1))) : Dn κ xs lo (hi + 1):=fun i j h1 h2 h3=>by
 by_cases hj : j < hi
 ·exact h i j h1 h2 hj
 ·have e : j = hi:=by omega
  subst e
  by_cases hi' : i = j
  ·subst hi'; exact KeyOrd.kle_refl _
  ·exact KeyOrd.kle_trans hn (h i (j - 1) h1 (by omega) (by omega))
end
end Tim
namespace Tim
open PySem PyProof.Rows
set_option autoImplicit false
section
variable {prog : Program} {w : World} {A : Around} {E : Value→Shared→Prop} {s : Shared} {κ : KeyKind} {kd : SortKind}
end
end Tim
namespace Tim
open PySem PyProof.Rows
set_option autoImplicit false
section
variable {M : Model} {A : Around} {E : Value→Shared→Prop} {s : Shared} {st : SortSt} {n hint : Nat} {p : Nat→Bool}
abbrev C2:=Option (Option Nat)×Nat×Nat
end
def gallopP : Bool→Keyed→Array Keyed→Nat→Nat→Nat→StateT SortSt Sem (Option Nat):=sortPriv% PySem.Builtin.gallop
section
variable {prog : Program} {w : World} {A : Around} {E : Value→Shared→Prop} {s : Shared} {κ : KeyKind} {kd : SortKind}
def bey (κ : KeyKind) (left : Bool) (key : Keyed) (arr : Array Keyed) (base i : Nat) : Bool:=if left = true then κ.blt (kAt κ arr (base + i)) (ky κ key) else !κ.blt (ky κ key) (kAt κ arr (base + i))
end
end Tim
namespace Tim
open PySem PyProof.Rows
set_option autoImplicit false
section
variable {κ : KeyKind}
def le (κ : KeyKind) (x y : Keyed) : Prop:=κ.kle (ky κ x) (ky κ y)
theorem le_refl (x : Keyed) : le κ x x:=KeyOrd.kle_refl _
theorem le_trans {x y z : Keyed} (h1 : le κ x y) (h2 : le κ y z) : le κ x z:=KeyOrd.kle_trans h1 h2
abbrev SL (κ : KeyKind) (l : List Keyed) : Prop:=l.Pairwise (le κ)
theorem SL.drop {l : List Keyed} (h : SL κ l) (n : Nat) : SL κ (l.drop n):=h.sublist (List.drop_sublist n l)
theorem SL.take {l : List Keyed} (h : SL κ l) (n : Nat) : SL κ (l.take n):=h.sublist (List.take_sublist n l)
theorem zhs {xs : Array Keyed} {i : Nat} (h : i < xs.size) : xs.toList.drop i = xs[i] :: xs.toList.drop (i + 1):=by
 have h' : i < xs.toList.length:=by simpa using h
 rw [List.drop_eq_getElem_cons h']
 simp
theorem zog {xs : Array Keyed} (h : Up κ xs 0 xs.size) : SL κ xs.toList:=by
 rw [SL,List.pairwise_iff_getElem]
 intro i j hi hj hij
 have hi' : i < xs.size:=by simpa using hi
 have hj' : j < xs.size:=by simpa using hj
 have:=h i j (Nat.zero_le _) (by omega) hj'
 rw [zh9 hi',zh9 hj'] at this
 simpa [le] using this
structure MI (κ : KeyKind) (a b : Array Keyed) (out : Array Keyed) (ia ib : Nat) : Prop where
 perm : (out.toList ++ (a.toList.drop ia ++ b.toList.drop ib)).Perm (a.toList ++ b.toList)
 srt : SL κ out.toList
 low : ∀ x∈out.toList,∀ y∈a.toList.drop ia ++ b.toList.drop ib,le κ x y
variable {a b out : Array Keyed} {ia ib : Nat}
theorem MI.goA {out' : Array Keyed} {k : Nat} (h : MI κ a b out ia ib) (sa : SL κ a.toList) (ho : out'.toList = out.toList ++ (a.toList.drop ia).take k) (hle : ∀ x∈(a.toList.drop ia).take k,∀ y∈b.toList.drop ib,le κ x y) : MI κ a b out' (ia + k) ib:=by
 have e : a.toList.drop ia = (a.toList.drop ia).take k ++ a.toList.drop (ia + k):=by
  rw [← List.drop_drop,List.take_append_drop]
 have s1:=sa.drop ia
 rw [e] at s1
 obtain ⟨p1,p2,p3⟩:=List.pairwise_append.mp s1
 refine ⟨?_,?_,?_⟩
 ·have q:=h.perm
  rw [e] at q
  rw [ho]
  simpa [List.append_assoc] using q
 ·rw [ho]
  exact List.pairwise_append.mpr ⟨h.srt,p1,fun x hx y hy=>h.low x hx y (List.mem_append_left _ (List.mem_of_mem_take hy))⟩
 ·intro x hx y hy
  rw [ho] at hx
  rcases List.mem_append.mp hx with hx | hx
  ·refine h.low x hx y ?_
   rcases List.mem_append.mp hy with hy | hy
   ·refine List.mem_append_left _ ?_
    rw [e]
    exact List.mem_append_right _ hy
   ·exact List.mem_append_right _ hy
  ·rcases List.mem_append.mp hy with hy | hy
   ·exact p3 x hx y hy
   ·exact hle x hx y hy
theorem ziw {xs : Array Keyed} {i : Nat} (h : i < xs.size) : (xs.toList.drop i).take 1 = [xs[i]]:=by
 rw [zhs h]
 rfl
theorem MI.pa (h : MI κ a b out ia ib) (sa : SL κ a.toList) (hia : ia < a.size) (hle : ∀ y∈b.toList.drop ib,le κ a[ia] y) : MI κ a b (out.push a[ia]) (ia + 1) ib:=
 h.goA (k:=1) sa (by rw [ziw hia,Array.toList_push]) (by
  rw [ziw hia]
  intro x hx
  rw [List.mem_singleton.mp hx]
  exact hle)
structure zjl (κ : KeyKind) (a b m : Array Keyed) : Prop where
 perm : m.toList.Perm (a.toList ++ b.toList)
 srt : SL κ m.toList
theorem zgK {xs : Array Keyed} {i : Nat} : (xs.extract i xs.size).toList = xs.toList.drop i:=by
 rw [Array.toList_extract,List.extract_eq_take_drop]
 exact List.take_of_length_le (by rw [List.length_drop,Array.length_toList]; exact Nat.le_refl _)
theorem MI.done (h : MI κ a b out ia ib) (sa : SL κ a.toList) (hib : b.size≤ib) : zjl κ a b (out ++ a.extract ia a.size ++ b.extract ib b.size):=by
 have e : b.toList.drop ib = []:=List.drop_eq_nil_of_le (by rw [Array.length_toList]; exact hib)
 have e2 : (out ++ a.extract ia a.size ++ b.extract ib b.size).toList = out.toList ++ (a.toList.drop ia ++ b.toList.drop ib):=by
  rw [Array.toList_append,Array.toList_append,zgK,zgK,List.append_assoc]
 refine ⟨by rw [e2]; exact h.perm,?_⟩
 rw [e2,e,List.append_nil]
 refine List.pairwise_append.mpr ⟨h.srt,sa.drop ia,fun x hx y hy=>h.low x hx y (List.mem_append_left _ hy)⟩
theorem MI.last (h : MI κ a b out ia ib) (sa : SL κ a.toList) (sb : SL κ b.toList) (hl : ∀ y∈b.toList,∀ x∈a.toList.drop ia,le κ y x) : zjl κ a b (out ++ b.extract ib b.size ++ a.extract ia a.size):=by
 have e2 : (out ++ b.extract ib b.size ++ a.extract ia a.size).toList = out.toList ++ (b.toList.drop ib ++ a.toList.drop ia):=by
  rw [Array.toList_append,Array.toList_append,zgK,zgK,List.append_assoc]
 refine ⟨?_,?_⟩
 ·rw [e2]
  exact (List.Perm.append_left _ List.perm_append_comm).trans h.perm
 ·rw [e2]
  refine List.pairwise_append.mpr ⟨h.srt,List.pairwise_append.mpr ⟨sb.drop ib,sa.drop ia,fun x hx y hy=>hl x (List.mem_of_mem_drop hx) y hy⟩,fun x hx y hy=>h.low x hx y ?_⟩
  rcases List.mem_append.mp hy with q | q
  ·exact List.mem_append_right _ q
  ·exact List.mem_append_left _ q
end
end Tim
namespace Tim
open PySem PyProof.Rows
set_option autoImplicit false
def mergeLoP : Array Keyed→Array Keyed→StateT SortSt Sem (Array Keyed):=sortPriv% PySem.Builtin.mergeLo
def setGallopP : Nat→StateT SortSt Sem Unit:=sortPriv% PySem.Builtin.setMinGallop
structure SG (st st' : SortSt) : Prop where
 kind : kindOf st' = kindOf st
 arr : arrOf st' = arrOf st
 pend : pendingOf st' = pendingOf st
 failed : failedOf st' = failedOf st
theorem SG.refl (st : SortSt) : SG st st:=⟨rfl,rfl,rfl,rfl⟩
theorem SG.trans {s1 s2 s3 : SortSt} (h : SG s1 s2) (g : SG s2 s3) : SG s1 s3:=⟨g.kind.trans h.kind,g.arr.trans h.arr,g.pend.trans h.pend,g.failed.trans h.failed⟩
section
variable {prog : Program} {w : World} {A : Around} {E : Value→Shared→Prop} {s : Shared} {κ : KeyKind} {kd : SortKind}
end
end Tim
namespace Tim
open PySem PyProof.Rows
set_option autoImplicit false
section
variable {κ : KeyKind} {a b out : Array Keyed} {na nb : Nat}
structure MH (κ : KeyKind) (a b : Array Keyed) (out : Array Keyed) (na nb : Nat) : Prop where
 perm : ((a.toList.take na ++ b.toList.take nb) ++ out.toList.reverse).Perm (a.toList ++ b.toList)
 srt : SL κ out.toList.reverse
 high : ∀ x∈out.toList.reverse,∀ y∈a.toList.take na ++ b.toList.take nb,le κ y x
theorem zjr {l : List Keyed} {n m : Nat} (h : n≤m) : l.take m = l.take n ++ (l.take m).drop n:=by
 have e : (l.take m).take n = l.take n:=by rw [List.take_take,Nat.min_eq_left h]
 rw [← e,List.take_append_drop]
theorem MH.goA {out' : Array Keyed} {n : Nat} (h : MH κ a b out na nb) (sa : SL κ a.toList) (hn : n≤na) (ho : out'.toList.reverse = (a.toList.take na).drop n ++ out.toList.reverse) (hle : ∀ x∈(a.toList.take na).drop n,∀ y∈b.toList.take nb,le κ y x) : MH κ a b out' n nb:=by
 have e:=zjr (l:=a.toList) hn
 have s1:=sa.take na
 rw [e] at s1
 obtain ⟨p1,p2,p3⟩:=List.pairwise_append.mp s1
 refine ⟨?_,?_,?_⟩
 ·refine List.Perm.trans ?_ h.perm
  rw [ho,e,← List.append_assoc]
  refine List.Perm.append_right _ ?_
  rw [List.append_assoc,List.append_assoc,← e]
  exact List.Perm.append_left _ List.perm_append_comm
 ·rw [ho]
  exact List.pairwise_append.mpr ⟨p2,h.srt,fun x hx y hy=>h.high y hy x (List.mem_append_left _ (List.mem_of_mem_drop hx))⟩
 ·intro x hx y hy
  rw [ho] at hx
  rcases List.mem_append.mp hx with hx | hx
  ·rcases List.mem_append.mp hy with hy | hy
   ·exact p3 y hy x hx
   ·exact hle x hx y hy
  ·refine h.high x hx y ?_
   rcases List.mem_append.mp hy with hy | hy
   ·refine List.mem_append_left _ ?_
    rw [e]
    exact List.mem_append_left _ hy
   ·exact List.mem_append_right _ hy
theorem zi4 {xs : Array Keyed} {n : Nat} (h0 : 0 < n) (h : n≤xs.size) : (xs.toList.take n).drop (n - 1) = [xs[n - 1]'(by omega)]:=by
 have h' : n - 1 < xs.size:=by omega
 rw [List.drop_take,show n - (n - 1) = 1 by omega,zhs h']
 rfl
theorem MH.pa (h : MH κ a b out na nb) (sa : SL κ a.toList) (h0 : 0 < na) (hn : na≤a.size) (hle : ∀ y∈b.toList.take nb,le κ y (a[na - 1]'(by omega))) : MH κ a b (out.push (a[na - 1]'(by omega))) (na - 1) nb:=
 h.goA (n:=na - 1) sa (by omega) (by rw [zi4 h0 hn,Array.toList_push,List.reverse_append]; rfl) (by
  rw [zi4 h0 hn]
  intro x hx
  rw [List.mem_singleton.mp hx]
  exact hle)
theorem ze3 {xs : Array Keyed} {n : Nat} : (xs.extract 0 n).toList = xs.toList.take n:=by
 rw [Array.toList_extract,List.extract_eq_take_drop,List.drop_zero,Nat.sub_zero]
theorem MH.done (h : MH κ a b out na nb) (sb : SL κ b.toList) (hna : na = 0) : zjl κ a b (a.extract 0 na ++ b.extract 0 nb ++ out.reverse):=by
 have e2 : (a.extract 0 na ++ b.extract 0 nb ++ out.reverse).toList = (a.toList.take na ++ b.toList.take nb) ++ out.toList.reverse:=by
  rw [Array.toList_append,Array.toList_append,ze3,ze3,Array.toList_reverse]
 refine ⟨by rw [e2]; exact h.perm,?_⟩
 rw [e2]
 subst hna
 refine List.pairwise_append.mpr ⟨?_,h.srt,fun x hx y hy=>h.high y hy x hx⟩
 rw [List.take_zero,List.nil_append]
 exact sb.take nb
theorem MH.first (h : MH κ a b out na nb) (sa : SL κ a.toList) (sb : SL κ b.toList) (hl : ∀ y∈b.toList.take nb,∀ x∈a.toList,le κ y x) : zjl κ a b (b.extract 0 nb ++ a.extract 0 na ++ out.reverse):=by
 have e2 : (b.extract 0 nb ++ a.extract 0 na ++ out.reverse).toList = (b.toList.take nb ++ a.toList.take na) ++ out.toList.reverse:=by
  rw [Array.toList_append,Array.toList_append,ze3,ze3,Array.toList_reverse]
 refine ⟨?_,?_⟩
 ·rw [e2]
  exact (List.Perm.append_right _ List.perm_append_comm).trans h.perm
 ·rw [e2]
  refine List.pairwise_append.mpr ⟨List.pairwise_append.mpr ⟨sb.take nb,sa.take na,fun x hx y hy=>hl x hx y (List.mem_of_mem_take hy)⟩,h.srt,fun x hx y hy=>h.high y hy x ?_⟩
  rcases List.mem_append.mp hx with q | q
  ·exact List.mem_append_right _ q
  ·exact List.mem_append_left _ q
end
def mergeHiP : Array Keyed→Array Keyed→StateT SortSt Sem (Array Keyed):=sortPriv% PySem.Builtin.mergeHi
end Tim
namespace Tim
open PySem PyProof.Rows
set_option autoImplicit false
section
variable {prog : Program} {w : World} {A : Around} {E : Value→Shared→Prop} {s : Shared} {κ : KeyKind} {kd : SortKind}
end
end Tim
namespace Tim
open PySem PyProof.Rows
set_option autoImplicit false
section
variable {κ : KeyKind}
def seg (xs : Array Keyed) (lo n : Nat) : List Keyed:=(xs.toList.drop lo).take n
def back (xs : Array Keyed) (lo : Nat) (m : Array Keyed) : Array Keyed:=m.toList.zipIdx.foldl (fun a (q : Keyed×Nat)=>a.setIfInBounds (lo + q.2) q.1) xs
end
end Tim
namespace Tim
open PySem PyProof.Rows
set_option autoImplicit false
section
variable {prog : Program} {w : World} {A : Around} {E : Value→Shared→Prop} {s : Shared} {κ : KeyKind} {kd : SortKind}
end
end Tim
namespace Tim
open PySem PyProof.Rows
set_option autoImplicit false
section
variable {κ : KeyKind} {xs ys : Array Keyed}
def Runs (κ : KeyKind) (xs : Array Keyed) : List (Nat×Nat×Nat)→Nat→Nat→Prop
 | [],a,b=>a = b
 | (s,n,_) :: r,a,b=>s = a∧0 < n∧Up κ xs a (a + n)∧Runs κ xs r (a + n) b
theorem Runs.le : ∀ {l : List (Nat×Nat×Nat)} {a b : Nat},Runs κ xs l a b→a + l.length≤b
 | [],_,_,h=>by rw [show _ = _ from h]; simp
 | (s,n,p) :: r,a,b,⟨_,h1,_,h2⟩=>by
  have:=Runs.le h2
  rw [List.length_cons]
  omega
theorem Runs.split : ∀ {l m : List (Nat×Nat×Nat)} {a b : Nat},Runs κ xs (l ++ m) a b→∃ c,Runs κ xs l a c∧Runs κ xs m c b
 | [],m,a,b,h=>⟨a,rfl,h⟩
 | (s,n,p) :: r,m,a,b,⟨h0,h1,h2,h3⟩=>by
  obtain ⟨c,c1,c2⟩:=Runs.split (l:=r) h3
  exact ⟨c,⟨h0,h1,h2,c1⟩,c2⟩
end
section
variable {prog : Program} {w : World} {A : Around} {E : Value→Shared→Prop} {s : Shared} {κ : KeyKind} {kd : SortKind}
structure SI (κ : KeyKind) (kd : SortKind) (a₀ : Array Keyed) (lo : Nat) (st : SortSt) : Prop where
 tb : TB κ kd a₀.size st
 perm : (arrOf st).Perm a₀
 le : lo≤a₀.size
 runs : Runs κ (arrOf st) (pendingOf st).toList 0 lo
end
end Tim
namespace Tim
open PySem PyProof.Rows
set_option autoImplicit false
section
variable {prog : Program} {w : World} {A : Around} {E : Value→Shared→Prop} {s : Shared} {κ : KeyKind} {kd : SortKind}
theorem Runs.modify {xs : Array Keyed} {p : Nat} : ∀ {l : List (Nat×Nat×Nat)} {a b : Nat} (i : Nat),Runs κ xs l a b→Runs κ xs (l.modify i fun x=>(x.fst,x.2.fst,p)) a b
 | [],_,_,i,h=>by
  cases i <;> exact h
 | (s,n,q) :: r,a,b,0,h=>h
 | (s,n,q) :: r,a,b,i + 1,⟨h0,h1,h2,h3⟩=>⟨h0,h1,h2,Runs.modify i h3⟩
theorem SI.setp {a₀ : Array Keyed} {lo hi : Nat} {st : SortSt} {p : Array (Nat×Nat×Nat)} (hI : SI κ kd a₀ lo st) (hz : hi≤a₀.size) (hr : Runs κ (arrOf st) p.toList 0 hi) : SI κ kd a₀ hi (setPending st p):=
 ⟨⟨hI.tb.kind,hI.tb.keys,hI.tb.failed,hI.tb.size⟩,hI.perm,hz,hr⟩
theorem SI.marked {a₀ : Array Keyed} {st : SortSt} {lo p : Nat} (hI : SI κ kd a₀ lo st) : SI κ kd a₀ lo (setPending st ((pendingOf st).modify ((pendingOf st).size - 1) fun x=>(x.fst,x.2.fst,p))):=by
 refine hI.setp hI.le ?_
 rw [Array.toList_modify]
 exact hI.runs.modify _
end
end Tim
namespace Tim
open PySem PyProof.Rows
set_option autoImplicit false
section
variable {prog : Program} {w : World} {A : Around} {E : Value→Shared→Prop} {s : Shared} {κ : KeyKind} {kd : SortKind}
def zdL (a : Addr) (h h' : Heap) : Prop:=∀ b o,b≠a→h.get? b = some o→h'.get? b = some o
def keyV (κ : KeyKind) (v : Value) : κ.α:=(κ.keyOf v).getD κ.dflt
theorem zhK : ∀ vs : List Value,vs.zip vs = vs.map fun v=>(v,v)
 | []=>rfl
 | v :: vs=>by rw [List.zip_cons_cons,zhK vs,List.map_cons]
theorem ziY {vs : List Value} {p : Keyed} (h : p∈(pairsOf vs).toList) : p.1 = p.2∧p.1∈vs:=by
 have e : (pairsOf vs).toList = vs.zip vs:=by
  unfold pairsOf
  simp
 rw [e] at h
 rw [zhK] at h
 obtain ⟨v,hv,rfl⟩:=List.mem_map.mp h
 exact ⟨rfl,hv⟩
theorem zkK (vs : List Value) : (pairsOf vs).toList.map (·.2) = vs:=by
 have e : (pairsOf vs).toList = vs.zip vs:=by
  unfold pairsOf
  simp
 rw [e,zhK,List.map_map]
 have z : ((fun x : Keyed=>x.2) ∘ fun v : Value=>(v,v)) = id:=rfl
 first
  | rw [z,List.map_id]
  | exact List.map_id vs
theorem out_of {vs : List Value} {xs : Array Keyed} (hp : xs.Perm (pairsOf vs)) (hU : Up κ xs 0 (pairsOf vs).size) :
  (xs.toList.map (·.2)).Perm vs∧(xs.toList.map (·.2)).Pairwise (fun x y=>κ.kle (keyV κ x) (keyV κ y)):=by
 have hpl:=Array.perm_iff_toList_perm.mp hp
 refine ⟨?_,?_⟩
 ·have:=hpl.map (·.2)
  rwa [zkK] at this
 ·have hs : SL κ xs.toList:=zog (by rw [hp.size_eq]; exact hU)
  refine List.pairwise_map.mpr (hs.imp_of_mem fun {a b} ha hb hab=>?_)
  have ea:=(ziY (hpl.mem_iff.mp ha)).1
  have eb:=(ziY (hpl.mem_iff.mp hb)).1
  unfold le ky at hab
  unfold keyV
  rw [← ea,← eb]
  exact hab
theorem zfo {h : Heap} {a : Addr} {vs out : List Value} {n : Nat} (ho : h.get? a = some (seqObj "list" vs.toArray n)) : zdL a h (sortedHeap h a vs out.toArray)∧∃ c,(sortedHeap h a vs out.toArray).get? a = some (seqObj "list" out.toArray c):=by
 unfold sortedHeap
 refine ⟨fun b o hb e=>(Heap.get?_update_other _ _ (Ne.symm hb)).trans (Heap.get?_push_of_some _ (Heap.get?_push_of_some _ ((Heap.get?_update_other _ _ (Ne.symm hb)).trans e))),?_⟩
 exact ⟨_,get?_update_seq (Heap.get?_push_of_some _ (Heap.get?_push_of_some _ (get?_update_seq ho (fun _=>#[])))) fun _=>out.toArray⟩
end
end Tim
namespace Tim
open PySem PySem.Spec PyProof.Rows PySem.W
set_option autoImplicit false
set_option maxRecDepth 100000
def RawD (d : Addr) (es : Array DictEntry) (ep : Nat) (h : Heap) : Prop:=∃ o,h.get? d = some o∧o.ExactDict∧o.data = .dict es ep
section
variable {prog : Program} {w : World} {A : Around} {E : Value→Shared→Prop} {s : Shared} {d it : Addr} {es : Array DictEntry} {ep : Nat}
theorem RawD.ty (x : RawD d es ep s.heap) : s.TypeIs (.ref d) "dict":=by
 obtain ⟨o,e,c,_⟩:=x
 exact ⟨o,e,c.1⟩
theorem RawD.keep {h h' : Heap} (x : RawD d es ep h) (k : ∀ o,h.get? d = some o→h'.get? d = some o) : RawD d es ep h':=by
 obtain ⟨o,e,r⟩:=x
 exact ⟨o,k o e,r⟩
end
end Tim
namespace Tim
open PySem PySem.Spec PyProof.Rows PySem.W
section
variable {prog : Program} {w : World} {A : Around} {E : Value→Shared→Prop} {s : Shared} {d : Addr} {es : Array DictEntry} {ep : Nat}
end
end Tim
namespace L2
open PySem PySem.Spec PyProof.Rows
structure DF (K : PySem.W.Frag) (mg : Str→Option Value) (x : Str) (st : Stmt) (ps : List Str) : Prop where
 ex : ∃ f fd,Fun K x x st f fd∧zgT K fd ps []∧mg x = some (.ref f)
structure FC (P : Program) (w : World) (K : PySem.W.Frag) (mg : Str→Option Value) (base : Heap) (k : Nat) (x : Str) (ps : List Str) (sp : Sp) : Prop where
 ex : ∃ f fd,FnOk P w K mg base CX0 k f fd ps sp∧zgT K fd ps []∧PySem.W.keepIn K (.ref f) = true∧mg x = some (.ref f)∧∃ oc od osl,K.lookup f = some ⟨oc,od,.func fd,osl⟩
theorem FC.at {P : Program} {w : World} {K : PySem.W.Frag} {mg : Str→Option Value} {base : Heap} {k : Nat} {x : Str} {ps : List Str} {sp : Sp} {f : Addr} {fd : FuncData} {oc : Value} {od : Option Addr} {osl : Array (Option Value)} (F : FC P w K mg base k x ps sp) (m : mg x = some (.ref f)) (l : K.lookup f = some ⟨oc,od,.func fd,osl⟩) : FnOk P w K mg base CX0 k f fd ps sp:=by
 obtain ⟨f',fd',ok,_,_,m',oc',od',osl',l'⟩:=F.ex
 rw [m] at m'
 cases m'
 rw [l] at l'
 cases l'
 exact ok
theorem DF.ok {P : Program} {w : World} {K : PySem.W.Frag} {mg : Str→Option Value} {base : Heap} {x : Str} {st : Stmt} {N ps : List Str} {k : Nat} {sp : Sp} (D : DF K mg x st ps) (S : zao N ps (zai st)) (len : ∀ vs H Q E,sp vs H Q E→vs.length = ps.length)
  (hbody : ∀ (f : Addr) (cdv : Value) (A : Around) (outer : List Env) (s : Shared) (H : Hp) (vs : List V) (Q : VK) (E : XK),Room k (A.deeper (envOfC x (zai st) s.heap.objs.size f cdv))→sp vs H Q E→
   ∃ t,PSs (cxOf CX0 P w K mg base N x (zai st) f cdv A outer s H E).nox (zbP st) t∧t { nx:=fun _ H'=>Q .non H',rt:=Q } (zcp N vs) H) : FC P w K mg base (k + 1) x ps sp:=by
 obtain ⟨f,fd,F,b,m⟩:=D.ex
 exact ⟨f,fd,F.ok S len fun cdv A outer s H vs Q E hr h=>hbody f cdv A outer s H vs Q E hr h,b,F.kp,m,by
  obtain ⟨oc,od,kV,doc,pm,an,cdv,ct,osl,rfl,lk,hcd⟩:=F.ex
  exact ⟨oc,od,osl,lk⟩⟩
theorem zaE {X : Cx} {j k : Nat} {x : Str} {ps : List Str} {sp : Sp} {e : Expr} {es : List Expr} {t : TA} {p pos : Pos} (F : FC X.prog X.w X.K X.mg X.base j x ps sp) (hr : Room k X.A) (ha : PA X (e :: es) t) (hjk : j≤k:=by decide) (hg : Gl X x:=by rfl)
  (hdb : (x == ("__debug__" : Str)) = false:=by decide) (he : starEach (e :: es) X.env = (false,eval e X.env) :: starEach es X.env:=by rfl) (hpl : (backTo pos (starEach es X.env)).any (·.1) = false:=by rfl) : PE X (.Call (.Name x p) (e :: es) [] pos) (tCall sp [] E0 t):=by
 obtain ⟨f,fd,ok,b,kp,m,_⟩:=F.ex
 exact zn3 ok (hr.mono hjk) hg m kp b .nil pass0 ha hdb he hpl
def tSeqM (t u : TS) : TS:=fun D σ H=>∃ M : St→Hp→Prop,t { D with nx:=M } σ H∧∀ σ' H',M σ' H'→u D σ' H'
theorem zbc {X : Cx} {st : Stmt} {rest : List Stmt} {t u : TS} (h1 : PS X st t) (h2 : PSs X rest u) : PSs X (st :: rest) (tSeqM t u):=by
 intro pins s σ H D I h
 obtain ⟨M,h,hM⟩:=h
 refine wpAny_execs_cons (thn (h1 pins s σ H { D with nx:=M } I h) fun f s1 q=>?_)
 cases f with
 | next=>
  obtain ⟨σ',H',I',q⟩:=q
  exact h2 pins s1 σ' H' D I' (hM σ' H' q)
 | ret v=>exact q
 | brk=>exact q
 | cont=>exact q
def CDivB (i j : Int) : Prop:=0 < j∧j < 2 ^ 4000
section
variable {X : Cx}
def kitO (a b : String) : Option Bool:=if (Value.type a == Value.type b) = true then some true else if PySem.W.kitMeta b = true then (PySem.fastBuiltinMro a).map (·.contains (.type b)) else none
theorem zok {K : PySem.W.Frag} {a b : String} : PySem.W.kitOne K (.type a) (.type b) = kitO a b:=rfl
def rIsi (K : PySem.W.Frag) : List V→Hp→VK→Prop:=fun xs H Q=>∃ x n t b,xs = [x,.ty n]∧TyOf K H x (.type t)∧kitO t n = some b∧Q (.bl b) H
theorem zgL : zeg X (.builtin "isinstance") (rIsi X.K):=by
 intro pins s σ H xs us Q I r h
 obtain ⟨x,n,t,b,e,ty,ki,q⟩:=h
 subst e
 obtain ⟨u,w',e,r1,r2⟩:=zga r
 subst e
 cases r2
 exact zlp I r1 ty (zok.trans ki) fun tk=>⟨.bl b,H,I.tok tk,rfl,q⟩
theorem kit_ii : kitO "int" "int" = some true:=by decide +kernel
theorem kit_ib : kitO "int" "bool" = some false:=by decide +kernel
theorem kit_ll : kitO "list" "list" = some true:=by decide +kernel
theorem kit_bb : kitO "bool" "bool" = some true:=by decide +kernel
def znZ : V→List V→Hp→VK→Prop:=fun x xs H Q=>∃ i,x = .int i∧xs = []∧Q (.int (Builtin.Int.intBits i : Nat)) H
theorem zgz : MtR X "int.bit_length" znZ:=by
 intro pins s σ H x xs v us Q I rx rv h
 obtain ⟨i,rfl,rfl,q⟩:=h
 obtain ⟨t,rfl⟩:=rx
 cases rv
 exact call_int_bit_length ⟨.int _,H,I.tok _,⟨_,rfl⟩,q⟩
end
theorem zom {c A B : Prop} [Decidable c] (hc : ¬ c) (h : B) : if decide c = true then A else B:=by
 rw [decide_eq_false hc]
 exact iteF h
theorem zol {c A B : Prop} [Decidable c] (hc : c) (h : A) : if decide c = true then A else B:=by
 rw [decide_eq_true hc]
 exact iteT h
def zcL (L : Addr) (a l : Int) : HO:=.dK [(.inr "script",.ref L),(.inr "at",.int a),(.inr "left",.int l)]
def Keep (d : Addr) (H H' : Hp) : Prop:=∀ b o,b≠d→H b = some o→H' b = some o
theorem Keep.refl (d : Addr) (H : Hp) : Keep d H H:=fun _ _ _ h=>h
theorem Keep.trans {d : Addr} {H H1 H2 : Hp} (a : Keep d H H1) (b : Keep d H1 H2) : Keep d H H2:=fun c o n h=>b c o n (a c o n h)
theorem Same.keep {d : Addr} {H H' : Hp} (s : Same H H') : Keep d H H':=fun b o _ h=>s b o h
structure LS (K : PySem.W.Frag) (L d : Addr) (H : Hp) : Prop where
 ex : ∃ (ns : List Int) (a l : Int),H d = some (zcL L a l)∧SqL K H L (ns.map V.int)
theorem zgf {K : PySem.W.Frag} {H H' : Hp} {L d : Addr} {xs : List V} {L' : Addr} {a l : Int} (hd : H d = some (zcL L' a l)) (k : Keep d H H') (h : SqL K H L xs) : SqL K H' L xs:=by
 have ne : ∀ o,H L = some o→(∀ kvs,o≠.dK kvs)→L≠d:=fun o e n z=>by
  rw [z,hd] at e
  cases e
  exact n _ rfl
 rcases h with (h | ⟨o,h⟩) | h
 ·exact .inl (.inl (k L _ (ne _ h (fun _ z=>nomatch z)) h))
 ·exact .inl (.inr ⟨o,k L _ (ne _ h (fun _ z=>nomatch z)) h⟩)
 ·exact .inr h
theorem LS.set {K : PySem.W.Frag} {d L : Addr} {H : Hp} {ns : List Int} {a l a' l' : Int} (hd : H d = some (zcL L a l)) (h : SqL K H L (ns.map V.int)) : LS K L d (upd H d (zcL L a' l'))∧Keep d H (upd H d (zcL L a' l')):=by
 have k : Keep d H (upd H d (zcL L a' l')):=fun b o n e=>by rw [zag n]; exact e
 exact ⟨⟨ns,a',l',zac,zgf hd k h⟩,k⟩
theorem LS.same {K : PySem.W.Frag} {L d : Addr} {H H' : Hp} (s : LS K L d H) (k : Same H H') : LS K L d H':=by
 obtain ⟨ns,a,l,e,q⟩:=s.ex
 exact ⟨ns,a,l,k _ _ e,k.seq q⟩
theorem zak {H : Hp} {p : Addr} (h : H p = none) (o : HO) : Same H (upd H p o):=fun b u q=>by rw [zag (zab q h)]; exact q
theorem LS.put {K : PySem.W.Frag} {L d p : Addr} {H0 H2 : Hp} {o : HO} (s : LS K L d H0) (hp : H0 p = none) (k : ∀ b o,b≠d→b≠p→H0 b = some o→H2 b = some o) (s2 : LS K L d H2) : LS K L d (upd H2 p o):=by
 obtain ⟨ns,a,l,e,q⟩:=s.ex
 obtain ⟨ns2,a2,l2,e2,_⟩:=s2.ex
 have hdp : d≠p:=zab e hp
 have go : ∀ u,H0 L = some u→(∀ kvs,u≠.dK kvs)→upd H2 p o L = some u:=fun u hu hn=>by
  have h1 : L≠p:=zab hu hp
  have h2 : L≠d:=fun z=>by
   rw [z,e] at hu
   cases hu
   exact hn _ rfl
  rw [zag h1]
  exact k L u h2 h1 hu
 refine ⟨ns,a2,l2,by rw [zag hdp]; exact e2,?_⟩
 rcases q with (h | ⟨ob,h⟩) | h
 ·exact .inl (.inl (go _ h (fun _ z=>nomatch z)))
 ·exact .inl (.inr ⟨ob,go _ h (fun _ z=>nomatch z)⟩)
 ·exact .inr h
section
variable {H : Hp} {d L : Addr} {a l : Int}
theorem zdz {x y : Str} (h : x≠y) : (Sum.inr x : Key)≠Sum.inr y:=fun z=>h (Sum.inr.inj z)
theorem zjN (h : H d = some (zcL L a l)) : DGet H d (.str "script") (some (.ref L)):=.inl ⟨_,.inr "script",.inl h,rfl,by rw [zaZ rfl]⟩
theorem get_at (h : H d = some (zcL L a l)) : DGet H d (.str "at") (some (.int a)):=.inl ⟨_,.inr "at",.inl h,rfl,by rw [zaH (zdz (show ("script" : Str) ≠ "at" by decide +kernel)),zaZ rfl]⟩
theorem zgF (h : H d = some (zcL L a l)) : DGet H d (.str "left") (some (.int l)):=.inl ⟨_,.inr "left",.inl h,rfl,by rw [zaH (zdz (show ("script" : Str) ≠ "left" by decide +kernel)),zaH (zdz (show ("at" : Str) ≠ "left" by decide +kernel)),zaZ rfl]⟩
theorem zno {k : Key} {v : V} {kvs kvs' : List (Key×V)} (h : H d = some (.dK kvs)) (hl : kvs.length < sizeLine) (e : putK kvs k v = kvs') : DPut H d (kV k) v (upd H d (.dK kvs')):=by
 subst e
 exact DPut.k h hl
theorem put_at {a' : Int} (h : H d = some (zcL L a l)) : DPut H d (.str "at") (.int a') (upd H d (zcL L a' l)):=
 zno (k:=.inr "at") h (by show 3 < sizeLine; decide) (by
  unfold putK
  rw [if_pos (by simp)]
  simp only [List.map_cons,List.map_nil,if_neg (zdz (show ("script" : Str) ≠ "at" by decide +kernel)),if_neg (zdz (show ("left" : Str) ≠ "at" by decide +kernel)),if_true])
theorem ziQ {l' : Int} (h : H d = some (zcL L a l)) : DPut H d (.str "left") (.int l') (upd H d (zcL L a l')):=
 zno (k:=.inr "left") h (by show 3 < sizeLine; decide) (by
  unfold putK
  rw [if_pos (by simp)]
  simp only [List.map_cons,List.map_nil,if_neg (zdz (show ("script" : Str) ≠ "left" by decide +kernel)),if_neg (zdz (show ("at" : Str) ≠ "left" by decide +kernel)),if_true])
end
def zfQ (K : PySem.W.Frag) : Sp:=fun vs H Q _=>∃ (d L : Addr) (m : Int),vs = [.ref d,.int m]∧(0 < m∧m < 1073741824)∧LS K L d H∧∀ (v : Int) (H' : Hp),0≤v→v < m→Keep d H H'→LS K L d H'→Q (.int v) H'
def zkp : Sp:=fun vs H Q _=>∃ c k : Int,vs = [.int c,.int k]∧∀ v : Int,Q (.int v) H
def zku (K : PySem.W.Frag) : Sp:=fun vs H Q _=>∃ (L : Addr) (ns : List Int),vs = [.ref L]∧SqL K H L (ns.map V.int)∧∀ (d : Addr) (H' : Hp),H d = none→Same H H'→LS K L d H'→Q (.ref d) H'
def spLaw (K : PySem.W.Frag) : Sp:=fun vs H Q _=>∃ (a : Addr) (ns : List Int),vs = [.ref a]∧SqL K H a (ns.map V.int)∧ns.length≤63∧∀ H',Q (.bl true) H'
theorem at_mod {ns : List Int} {k : Int} (h : 0 < ns.length) : ∃ v : Int,atI (ns.map V.int) (k % (((ns.map V.int).length : Nat) : Int)) = some (.int v):=by
 have e : (ns.map V.int).length = ns.length:=List.length_map _
 have h1 : (0 : Int) < (((ns.map V.int).length : Nat) : Int):=by rw [e]; omega
 have z0:=Int.emod_nonneg k (Int.ne_of_gt h1)
 have z1:=Int.emod_lt_of_pos k h1
 generalize hj : k % (((ns.map V.int).length : Nat) : Int) = j at z0 z1
 rw [e] at z1
 have hk : j.toNat < ns.length:=by omega
 obtain ⟨n,rfl⟩ : ∃ n : Nat,j = (n : Int):=⟨j.toNat,by omega⟩
 have hn : n < ns.length:=by omega
 exact ⟨ns[n],zaJ (by rw [List.getElem?_map,List.getElem?_eq_getElem hn]; rfl)⟩
end L2
namespace L2
open PySem PySem.Spec PyProof.Rows PySem.SeqAt
def Ext (H H' : Hp) : Prop:=∀ b o,H b = some o→(∀ kvs,o≠.dK kvs)→H' b = some o
theorem Ext.refl (H : Hp) : Ext H H:=fun _ _ h _=>h
theorem Ext.trans {H H1 H2 : Hp} (a : Ext H H1) (b : Ext H1 H2) : Ext H H2:=fun c o h n=>b c o (a c o h n) n
theorem Same.ext {H H' : Hp} (s : Same H H') : Ext H H':=fun b o h _=>s b o h
theorem Keep.ext {d L : Addr} {a l : Int} {H H' : Hp} (k : Keep d H H') (h : H d = some (zcL L a l)) : Ext H H':=fun b o e n=>k b o (fun z=>by
 rw [z,h] at e
 cases e
 exact n _ rfl) e
theorem LS.ext {K : PySem.W.Frag} {L d : Addr} {H H' : Hp} (s : LS K L d H) (k : Keep d H H') : Ext H H':=by
 obtain ⟨ns,a,l,e,_⟩:=s.ex
 exact k.ext e
theorem LS.of_new {K : PySem.W.Frag} {L d : Addr} {H : Hp} (s : LS K L d H) {p : Addr} (hp : H p = none) (o : HO) : LS K L d (upd H p o):=s.same (zak hp o)
theorem SqL.ext {K : PySem.W.Frag} {H H' : Hp} {a : Addr} {xs : List V} (e : Ext H H') (h : SqL K H a xs) : SqL K H' a xs:=by
 rcases h with (h | ⟨o,h⟩) | h
 ·exact .inl (.inl (e _ _ h (fun _ z=>nomatch z)))
 ·exact .inl (.inr ⟨o,e _ _ h (fun _ z=>nomatch z)⟩)
 ·exact .inr h
theorem SqT.ext {K : PySem.W.Frag} {H H' : Hp} {a : Addr} {xs : List V} (e : Ext H H') (h : SqT K H a xs) : SqT K H' a xs:=by
 rcases h with (h | ⟨o,h⟩) | h
 ·exact .inl (.inl (e _ _ h (fun _ z=>nomatch z)))
 ·exact .inl (.inr ⟨o,e _ _ h (fun _ z=>nomatch z)⟩)
 ·exact .inr h
class Rep (α : Type) where
 dec : DecidableEq α
 depth : Nat
 has : PySem.W.Frag→Hp→α→V→Prop
 mono : ∀ {K : PySem.W.Frag} {H H' : Hp} {a : α} {v : V},Ext H H'→has K H a v→has K H' a v
 inj : ∀ {X : Cx} {pins : List (Addr×Obj)} {σ : St} {H : Hp} {s : Shared} {a b : α} {v : V},Inv X pins σ H s→has X.K H a v→has X.K H b v→a = b
 rc : ∀ {X : Cx} {pins : List (Addr×Obj)} {σ : St} {H : Hp} {s : Shared} {A : Around} {a b : α} {x y : V} {u v : Value},Inv X pins σ H s→A.units + depth < cLine→has X.K H a x→has X.K H b y→RelV x u→RelV y v→RcAt A s u v (dec a b).decide
 rn : ∀ {X : Cx} {pins : List (Addr×Obj)} {σ : St} {H : Hp} {s : Shared} {A : Around} {a b : α} {x y : V} {u v : Value},Inv X pins σ H s→A.units + depth < cLine→has X.K H a x→has X.K H b y→RelV x u→RelV y v→RcNeAt A s u v (!(dec a b).decide)
 eq : ∀ {X : Cx} {pins : List (Addr×Obj)} {σ : St} {H : Hp} {s : Shared} {A : Around} {a b : α} {x y : V} {u v : Value},Inv X pins σ H s→A.units + depth < cLine→has X.K H a x→has X.K H b y→RelV x u→RelV y v→EqAt A s u v (dec a b).decide
instance (priority:=low) repDec {α : Type} [Rep α] : DecidableEq α:=Rep.dec
theorem zil {i j : Int} : (i == j) = (Int.instDecidableEq i j).decide:=by
 by_cases h : i = j
 ·subst h; simp
 ·rw [beq_eq_false_iff_ne.mpr h]; exact (decide_eq_false h).symm
instance : Rep Int where
 dec:=Int.instDecidableEq
 depth:=0
 has:=fun _ _ i v=>v = .int i
 mono:=fun _ h=>h
 inj:=fun _ h1 h2=>V.int.inj (h1.symm.trans h2)
 rc:=fun _ _ h1 h2 r1 r2=>by
  subst h1 h2
  obtain ⟨t,rfl⟩:=r1
  obtain ⟨t',rfl⟩:=r2
  rw [← zil]
  exact RcAt.int_int _ _ _ _
 rn:=fun _ _ h1 h2 r1 r2=>by
  subst h1 h2
  obtain ⟨t,rfl⟩:=r1
  obtain ⟨t',rfl⟩:=r2
  rw [← zil]
  exact RcNeAt.int_int _ _ _ _
 eq:=fun _ _ h1 h2 r1 r2=>by
  subst h1 h2
  obtain ⟨t,rfl⟩:=r1
  obtain ⟨t',rfl⟩:=r2
  rw [← zil]
  exact EqAt.int_int _ _ _ _
instance : Rep Bool where
 dec:=instDecidableEqBool
 depth:=0
 has:=fun _ _ i v=>v = .bl i
 mono:=fun _ h=>h
 inj:=fun _ h1 h2=>V.bl.inj (h1.symm.trans h2)
 rc:=fun {_ _ _ _ _ _ a b _ _ _ _} _ _ h1 h2 r1 r2=>by
  subst h1 h2
  cases r1
  cases r2
  have e : (a == b) = (instDecidableEqBool a b).decide:=by cases a <;> cases b <;> rfl
  rw [← e]
  exact RcAt.bool_bool _ _
 rn:=fun {_ _ _ _ _ _ a b _ _ _ _} _ _ h1 h2 r1 r2=>by
  subst h1 h2
  cases r1
  cases r2
  have e : (a == b) = (instDecidableEqBool a b).decide:=by cases a <;> cases b <;> rfl
  rw [← e]
  exact RcNeAt.bool_bool _ _
 eq:=fun {_ _ _ _ _ _ a b _ _ _ _} _ _ h1 h2 r1 r2=>by
  subst h1 h2
  cases r1
  cases r2
  have e : (a == b) = (instDecidableEqBool a b).decide:=by cases a <;> cases b <;> rfl
  rw [← e]
  exact EqAt.bool_bool _ _
def zal {α : Type} [Rep α] (K : PySem.W.Frag) (H : Hp) : List α→List V→Prop:=Paired (Rep.has K H)
section
variable {α : Type} [Rep α] {K : PySem.W.Frag} {H H' : Hp}
theorem zal.mono (e : Ext H H') : ∀ {as : List α} {xs : List V},zal K H as xs→zal K H' as xs
 | _,_,.nil=>.nil
 | _,_,.cons h t=>.cons (Rep.mono e h) (zal.mono e t)
theorem zal.length {as : List α} {xs : List V} (h : zal K H as xs) : as.length = xs.length:=Paired.length h
theorem zal.get : ∀ {as : List α} {xs : List V} {i : Nat} {x : V},zal K H as xs→xs[i]? = some x→∃ a,as[i]? = some a∧Rep.has K H a x
 | _,_,_,_,.nil,e=>by simp at e
 | _,_,0,_,.cons h _,e=>by simp at e; subst e; exact ⟨_,rfl,h⟩
 | _,_,i + 1,x,.cons _ t,e=>by
  obtain ⟨a,h1,h2⟩:=zal.get (i:=i) (x:=x) t (by simpa using e)
  exact ⟨a,by simpa using h1,h2⟩
theorem zal.append : ∀ {as bs : List α} {xs ys : List V},zal K H as xs→zal K H bs ys→zal K H (as ++ bs) (xs ++ ys)
 | _,_,_,_,.nil,s=>s
 | _,_,_,_,.cons r t,s=>.cons r (zal.append t s)
theorem zal.take : ∀ {as : List α} {xs : List V} (n : Nat),zal K H as xs→zal K H (as.take n) (xs.take n)
 | _,_,0,_=>.nil
 | _,_,_ + 1,.nil=>.nil
 | _,_,n + 1,.cons r t=>.cons r (zal.take n t)
theorem zal.drop : ∀ {as : List α} {xs : List V} (n : Nat),zal K H as xs→zal K H (as.drop n) (xs.drop n)
 | _,_,0,r=>r
 | _,_,_ + 1,.nil=>.nil
 | _,_,n + 1,.cons _ t=>zal.drop n t
theorem zal.one {a : α} {x : V} (h : Rep.has K H a x) : zal K H [a] [x]:=.cons h .nil
theorem zal.ints : ∀ {ns : List Int},zal K H ns (ns.map V.int)
 | []=>.nil
 | _ :: _=>.cons rfl zal.ints
theorem zal.toInts : ∀ {ns : List Int} {xs : List V},zal K H ns xs→xs = ns.map V.int
 | [],_,.nil=>rfl
 | n :: ns,_,.cons h t=>by
  have e : _ = V.int n:=h
  rw [e,zal.toInts t]
  rfl
theorem zal.inj {X : Cx} {pins : List (Addr×Obj)} {σ : St} {s : Shared} (I : Inv X pins σ H s) : ∀ {as bs : List α} {xs : List V},zal X.K H as xs→zal X.K H bs xs→as = bs
 | _,_,_,.nil,.nil=>rfl
 | _,_,_,.cons h t,.cons h' t'=>by rw [Rep.inj I h h',zal.inj I t t']
end
theorem zeq {α : Type} [DecidableEq α] : ∀ (as bs : List α),as.length = bs.length→((List.range as.length).all fun j=>decide (as[j]? = bs[j]?)) = decide (as = bs):=by
 intro as bs hl
 by_cases h : as = bs
 ·subst h
  simp
 ·rw [decide_eq_false h,List.all_eq_false]
  false_or_by_contra
  rename_i z
  apply h
  apply List.ext_getElem?
  intro i
  by_cases hi : i < as.length
  ·false_or_by_contra
   rename_i q
   exact z ⟨i,List.mem_range.mpr hi,by simpa using q⟩
  ·rw [List.getElem?_eq_none (by omega),List.getElem?_eq_none (by omega)]
section
variable {α : Type} [r : Rep α]
theorem zcA {A : Around} : A.in1.units≤A.units + 1:=by
 first
  | exact Nat.le_refl _
  | (unfold Around.in1; simp)
theorem zeZ {X : Cx} {pins : List (Addr×Obj)} {σ : St} {H : Hp} {s : Shared} {A : Around} {as bs : List α} {xs ys : List V} {us vs : List Value} (I : Inv X pins σ H s) (hu : A.units + Rep.depth α < cLine)
  (h1 : zal X.K H as xs) (h2 : zal X.K H bs ys) (r1 : Vals xs us) (r2 : Vals ys vs) : ∀ j (q1 : j < us.toArray.size) (q2 : j < vs.toArray.size),EqAt A s us.toArray[j] vs.toArray[j] (decide (as[j]? = bs[j]?)):=by
 intro j q1 q2
 have l1:=r1.length
 have l2:=r2.length
 have m1:=h1.length
 have m2:=h2.length
 have j1 : j < us.length:=by simpa using q1
 have j2 : j < vs.length:=by simpa using q2
 obtain ⟨a,ea,ha⟩:=h1.get (i:=j) (List.getElem?_eq_getElem (by omega))
 obtain ⟨b,eb,hb⟩:=h2.get (i:=j) (List.getElem?_eq_getElem (by omega))
 obtain ⟨u,eu,ru⟩:=r1.get (i:=j) (List.getElem?_eq_getElem (by omega))
 obtain ⟨v,ev,rv⟩:=r2.get (i:=j) (List.getElem?_eq_getElem (by omega))
 have gu : us.toArray[j] = u:=by
  have : us[j]? = some us[j]:=List.getElem?_eq_getElem j1
  rw [eu] at this
  simpa using (Option.some.inj this).symm
 have gv : vs.toArray[j] = v:=by
  have : vs[j]? = some vs[j]:=List.getElem?_eq_getElem j2
  rw [ev] at this
  simpa using (Option.some.inj this).symm
 rw [gu,gv,ea,eb]
 have e : decide (some a = some b) = (Rep.dec a b).decide:=by
  by_cases z : a = b
  ·subst z; simp
  ·rw [decide_eq_false (fun q=>z (Option.some.inj q))]; exact (decide_eq_false z).symm
 rw [e]
 exact Rep.eq I hu ha hb ru rv
end
def hasL {α : Type} [Rep α] (K : PySem.W.Frag) (H : Hp) (as : List α) (v : V) : Prop:=∃ a xs,v = .ref a∧SqL K H a xs∧zal K H as xs
section
variable {α : Type} [r : Rep α] {X : Cx} {pins : List (Addr×Obj)} {σ : St} {H : Hp} {s : Shared} {A : Around} {as bs : List α} {x y : V} {u v : Value}
theorem zmR (I : Inv X pins σ H s) (h1 : hasL X.K H as x) (h2 : hasL X.K H bs x) : as = bs:=by
 obtain ⟨a,xs,rfl,q1,h1⟩:=h1
 obtain ⟨b,ys,e,q2,h2⟩:=h2
 cases e
 rw [I.list_inj q2 q1] at h2
 exact h1.inj I h2
theorem zlv (I : Inv X pins σ H s) (hu : A.units + (Rep.depth α + 1) < cLine) (h1 : hasL X.K H as x) (h2 : hasL X.K H bs y) (r1 : RelV x u) (r2 : RelV y v) : RcAt A s u v (decide (as = bs)):=by
 obtain ⟨a,xs,rfl,q1,h1⟩:=h1
 obtain ⟨b,ys,rfl,q2,h2⟩:=h2
 cases r1
 cases r2
 obtain ⟨us,ru,pu,_⟩:=I.list q1
 obtain ⟨vs,rv,pv,_⟩:=I.list q2
 have l1:=ru.length
 have l2:=rv.length
 have m1:=h1.length
 have m2:=h2.length
 have hin : A.in1.units + Rep.depth α < cLine:=Nat.lt_of_le_of_lt (Nat.add_le_add_right zcA _) (by omega)
 by_cases hl : as.length = bs.length
 ·have e:=zeq as bs hl
  rw [← e]
  have z : as.length = us.toArray.size:=by simp; omega
  rw [z]
  exact RcAt.lists pu.isList pv.isList (by simp; omega) (by omega) (zeZ I hin h1 h2 ru rv)
 ·rw [decide_eq_false (fun z=>hl (by rw [z]))]
  exact RcAt.lists_lengths pu.isList pv.isList (by simp; omega) (by omega)
theorem zos (I : Inv X pins σ H s) (hu : A.units + (Rep.depth α + 1) < cLine) (h1 : hasL X.K H as x) (h2 : hasL X.K H bs y) (r1 : RelV x u) (r2 : RelV y v) : RcNeAt A s u v (!decide (as = bs)):=by
 obtain ⟨a,xs,rfl,q1,h1⟩:=h1
 obtain ⟨b,ys,rfl,q2,h2⟩:=h2
 cases r1
 cases r2
 obtain ⟨us,ru,pu,_⟩:=I.list q1
 obtain ⟨vs,rv,pv,_⟩:=I.list q2
 have l1:=ru.length
 have l2:=rv.length
 have m1:=h1.length
 have m2:=h2.length
 have hin : A.in1.units + Rep.depth α < cLine:=Nat.lt_of_le_of_lt (Nat.add_le_add_right zcA _) (by omega)
 by_cases hl : as.length = bs.length
 ·have e:=zeq as bs hl
  rw [← e]
  have z : as.length = us.toArray.size:=by simp; omega
  rw [z]
  exact RcNeAt.lists pu.isList pv.isList (by simp; omega) (by omega) (zeZ I hin h1 h2 ru rv)
 ·rw [decide_eq_false (fun z=>hl (by rw [z])),Bool.not_false]
  exact RcNeAt.lists_lengths pu.isList pv.isList (by simp; omega) (by omega)
theorem zot (I : Inv X pins σ H s) (hu : A.units + (Rep.depth α + 1) < cLine) (h1 : hasL X.K H as x) (h2 : hasL X.K H bs y) (r1 : RelV x u) (r2 : RelV y v) : EqAt A s u v (decide (as = bs)):=by
 have rc:=zlv (A:=A) I hu h1 h2 r1 r2
 obtain ⟨a,xs,rfl,q1,h1⟩:=h1
 obtain ⟨b,ys,rfl,q2,h2⟩:=h2
 cases r1
 cases r2
 by_cases hab : a = b
 ·subst hab
  rw [I.list_inj q2 q1] at h2
  rw [decide_eq_true (h1.inj I h2)]
  exact EqAt.same _
 ·exact EqAt.of_refs hab rc
end
instance {α : Type} [Rep α] : Rep (List α) where
 dec:=inferInstance
 depth:=Rep.depth α + 1
 has:=hasL
 mono:=fun e ⟨a,xs,h1,h2,h3⟩=>⟨a,xs,h1,h2.ext e,h3.mono e⟩
 inj:=fun I h1 h2=>zmR I h1 h2
 rc:=fun I hu h1 h2 r1 r2=>zlv I hu h1 h2 r1 r2
 rn:=fun I hu h1 h2 r1 r2=>zos I hu h1 h2 r1 r2
 eq:=fun I hu h1 h2 r1 r2=>zot I hu h1 h2 r1 r2
def hasP {α β : Type} [Rep α] [Rep β] (K : PySem.W.Frag) (H : Hp) (p : α×β) (v : V) : Prop:=∃ a x y,v = .ref a∧H a = some (.tup [x,y])∧Rep.has K H p.1 x∧Rep.has K H p.2 y
section
variable {α β : Type} [ra : Rep α] [rb : Rep β] {X : Cx} {pins : List (Addr×Obj)} {σ : St} {H : Hp} {s : Shared} {A : Around} {p q : α×β} {x y : V} {u v : Value}
theorem zjc (I : Inv X pins σ H s) (h1 : hasP X.K H p x) (h2 : hasP X.K H q x) : p = q:=by
 obtain ⟨a,x1,x2,rfl,q1,e1,e2⟩:=h1
 obtain ⟨b,y1,y2,e,q2,f1,f2⟩:=h2
 cases e
 have z:=I.tuple_inj (SqT.of q2) (SqT.of q1)
 cases z
 have g1:=Rep.inj I e1 f1
 have g2:=Rep.inj I e2 f2
 obtain ⟨p1,p2⟩:=p
 obtain ⟨s1,s2⟩:=q
 cases g1
 cases g2
 rfl
theorem zlu (I : Inv X pins σ H s) (hu : A.units + (Rep.depth α + Rep.depth β + 1) < cLine) (h1 : hasP X.K H p x) (h2 : hasP X.K H q y) (r1 : RelV x u) (r2 : RelV y v) : RcAt A s u v (decide (p = q)):=by
 obtain ⟨a,x1,x2,rfl,q1,e1,e2⟩:=h1
 obtain ⟨b,y1,y2,rfl,q2,f1,f2⟩:=h2
 cases r1
 cases r2
 obtain ⟨us,ru,pu,_⟩:=I.tuple (SqT.of q1)
 obtain ⟨vs,rv,pv,_⟩:=I.tuple (SqT.of q2)
 obtain ⟨u1,u2,rfl,ru1,ru2⟩:=zga ru
 obtain ⟨v1,v2,rfl,rv1,rv2⟩:=zga rv
 have hin : ∀ n,n≤Rep.depth α + Rep.depth β→A.in1.units + n < cLine:=fun n hn=>Nat.lt_of_le_of_lt (Nat.add_le_add_right zcA _) (by omega)
 have c1:=Rep.eq (A:=A.in1) I (hin _ (by omega)) e1 f1 ru1 rv1
 have c2:=Rep.eq (A:=A.in1) I (hin _ (by omega)) e2 f2 ru2 rv2
 have:=RcAt.tuples (A:=A) (s:=s) (l:=a) (b:=b) (items:=#[u1,u2]) (items2:=#[v1,v2]) (e:=fun j=>if j = 0 then (Rep.dec p.1 q.1).decide else (Rep.dec p.2 q.2).decide) pu pv (by omega) (by
  intro j h1 h2
  have h1' : j < 2:=h1
  have z : j = 0∨j = 1:=by omega
  rcases z with rfl | rfl
  ·exact c1
  ·exact c2)
 have e : ((List.range (min (#[u1,u2] : Array Value).size (#[v1,v2] : Array Value).size)).all (fun j=>if j = 0 then (Rep.dec p.1 q.1).decide else (Rep.dec p.2 q.2).decide) && (#[u1,u2] : Array Value).size == (#[v1,v2] : Array Value).size) = decide (p = q):=by
  obtain ⟨p1,p2⟩:=p
  obtain ⟨s1,s2⟩:=q
  show (((List.range 2).all fun j=>if j = 0 then (Rep.dec p1 s1).decide else (Rep.dec p2 s2).decide) && true) = _
  rw [show List.range 2 = [0,1] from rfl]
  simp only [List.all_cons,List.all_nil,Bool.and_true,if_true]
  rw [if_neg (by decide)]
  by_cases z1 : p1 = s1
  ·by_cases z2 : p2 = s2
   ·subst z1 z2; simp
   ·subst z1; simp [z2]
  ·simp [z1]
 rw [e] at this
 exact this
theorem zoq (I : Inv X pins σ H s) (hu : A.units + (Rep.depth α + Rep.depth β + 1) < cLine) (h1 : hasP X.K H p x) (h2 : hasP X.K H q y) (r1 : RelV x u) (r2 : RelV y v) : RcNeAt A s u v (!decide (p = q)):=by
 obtain ⟨a,x1,x2,rfl,q1,e1,e2⟩:=h1
 obtain ⟨b,y1,y2,rfl,q2,f1,f2⟩:=h2
 cases r1
 cases r2
 obtain ⟨us,ru,pu,_⟩:=I.tuple (SqT.of q1)
 obtain ⟨vs,rv,pv,_⟩:=I.tuple (SqT.of q2)
 obtain ⟨u1,u2,rfl,ru1,ru2⟩:=zga ru
 obtain ⟨v1,v2,rfl,rv1,rv2⟩:=zga rv
 have hin : ∀ n,n≤Rep.depth α + Rep.depth β→A.in1.units + n < cLine:=fun n hn=>Nat.lt_of_le_of_lt (Nat.add_le_add_right zcA _) (by omega)
 have c1:=Rep.eq (A:=A.in1) I (hin _ (by omega)) e1 f1 ru1 rv1
 have c2:=Rep.eq (A:=A.in1) I (hin _ (by omega)) e2 f2 ru2 rv2
 have:=RcNeAt.tuples (A:=A) (s:=s) (l:=a) (b:=b) (items:=#[u1,u2]) (items2:=#[v1,v2]) (e:=fun j=>if j = 0 then (Rep.dec p.1 q.1).decide else (Rep.dec p.2 q.2).decide) pu pv (by omega) (by
  intro j h1 h2
  have h1' : j < 2:=h1
  have z : j = 0∨j = 1:=by omega
  rcases z with rfl | rfl
  ·exact c1
  ·exact c2)
 have e : ((List.range (min (#[u1,u2] : Array Value).size (#[v1,v2] : Array Value).size)).all (fun j=>if j = 0 then (Rep.dec p.1 q.1).decide else (Rep.dec p.2 q.2).decide) && (#[u1,u2] : Array Value).size == (#[v1,v2] : Array Value).size) = decide (p = q):=by
  obtain ⟨p1,p2⟩:=p
  obtain ⟨s1,s2⟩:=q
  show (((List.range 2).all fun j=>if j = 0 then (Rep.dec p1 s1).decide else (Rep.dec p2 s2).decide) && true) = _
  rw [show List.range 2 = [0,1] from rfl]
  simp only [List.all_cons,List.all_nil,Bool.and_true,if_true]
  rw [if_neg (by decide)]
  by_cases z1 : p1 = s1
  ·by_cases z2 : p2 = s2
   ·subst z1 z2; simp
   ·subst z1; simp [z2]
  ·simp [z1]
 rw [e] at this
 exact this
theorem zor (I : Inv X pins σ H s) (hu : A.units + (Rep.depth α + Rep.depth β + 1) < cLine) (h1 : hasP X.K H p x) (h2 : hasP X.K H q y) (r1 : RelV x u) (r2 : RelV y v) : EqAt A s u v (decide (p = q)):=by
 have rc:=zlu (A:=A) I hu h1 h2 r1 r2
 have h1':=id h1
 have h2':=id h2
 obtain ⟨a,x1,x2,rfl,q1,e1,e2⟩:=h1
 obtain ⟨b,y1,y2,rfl,q2,f1,f2⟩:=h2
 cases r1
 cases r2
 by_cases hab : a = b
 ·subst hab
  rw [decide_eq_true (zjc I h1' h2')]
  exact EqAt.same _
 ·exact EqAt.of_refs hab rc
end
instance {α β : Type} [Rep α] [Rep β] : Rep (α×β) where
 dec:=inferInstance
 depth:=Rep.depth α + Rep.depth β + 1
 has:=hasP
 mono:=fun e ⟨a,x,y,h1,h2,h3,h4⟩=>⟨a,x,y,h1,e _ _ h2 (fun _ z=>nomatch z),Rep.mono e h3,Rep.mono e h4⟩
 inj:=fun I h1 h2=>zjc I h1 h2
 rc:=fun I hu h1 h2 r1 r2=>zlu I hu h1 h2 r1 r2
 rn:=fun I hu h1 h2 r1 r2=>zoq I hu h1 h2 r1 r2
 eq:=fun I hu h1 h2 r1 r2=>zor I hu h1 h2 r1 r2
theorem huD {A : Around} {k : Nat} {α : Type} [Rep α] (hr : Room k A) (h : Rep.depth α≤64:=by decide) : A.units + Rep.depth α < cLine:=Nat.lt_of_le_of_lt (Nat.add_le_add_left h _) hr.units
def rEqD (α : Type) [Rep α] (K : PySem.W.Frag) : R2:=fun x y H Q=>∃ a b : α,Rep.has K H a x∧Rep.has K H b y∧Q (.bl (decide (a = b))) H
def rNeD (α : Type) [Rep α] (K : PySem.W.Frag) : R2:=fun x y H Q=>∃ a b : α,Rep.has K H a x∧Rep.has K H b y∧Q (.bl (!decide (a = b))) H
section
variable {X : Cx}
theorem zi0 (α : Type) [Rep α] (hu : X.A.units + Rep.depth α < cLine) : OpR X (compareOp .NotEq) (rNeD α X.K):=by
 intro pins s σ H x y v u Q I rx ry h
 obtain ⟨a,b,ha,hb,q⟩:=h
 refine Rep.rn I hu ha hb rx ry X.prog X.w X.xe _ ⟨.bl _,H,I,rfl,?_⟩
 have e : (Rep.dec a b).decide = decide (a = b):=rfl
 rw [e]
 exact q
end
end L2
namespace L2
open PySem PySem.Spec PyProof.Rows
section
variable {X : Cx} {pins : List (Addr×Obj)} {σ : St} {H : Hp} {s : Shared} {h' : Heap}
theorem Inv.turnedNew {t' : Nat} {fp : List Addr} {p : Addr} {o : HO} (I : Inv X pins σ H s) (k : ∀ b ob,b∉fp→s.heap.get? b = some ob→h'.get? b = some ob) (hf : ∀ b∈fp,FpOk X pins H b)
  (hp : s.heap.objs.size≤p) (new : zbv X.prog X.w (upd H p o) h' p o) : Inv X pins σ (upd H p o) { s with heap:=h',toks:=t' }:=by
 have hn : H p = none:=I.hok.fresh hp
 have nfp : ∀ b u,H b = some u→b∉fp:=fun b u e z=>by rw [(hf b z).1] at e; cases e
 have nep : ∀ b ob,s.heap.get? b = some ob→b≠p:=fun b ob e=>Nat.ne_of_lt (Nat.lt_of_lt_of_le (Heap.lt_size e) hp)
 refine I.step (g':=s.gens) (d':=s.drawn) (ch:=fp) (fun b hb=>?_) (fun b ob _ _ hc e _=>k b ob hc e) (fun b ob _ _ hc e _=>⟨ob.slots,k b ob hc e⟩) (fun b ob _ e n=>by rw [zag (nep b ob e)]; exact n)
  (fun b ob hc e=>⟨ob,k b ob hc e⟩) (fun b xs e=>by rw [zag (zab e hn)]; exact e) (fun b ob u e=>by rw [zag (zab e hn)]; exact e) (fun b ps e=>⟨#[],by rw [zag (zab e hn),e]; simp⟩) (fun m hm=>?_) (fun b u e=>?_) I.bare
 ·obtain ⟨_,h2,_,h4,h5,h6⟩:=hf b hb
  exact ⟨h4,h2,h5,h6⟩
 ·obtain ⟨ob,es,ep,ho,r⟩:=hm
  exact ⟨ob,es,ep,k _ ob (fun z=>(hf _ z).2.1 rfl) ho,r⟩
 ·by_cases hb : b = p
  ·subst hb; rw [zac] at e; cases e; exact new
  ·rw [zag hb] at e
   refine (I.hok b u e).stay (fun c v hc q=>k c v ?_ q) (fun c q=>by rw [zag (zab q hn)]; exact q) fun c xs q=>by rw [zag (zab q hn)]; exact q
   rcases hc with z | z
   ·rw [z]; exact nfp b u e
   ·exact nfp c _ z
theorem zka {P : Program} {w : World} {H : Hp} {h : Heap} {p : Addr} {x y : V} {u v : Value} (rx : RelV x u) (ry : RelV y v) (e : h.get? p = some { cls:=.type "tuple",data:=.seq #[u,v] }) : zbv P w H h p (.tup [x,y]):=
 ⟨by show 2≤sizeLine; decide,[u,v],.cons rx (.cons ry .nil),_,e,rfl,0,rfl⟩
end
def Ite (K : PySem.W.Frag) (a : Addr) : It:=
 ⟨fun i H=>∃ xs x,SqL K H a xs∧xs[i]? = some x,fun i H x H'=>∃ p y,x = .ref p∧H p = none∧(∀ xs,SqL K H a xs→xs[i]? = some y)∧H' = upd H p (.tup [.int i,y]),fun i H=>∃ xs,SqL K H a xs∧xs.length≤i⟩
theorem zj7 {P : Program} {w : World} {K : PySem.W.Frag} {es : List Expr} {k0} {pos : Pos} (a it e : Addr) (hne : e≠it) : Turn P w K (.Tuple es k0 pos) (Ite K a) [e,it] e (fun i h=>(∃ old,IsEnum h e it i old)∧h.IsListIter it a i) where
 mem:=by simp
 obj:=fun i h st b hb=>by
  obtain ⟨⟨old,he⟩,o,ho,c,d⟩:=st
  rcases List.mem_cons.mp hb with z | z
  ·subst z
   exact ⟨_,he,fun v z=>by cases z⟩
  ·have z:=List.mem_singleton.mp z
   subst z
   exact ⟨o,ho,fun v z=>by rw [d] at z; cases z⟩
 keep:=fun i h h' st k=>by
  obtain ⟨⟨old,he⟩,hi⟩:=st
  exact ⟨⟨old,k e (by simp) _ he⟩,hi.at fun o q=>k it (by simp) o q⟩
 item:=by
  intro X hP hw hK hc i pins s σ H E I hf st hg
  subst hP hw hK
  obtain ⟨⟨old,he⟩,hi⟩:=st
  obtain ⟨xs,x,hq,hx⟩:=hg
  obtain ⟨its,rv,p,hz⟩:=I.list hq
  obtain ⟨u,hu,ru⟩:=rv.get hx
  refine wpAny_pyNext_enum_item he hi p.isList (x:=u) (by simpa using hu) hne fun h1 he1 hi1 ht1 _ k1=>?_
  refine ⟨_,rfl,wpAny_letOwnedTupleGo_enum (s:={ s with heap:=h1,toks:=s.toks + 1 }) he1 fun h2 he2 sb=>?_⟩
  have np : s.heap.objs.size≠e:=Nat.ne_of_gt (Heap.lt_size he)
  have ht2 : h2.get? s.heap.objs.size = some { cls:=.type "tuple",data:=.seq #[.int i s.toks,u] }:=(sb.2 _ np).trans ht1
  have I2 : Inv X pins σ (upd H s.heap.objs.size (.tup [.int i,x])) { s with heap:=h2,toks:=s.toks + 1 }:=
   I.turnedNew (fp:=[e,it]) (fun b ob hb q=>(sb.2 b (fun z=>hb (by simp [z]))).trans (k1 b ob (fun z=>hb (by simp [z])) (fun z=>hb (by simp [z])) q)) hf (Nat.le_refl _) (zka ⟨_,rfl⟩ ru ht2)
  refine ⟨.ref s.heap.objs.size,_,I2,rfl,⟨_,x,rfl,I.hok.fresh (Nat.le_refl _),fun ys hy=>by rw [I.list_inj hy hq]; exact hx,rfl⟩,⟨⟨u,?_⟩,?_⟩,fun b hb=>?_⟩
  ·have z : IsEnum h2 e it ((i : Int) + 1) u:=he2
   exact z
  ·exact hi1.at fun o q=>(sb.2 it (Ne.symm hne)).trans q
  ·have z:=(hf b hb).1
   rw [zag ?_]
   ·exact z
   ·rcases List.mem_cons.mp hb with q | q
    ·rw [q]; exact Ne.symm np
    ·rw [List.mem_singleton.mp q]
     obtain ⟨o,ho,_⟩:=hi
     exact Nat.ne_of_lt (Heap.lt_size ho)
 done:=by
  intro X hP hw hK hc i pins s σ H E I hf st hg
  subst hP hw hK
  obtain ⟨⟨old,he⟩,hi⟩:=st
  obtain ⟨xs,hq,hx⟩:=hg
  obtain ⟨its,rv,p,hz⟩:=I.list hq
  obtain ⟨f0,f1,f2,f3,f4,f5⟩:=hf it (by simp)
  have hl:=rv.length
  exact wpAny_pyNext_enum_end (I.ok.hd hc) he hi p.isList (by simp; omega) fun h' eb=>⟨rfl,I.turned (t':=s.toks) (fun b o hb q=>eb b o hb q) f0 f1 f3 f4 f5⟩
 self:=fun _ _ _ _ _ st h=>by
  obtain ⟨⟨old,he⟩,_⟩:=st
  exact wpAny_pyIter_enum he h
def iEnum (K : PySem.W.Frag) (ta : TA) : TI:=fun σ H R=>ta σ H fun vs H1=>∃ a,vs = [.ref a]∧(∃ xs,SqL K H1 a xs)∧R (Ite K a) H1
section
variable {X : Cx}
theorem zc5 {es : List Expr} {k0} {tp : Pos} {a : Expr} {ta : TA} {p pos : Pos} (hg : Gl X "enumerate") (hm : X.mg "enumerate" = none) (ha : PA X [a] ta) (hs : starEach [a] X.env = [(false,eval a X.env)]:=by rfl) : PI X (.Tuple es k0 tp) (.Call (.Name "enumerate" p) [a] [] pos) (iEnum X.K ta):=by
 intro pins s σ H R I h
 refine Call_ (zdy I hg hm boot_enumerate (PyProof.Rows.callWith_type1 (thn (ha pos pins s σ H _ I h) fun us s1 ⟨vs,H1,I1,r1,q1⟩=>?_) hs rfl))
 obtain ⟨l,e,⟨xs,hq⟩,q⟩:=q1
 subst e
 cases r1 with
 | cons r rr=>
  cases rr
  cases r
  obtain ⟨its,rv,pl,hz⟩:=I1.list hq
  refine call_enumerate_list pl.isList fun h' he hi _ hk=>?_
  have I2 : Inv X pins σ H1 { s1 with heap:=h' }:=I1.kept (t':=s1.toks) hk
  refine wpAny_pyIter_enum (s:={ s1 with heap:=h' }) he ⟨_,[s1.heap.objs.size + 1,s1.heap.objs.size],_,_,H1,rfl,I2,zj7 l s1.heap.objs.size (s1.heap.objs.size + 1) (Nat.succ_ne_self _),⟨⟨_,he⟩,hi⟩,fun b hb=>?_,q⟩
  have hb' : s1.heap.objs.size≤b:=by
   rcases List.mem_cons.mp hb with z | z
   ·rw [z]; exact Nat.le_succ _
   ·rw [List.mem_singleton.mp z]; exact Nat.le_refl _
  exact I1.fpOk hb' (I1.hok.fresh hb')
end
theorem zgG {K : PySem.W.Frag} {a : Addr} {xs : List V} {g : TG} {tb : TS} {D : Ends} {σ : St} {H : Hp} (Pv : Nat→St→Hp→Prop) (h0 : Pv 0 σ H) (hl : ∀ i σ H,i≤xs.length→Pv i σ H→SqL K H a xs)
  (hs : ∀ i x σ H p,xs[i]? = some x→Pv i σ H→H p = none→g (.ref p) σ (upd H p (.tup [.int i,x])) fun σ2 H2=>tb { D with nx:=Pv (i + 1),ct:=Pv (i + 1),bk:=D.nx } σ2 H2) (hd : ∀ σ H,Pv xs.length σ H→D.nx σ H) :
  ∃ W : Nat→Nat→St→Hp→Prop,(∃ m,W 0 m σ H)∧∀ i m σ H,W i m σ H→((Ite K a).stop i H∧D.nx σ H)∨((Ite K a).go i H∧∃ N : St→Hp→Prop,(∀ σ' H',N σ' H'→∃ m',m' < m∧W (i + 1) m' σ' H')∧∀ x H',(Ite K a).yld i H x H'→g x σ H' fun σ2 H2=>tb { D with nx:=N,ct:=N,bk:=D.nx } σ2 H2):=by
 refine ⟨fun i m σ H=>i + m = xs.length∧Pv i σ H,⟨xs.length,by omega,h0⟩,fun i m σ H ⟨e,pv⟩=>?_⟩
 have hS:=hl i σ H (by omega) pv
 by_cases hi : i < xs.length
 ·refine .inr ⟨⟨xs,xs[i],hS,List.getElem?_eq_getElem hi⟩,Pv (i + 1),fun σ' H' q=>⟨m - 1,by omega,by omega,q⟩,fun x H' y=>?_⟩
  obtain ⟨p,z,rfl,hp,hz,rfl⟩:=y
  exact hs i z σ H p (hz xs hS) pv hp
 ·have : i = xs.length:=by omega
  subst this
  exact .inl ⟨⟨xs,hS,Nat.le_refl _⟩,hd σ H pv⟩
def Itz (K : PySem.W.Frag) (a b : Addr) : It:=
 ⟨fun i H=>∃ xs ys x y,SqL K H a xs∧SqL K H b ys∧xs[i]? = some x∧ys[i]? = some y,fun i H x H'=>∃ p y z,x = .ref p∧H p = none∧(∀ xs,SqL K H a xs→xs[i]? = some y)∧(∀ xs,SqL K H b xs→xs[i]? = some z)∧H' = upd H p (.tup [y,z]),fun i H=>∃ xs ys,SqL K H a xs∧SqL K H b ys∧(xs.length≤i∨ys.length≤i)⟩
theorem zl6 {P : Program} {w : World} {K : PySem.W.Frag} {es : List Expr} {k0} {pos : Pos} {a b z TI TO i1 i2 : Addr} (D : ZipApart z TI TO i1 i2 a b) : Turn P w K (.Tuple es k0 pos) (Itz K a b) [z,TI,TO,i1,i2] z
  (fun i h=>IsZip h z TI TO .none∧IsPair h TI (.ref i1) (.ref i2)∧(∃ u v,IsPair h TO u v)∧h.IsListIter i1 a i∧h.IsListIter i2 b i) where
 mem:=by simp
 obj:=fun i h st c hc=>by
  obtain ⟨hz,hTI,⟨u,v,hTO⟩,⟨o1,e1,_,d1⟩,⟨o2,e2,_,d2⟩⟩:=st
  simp only [List.mem_cons,List.not_mem_nil,or_false] at hc
  rcases hc with rfl | rfl | rfl | rfl | rfl
  ·exact ⟨_,hz,fun v q=>by cases q⟩
  ·exact ⟨_,hTI,fun v q=>by cases q⟩
  ·exact ⟨_,hTO,fun v q=>by cases q⟩
  ·exact ⟨o1,e1,fun v q=>by rw [d1] at q; cases q⟩
  ·exact ⟨o2,e2,fun v q=>by rw [d2] at q; cases q⟩
 keep:=fun i h h' st k=>by
  obtain ⟨hz,hTI,⟨u,v,hTO⟩,h1,h2⟩:=st
  exact ⟨k z (by simp) _ hz,k TI (by simp) _ hTI,⟨u,v,k TO (by simp) _ hTO⟩,h1.at fun o q=>k i1 (by simp) o q,h2.at fun o q=>k i2 (by simp) o q⟩
 item:=by
  intro X hP hw hK hc i pins s σ H E I hf st hg
  subst hP hw hK
  obtain ⟨hz,hTI,⟨u0,v0,hTO⟩,h1,h2⟩:=st
  obtain ⟨xs,ys,x,y,hqa,hqb,hx,hy⟩:=hg
  obtain ⟨its,rv,p,_⟩:=I.list hqa
  obtain ⟨jts,rw',p',_⟩:=I.list hqb
  obtain ⟨u,hu,ru⟩:=rv.get hx
  obtain ⟨v,hv,rv'⟩:=rw'.get hy
  refine wpAny_pyNext_zip_item D hz hTI hTO h1 h2 p.isList p'.isList (x:=u) (y:=v) (by simpa using hu) (by simpa using hv) fun h1' hz1 hTO1 hi1 hi2 ht1 _ k1=>?_
  refine ⟨_,rfl,wpAny_letOwnedTupleGo_zip (s:={ s with heap:=h1' }) hz1 fun h2' hz2 sb=>?_⟩
  have np : s.heap.objs.size≠z:=Nat.ne_of_gt (Heap.lt_size hz)
  have ht2 : h2'.get? s.heap.objs.size = some { cls:=.type "tuple",data:=.seq #[u,v] }:=(sb.2 _ np).trans ht1
  have I2 : Inv X pins σ (upd H s.heap.objs.size (.tup [x,y])) { s with heap:=h2',toks:=s.toks }:=
   I.turnedNew (fp:=[z,TI,TO,i1,i2]) (fun c ob hb q=>(sb.2 c (fun r=>hb (by simp [r]))).trans (k1 c ob (fun r=>hb (by simp [r])) (fun r=>hb (by simp [r])) (fun r=>hb (by simp [r])) (fun r=>hb (by simp [r])) q)) hf (Nat.le_refl _) (zka ru rv' ht2)
  refine ⟨.ref s.heap.objs.size,_,I2,rfl,⟨_,x,y,rfl,I.hok.fresh (Nat.le_refl _),fun ys hy'=>by rw [I.list_inj hy' hqa]; exact hx,fun ys hy'=>by rw [I.list_inj hy' hqb]; exact hy,rfl⟩,⟨hz2,(sb.2 _ D.TIz).trans (k1 TI _ D.TIz D.TITO D.TIi1 D.TIi2 hTI),⟨_,_,(sb.2 _ D.TOz).trans hTO1⟩,hi1.at fun o q=>(sb.2 i1 D.i1z).trans q,hi2.at fun o q=>(sb.2 i2 D.i2z).trans q⟩,fun c hb=>?_⟩
  have zf:=(hf c hb).1
  have lt : c < s.heap.objs.size:=by
   simp only [List.mem_cons,List.not_mem_nil,or_false] at hb
   obtain ⟨o1,e1,_⟩:=h1
   obtain ⟨o2,e2,_⟩:=h2
   rcases hb with rfl | rfl | rfl | rfl | rfl
   ·exact Heap.lt_size hz
   ·exact Heap.lt_size hTI
   ·exact Heap.lt_size hTO
   ·exact Heap.lt_size e1
   ·exact Heap.lt_size e2
  rw [zag (Nat.ne_of_lt lt)]
  exact zf
 done:=by
  intro X hP hw hK hc i pins s σ H E I hf st hg
  subst hP hw hK
  obtain ⟨hz,hTI,⟨u0,v0,hTO⟩,h1,h2⟩:=st
  obtain ⟨xs,ys,hqa,hqb,hend⟩:=hg
  obtain ⟨its,rv,p,_⟩:=I.list hqa
  obtain ⟨jts,rw',p',_⟩:=I.list hqb
  have l1:=rv.length
  have l2:=rw'.length
  refine wpAny_pyNext_zip_end (I.ok.hd hc) D hz hTI hTO h1 h2 p.isList p'.isList (by
   rcases hend with q | q
   ·left; simp; omega
   ·right; simp; omega) fun h' kk=>⟨rfl,?_⟩
  refine I.step (g':=s.gens) (d':=s.drawn) (t':=s.toks) (ch:=[z,TI,TO,i1,i2]) (fun c hb=>?_) (fun c ob _ _ hn q _=>kk c ob (fun r=>hn (by simp [r])) (fun r=>hn (by simp [r])) (fun r=>hn (by simp [r])) (fun r=>hn (by simp [r])) q)
   (fun c ob _ _ hn q _=>⟨ob.slots,kk c ob (fun r=>hn (by simp [r])) (fun r=>hn (by simp [r])) (fun r=>hn (by simp [r])) (fun r=>hn (by simp [r])) q⟩) (fun _ _ _ _ n=>n)
   (fun c ob hn q=>⟨ob,kk c ob (fun r=>hn (by simp [r])) (fun r=>hn (by simp [r])) (fun r=>hn (by simp [r])) (fun r=>hn (by simp [r])) q⟩) (fun _ _ q=>q) (fun _ _ _ q=>q) (fun c ps q=>⟨#[],by rw [q]; simp⟩) (fun m hm=>?_) (fun c u e=>?_) I.bare
  ·obtain ⟨_,q2,_,q4,q5,q6⟩:=hf c hb
   exact ⟨q4,q2,q5,q6⟩
  ·obtain ⟨ob,es,ep,ho,r⟩:=hm
   have nL : ∀ c∈[z,TI,TO,i1,i2],X.env.locals≠c:=fun c hc=>Ne.symm (hf c hc).2.1
   exact ⟨ob,es,ep,kk _ ob (nL z (by simp)) (nL TO (by simp)) (nL i1 (by simp)) (nL i2 (by simp)) ho,r⟩
  ·have nf : ∀ c' u,H c' = some u→∀ q∈[z,TI,TO,i1,i2],c'≠q:=fun c' u e q hq r=>by rw [r,(hf q hq).1] at e; cases e
   refine (I.hok c u e).stay (fun c' v hc' q=>?_) (fun _ q=>q) fun _ _ q=>q
   have go : ∀ u',H c' = some u'→h'.get? c' = some v:=fun u' e'=>kk c' v (nf c' _ e' z (by simp)) (nf c' _ e' TO (by simp)) (nf c' _ e' i1 (by simp)) (nf c' _ e' i2 (by simp)) q
   rcases hc' with r | r
   ·exact go u (by rw [r]; exact e)
   ·exact go _ r
 self:=fun _ _ _ _ _ st h=>wpAny_pyIter_zip st.1 h
theorem zjZ {l l' n : Nat} (hl : l < n) (hl' : l' < n) : ZipApart (n + 4) (n + 2) (n + 3) n (n + 1) l l':=by
 constructor <;> (intro z; have z' : (_ : Nat) = _:=z; omega)
theorem zip_in {n c : Nat} (h : c∈[n + 4,n + 2,n + 3,n,n + 1]) : n≤c:=by
 simp only [List.mem_cons,List.not_mem_nil,or_false] at h
 omega
def iZip (K : PySem.W.Frag) (ta : TA) : TI:=fun σ H R=>ta σ H fun vs H1=>∃ a b,vs = [.ref a,.ref b]∧(∃ xs,SqL K H1 a xs)∧(∃ xs,SqL K H1 b xs)∧R (Itz K a b) H1
section
variable {X : Cx}
theorem znq {es : List Expr} {k0} {tp : Pos} {a b : Expr} {ta : TA} {p pos : Pos} (hg : Gl X "zip") (hm : X.mg "zip" = none) (ha : PA X [a,b] ta) (hs : starEach [a,b] X.env = [(false,eval a X.env),(false,eval b X.env)]:=by rfl) (hs2 : starEach [b] X.env = [(false,eval b X.env)]:=by rfl) : PI X (.Tuple es k0 tp) (.Call (.Name "zip" p) [a,b] [] pos) (iZip X.K ta):=by
 intro pins s σ H R I h
 refine Call_ (zdy I hg hm boot_zip (PyProof.Rows.callWith_type1 (thn (ha pos pins s σ H _ I h) fun us s1 ⟨vs,H1,I1,r1,q1⟩=>?_) (by rw [hs,hs2]) (by rw [hs2]; rfl)))
 obtain ⟨l,l',e,⟨xs,hq⟩,⟨ys,hq'⟩,q⟩:=q1
 subst e
 cases r1 with
 | cons r rr=>
  cases rr with
  | cons r' rr=>
   cases rr
   cases r
   cases r'
   obtain ⟨its,rv,pl,hz⟩:=I1.list hq
   obtain ⟨jts,rv',pl',hz'⟩:=I1.list hq'
   have hl : l < s1.heap.objs.size:=by obtain ⟨o,_,e,_⟩:=pl; exact Heap.lt_size e
   have hl' : l' < s1.heap.objs.size:=by obtain ⟨o,_,e,_⟩:=pl'; exact Heap.lt_size e
   refine call_zip_2 pl.isList pl'.isList fun h' hz hTI hTO hi hi' _ hk=>?_
   have I2 : Inv X pins σ H1 { s1 with heap:=h' }:=I1.kept (t':=s1.toks) hk
   refine wpAny_pyIter_zip (s:={ s1 with heap:=h' }) hz ⟨_,[s1.heap.objs.size + 4,s1.heap.objs.size + 2,s1.heap.objs.size + 3,s1.heap.objs.size,s1.heap.objs.size + 1],_,_,H1,rfl,I2,zl6 (zjZ hl hl'),⟨hz,hTI,⟨_,_,hTO⟩,hi,hi'⟩,fun c hb=>?_,q⟩
   have hb' : s1.heap.objs.size≤c:=zip_in hb
   exact I1.fpOk hb' (I1.hok.fresh hb')
end
end L2
namespace L2
open PySem PySem.Spec PyProof.Rows
def zbF (X : Cx) (N : List Str) (scope : Scope) (cl : List (Str×Addr)) (C : Addr) (s₂ : Shared) (H₂ : Hp) (fp : List Addr) : Cx:=
 { X with N:=N,s₀:=s₂,H₀:=H₂,env:=compEnvC scope cl C X.env,outer:=X.stack,stack:=X.stack,ex:=fp,fn:=fun _=>false,xe:=fun _ _=>False }
structure zf8 (scope : Scope) (env : Env) (cl : List (Str×Addr)) : Prop where
 eq : closureFor scope env = pure cl
 sub : ∀ x c,cl.lookup x = some c→env.cells.lookup x = some c
 has : ∀ x,(x,NameKind.free)∈scope.names→∃ c,cl.lookup x = some c
theorem zfy {env : Env} : ∀ (names : List (Str×NameKind)) (cs : List (Str×Addr)),(∀ x,(x,NameKind.free)∈names→∃ c,env.cells.lookup x = some c)→(∀ x c,cs.lookup x = some c→env.cells.lookup x = some c)→
  ∃ cl : List (Str×Addr),(forIn names cs (fun (x : Str×NameKind) (r : List (Str×Addr))=>if (x.2 == NameKind.free) = true then (do let c ← cellOf env x.1; pure (ForInStep.yield ((x.1,c) :: r))) else pure (ForInStep.yield r)) : Sem (List (Str×Addr))) = pure cl∧
   (∀ x c,cl.lookup x = some c→env.cells.lookup x = some c)∧(∀ x c,cs.lookup x = some c→∃ c',cl.lookup x = some c')∧∀ x,(x,NameKind.free)∈names→∃ c,cl.lookup x = some c
 | [],cs,_,h2=>⟨cs,by rw [List.forIn_nil],h2,fun x c e=>⟨c,e⟩,fun _ z=>nomatch z⟩
 | (n,k) :: r,cs,h1,h2=>by
  by_cases hk : k = .free
  ·subst hk
   obtain ⟨c,hc⟩:=h1 n List.mem_cons_self
   have hn : ∀ x c',((n,c) :: cs).lookup x = some c'→env.cells.lookup x = some c':=fun x c' e=>by
    rw [List.lookup_cons] at e
    cases hx : x == n with
    | true=>
     rw [hx] at e
     cases e
     rw [eq_of_beq hx]
     exact hc
    | false=>
     rw [hx] at e
     exact h2 x c' e
   obtain ⟨cl,e,s1,s2,s3⟩:=zfy r ((n,c) :: cs) (fun x hx=>h1 x (List.mem_cons_of_mem _ hx)) hn
   have here : ∃ c',cl.lookup n = some c':=s2 n c (by rw [List.lookup_cons,beq_self_eq_true])
   refine ⟨cl,?_,s1,fun x c' q=>?_,fun x hx=>?_⟩
   ·rw [List.forIn_cons,if_pos (by rfl)]
    have q : cellOf env n = pure c:=by unfold cellOf; rw [hc]
    rw [q]
    simp only [pure_bind]
    exact e
   ·cases hxn : x == n with
    | true=>rw [eq_of_beq hxn]; exact here
    | false=>exact s2 x c' (by rw [List.lookup_cons,hxn]; exact q)
   ·rcases List.mem_cons.mp hx with z | z
    ·cases z; exact here
    ·exact s3 x z
  ·obtain ⟨cl,e,s1,s2,s3⟩:=zfy r cs (fun x hx=>h1 x (List.mem_cons_of_mem _ hx)) h2
   refine ⟨cl,?_,s1,s2,fun x hx=>?_⟩
   ·have hb : (k == NameKind.free) = false:=by simpa using hk
    rw [List.forIn_cons,if_neg (by rw [hb]; exact Bool.false_ne_true)]
    simp only [pure_bind]
    exact e
   ·rcases List.mem_cons.mp hx with z | z
    ·cases z; exact absurd rfl hk
    ·exact s3 x z
theorem zfx {scope : Scope} {env : Env} (h : ∀ x,(x,NameKind.free)∈scope.names→∃ c,env.cells.lookup x = some c) : ∃ cl,zf8 scope env cl:=by
 obtain ⟨cl,e,s1,_,s3⟩:=zfy scope.names [] h (fun _ _ z=>nomatch z)
 refine ⟨cl,?_,s1,s3⟩
 unfold closureFor
 exact (by simpa using e)
theorem zb9 {env : Env} : ∀ {names : List (Str×NameKind)} {x : Str},names.lookup x = some .free→
  (names.map fun (n,k)=>if (k == NameKind.free && env.scope.kind == .function && env.kindOf n == some .cell) then (n,NameKind.cell) else (n,k)).lookup x = some .cell∨
  (names.map fun (n,k)=>if (k == NameKind.free && env.scope.kind == .function && env.kindOf n == some .cell) then (n,NameKind.cell) else (n,k)).lookup x = some .free
 | [],_,h=>by simp at h
 | (n,k) :: r,x,h=>by
  have ih:=@zb9 env r x
  show List.lookup x ((if (k == NameKind.free && env.scope.kind == .function && env.kindOf n == some .cell) = true then (n,NameKind.cell) else (n,k)) :: _) = _∨List.lookup x ((if (k == NameKind.free && env.scope.kind == .function && env.kindOf n == some .cell) = true then (n,NameKind.cell) else (n,k)) :: _) = _
  cases hx : x == n with
  | true=>
   simp only [List.lookup_cons,hx] at h
   cases h
   by_cases hc : (NameKind.free == NameKind.free && env.scope.kind == .function && env.kindOf n == some .cell) = true
   ·rw [if_pos hc]; left; simp only [List.lookup_cons,hx]
   ·rw [if_neg hc]; right; simp only [List.lookup_cons,hx]
  | false=>
   simp only [List.lookup_cons,hx] at h
   by_cases hc : (k == NameKind.free && env.scope.kind == .function && env.kindOf n == some .cell) = true
   ·rw [if_pos hc]; simp only [List.lookup_cons,hx]; exact ih h
   ·rw [if_neg hc]; simp only [List.lookup_cons,hx]; exact ih h
theorem zdE {env : Env} : ∀ {names : List (Str×NameKind)} {x : Str} {k' : NameKind},(names.map fun (n,k)=>if (k == NameKind.free && env.scope.kind == .function && env.kindOf n == some .cell) then (n,NameKind.cell) else (n,k)).lookup x = some k'→k' = .cell∨k' = .free→
  (∀ y∈names,y.2≠.cell)→(x,NameKind.free)∈names
 | [],_,_,h,_,_=>by simp at h
 | (n,k) :: r,x,k',h,hk,hc=>by
  have ih:=@zdE env r x k'
  have h' : List.lookup x ((if (k == NameKind.free && env.scope.kind == .function && env.kindOf n == some .cell) = true then (n,NameKind.cell) else (n,k)) :: r.map fun (n,k)=>if (k == NameKind.free && env.scope.kind == .function && env.kindOf n == some .cell) then (n,NameKind.cell) else (n,k)) = some k':=h
  cases hx : x == n with
  | true=>
   have e:=eq_of_beq hx
   subst e
   by_cases hf : k = .free
   ·subst hf; exact List.mem_cons_self
   ·have hb : (k == NameKind.free) = false:=by simpa using hf
    rw [if_neg (by rw [hb]; simp),List.lookup_cons,hx] at h'
    cases h'
    rcases hk with z | z
    ·exact absurd z (hc (x,k) List.mem_cons_self)
    ·exact absurd z hf
  | false=>
   refine List.mem_cons_of_mem _ (ih ?_ hk fun y hy=>hc y (List.mem_cons_of_mem _ hy))
   by_cases hcd : (k == NameKind.free && env.scope.kind == .function && env.kindOf n == some .cell) = true
   ·rw [if_pos hcd,List.lookup_cons,hx] at h'; exact h'
   ·rw [if_neg hcd,List.lookup_cons,hx] at h'; exact h'
def zes (own : Nat) (cap : List Nat) (σ : St) : St:=List.replicate own none ++ cap.map fun i=>(σ[i]?).getD none
structure zjm (X : Cx) (scope : Scope) (N : List Str) (own : Nat) (cap : List Nat) : Prop where
 kind : scope.kind = .function
 nocell : (scope.names.all fun y=>y.2 != .cell) = true
 locs : (scope.names.all fun y=>y.2 != .local || scope.names.lookup y.1 == some .local) = true
 frees : (scope.names.all fun y=>y.2 != .free || (X.env.kindOf y.1 == some .cell || X.env.kindOf y.1 == some .free)) = true
 len : N.length = own + cap.length
 caps : ((List.range cap.length).all fun j=>(N[own + j]? == X.N[cap[j]!]?) && (match N[own + j]? with | some x=>scope.names.lookup x == some .free && (X.env.kindOf x == some .cell || X.env.kindOf x == some .free) | none=>false)) = true
section
variable {prog : Program} {w : World} {A : Around} {R : Result→Shared→Prop} {s : Shared}
theorem zih {elt target iter : Expr} {ifs : List Expr} {scope : Scope} {pos : Pos} {it acc : Value} {env : Env} (I : Nat→Shared→Prop)
  (turn : ∀ n s,I n s→wpAny (model prog w) A (pyNext it) (fun r s₁=>match r with
   | none=>R (.ok .next) s₁
   | some v=>wpAny (model prog w) A (letOwnedTupleGo target it v) (fun _ s₁'=>wpAny (model prog w) A (assign target env v) (fun _ s₂=>
     wpAny (model prog w) A (forIn ifs true fun c r=>if r = true then do let ok ← isTrue c env (eval c env); pure (ForInStep.yield ok) else pure (ForInStep.yield r)) (fun ok s₃=>
      if ok = true then wpAny (model prog w) A (eval elt env) (fun x s₄=>
       wpAny (model prog w) A (call (.builtin "list.append") [acc,x]) (fun _ s₅=>∃ m,m < n∧I m s₅) (fun _ _=>False) s₄) (fun _ _=>False) s₃
      else ∃ m,m < n∧I m s₃) (fun _ _=>False) s₂) (fun _ _=>False) s₁') (fun _ _=>False) s₁) (fun _ _=>False) s)
  (n : Nat) (h : I n s) :
  codeAny (model prog w) A (.compLoop (.ListComp elt [⟨target,iter,ifs,0⟩] scope pos) 0 it acc env) R s:=by
 refine codeAny_loop rfl I (fun n s hI=>?_) n h
 show wpAny _ A ((compTurn (.ListComp elt [⟨target,iter,ifs,0⟩] scope pos) 0 it acc env).onRaise (fun x=>do noteFrame x env; theTreesLotGoes x)) _ _ s
 refine wpAny_noted ?_
 rw [compTurn_list]
 refine wpAny_bind (wpAny_standAt (wpAny_bind (wpAny_mono (turn n s hI) (fun r s₁ h₁=>?_) fun _ _ h'=>h'.elim)))
 cases r with
 | none=>exact wpAny_pure h₁
 | some v=>
  refine wpAny_bind (wpAny_mono h₁ (fun _ s₁' h₁'=>?_) fun _ _ h'=>h'.elim)
  refine wpAny_bind (wpAny_mono h₁' (fun _ s₂ h₂=>wpAny_bind (wpAny_mono h₂ (fun ok s₃ h₃=>?_) fun _ _ h'=>h'.elim)) fun _ _ h'=>h'.elim)
  cases ok with
  | true=>
   simp only [if_true] at h₃ ⊢
   exact wpAny_bind (wpAny_bind (wpAny_mono h₃ (fun x s₄ h₄=>wpAny_bind (wpAny_mono h₄ (fun _ s₅ h₅=>wpAny_pure (wpAny_pure ⟨rfl,h₅⟩)) fun _ _ h'=>h'.elim)) fun _ _ h'=>h'.elim))
  | false=>
   simp only [Bool.false_eq_true,if_false] at h₃ ⊢
   exact wpAny_pure ⟨rfl,h₃⟩
end
section
variable {X : Cx}
def PTs (X : Cx) (ifs : List Expr) (t : TT) : Prop:=
 ∀ (pins : List (Addr×Obj)) (s : Shared) (σ : St) (H : Hp) (Q : Bool→Hp→Prop),Inv X pins σ H s→t σ H Q→
  wpAny (model X.prog X.w) X.A (forIn ifs true fun c r=>if r = true then do let ok ← isTrue c X.env (eval c X.env); pure (ForInStep.yield ok) else pure (ForInStep.yield r)) (TP X pins σ Q) X.xe s
def tYes : TT:=fun _ H Q=>Q true H
theorem zbY : PTs X [] tYes:=fun _ _ _ H _ I h=>wpAny_tests_nil ⟨H,I,h⟩
theorem zhP {c : Expr} {t : TT} (h : PT X c t) : PTs X [c] t:=fun pins s σ H Q I q=>wpAny_tests_one (h pins s σ H Q I q)
theorem zmN {pins : List (Addr×Obj)} {σ : St} {H : Hp} {s : Shared} {N : List Str} {own : Nat} {cap : List Nat} {scope : Scope} {cl : List (Str×Addr)} {C : Addr} {fp : List Addr} {h₁ : Heap} {tk : Nat} {D : Addr}
  (I : Inv X pins σ H s) (c : zjm X scope N own cap) (hcl : zf8 scope X.env cl) (f : ∀ b∈fp,FpOk X pins H b) (hD : s.heap.objs.size≤D) (hC : s.heap.objs.size≤C) (hCD : D≠C)
  (kp : ∀ b o,s.heap.get? b = some o→h₁.get? b = some o) (hnew : h₁.get? D = some { cls:=.type "list",data:=.seq #[] }) (hns : ∃ m,h₁.Ns C m) (hfp : ∀ b∈fp,b < s.heap.objs.size) (hcalm : X.calm = true) :
  Inv (zbF X N scope cl C s H fp) pins (zes own cap σ) (upd H D (.lst [])) { s with heap:=h₁,toks:=tk }:=by
 have hfr : H D = none:=I.hok.fresh hD
 have hfrC : H C = none:=I.hok.fresh hC
 have sz : ∀ b o,s.heap.get? b = some o→b≠D∧b≠C:=fun b o e=>⟨Nat.ne_of_lt (Nat.lt_of_lt_of_le (Heap.lt_size e) hD),Nat.ne_of_lt (Nat.lt_of_lt_of_le (Heap.lt_size e) hC)⟩
 have cells : ∀ x cc,cl.lookup x = some cc→∃ v,s.heap.IsCell cc v:=fun x cc e=>I.cell x cc (hcl.sub x cc e)
 have cellne : ∀ x cc,cl.lookup x = some cc→cc≠D∧cc≠C:=fun x cc e=>by
  obtain ⟨v,o,ho,_⟩:=cells x cc e
  exact sz cc o ho
 have ok : (zbF X N scope cl C s H fp).Ok:=by
  refine ⟨I.ok.mod,c.kind,I.ok.glob,I.ok.blt,hC,fun x y cc e1 e2=>I.ok.inj x y cc (hcl.sub x cc e1) (hcl.sub y cc e2),fun x hx=>?_,(fun x cc z _=>nomatch z),I.ok.hd,I.ok.frames,.inl rfl,fun b hb=>?_,fun b o e=>I.bs b o e,?_,fun b o e hb=>?_,fun b hb z=>?_,I.stack,fun b hb=>I.stkFree b hb⟩
  ·have hm : (x,NameKind.free)∈scope.names:=by
    rcases hx with z | z
    ·exact zdE (env:=X.env) (names:=scope.names) (x:=x) (k':=.cell) z (.inl rfl) fun y hy q=>by
      have:=List.all_eq_true.mp c.nocell y hy
      rw [q] at this
      exact absurd this (by decide)
    ·exact zdE (env:=X.env) (names:=scope.names) (x:=x) (k':=.free) z (.inr rfl) fun y hy q=>by
      have:=List.all_eq_true.mp c.nocell y hy
      rw [q] at this
      exact absurd this (by decide)
   exact hcl.has x hm
  ·exact ⟨Nat.ne_of_lt (Nat.lt_of_lt_of_le (hfp b hb) hC),fun x cc e z=>(f b hb).2.2.2.2.1 x cc (hcl.sub x cc e) z⟩
  ·exact Nat.le_trans I.ok.bsz I.sz
  ·obtain ⟨_,_,_,h4,_⟩:=f b hb
   rcases h4 with z | z
   ·exact I.ok.noex b o e z
   ·exact absurd (Nat.lt_of_lt_of_le (Heap.lt_size e) (Nat.le_trans I.ok.bsz z)) (Nat.lt_irrefl _)
  ·obtain ⟨_,h2,h3,_⟩:=f b hb
   rcases List.mem_cons.mp (I.stkSub b z) with q | q
   ·exact h2 q
   ·exact h3 q
 have hokN : zbv X.prog X.w (upd H D (.lst [])) h₁ D (.lst []):=⟨Nat.zero_le _,[],0,.nil,hnew⟩
 refine ⟨ok,I.os.symm ▸ rfl,I.bare,Un.laid kp hD hfr,?_,fun x cc e=>?_,?_,fun x cc e=>?_,fun p hp=>?_,I.hok.laid kp hD hokN,?_⟩
 ·obtain ⟨m,hm⟩:=hns
  refine ⟨m,hm,fun i x v e1 e2 e3=>?_⟩
  have hi : own≤i:=by
   false_or_by_contra
   rename_i z
   unfold zes at e2
   rw [List.getElem?_append_left (by rw [List.length_replicate]; omega),List.getElem?_replicate] at e2
   split at e2 <;> cases e2
  obtain ⟨j,rfl⟩ : ∃ j,i = own + j:=⟨i - own,by omega⟩
  have hj : j < cap.length:=by
   have:=(List.getElem?_eq_some_iff.mp e1).1
   have z:=c.len
   have this' : own + j < N.length:=this
   omega
  have hc:=List.all_eq_true.mp c.caps j (List.mem_range.mpr hj)
  have e1' : N[own + j]? = some x:=e1
  rw [e1'] at hc
  simp only [Bool.and_eq_true,beq_iff_eq,Bool.or_eq_true] at hc
  obtain ⟨hN,hf,hk⟩:=hc
  have e2' : σ[cap[j]!]? = some (some v):=by
   unfold zes at e2
   rw [List.getElem?_append_right (by rw [List.length_replicate]; omega),List.length_replicate,show own + j - own = j by omega,List.getElem?_map] at e2
   have g : cap[j]! = cap[j]:=by simp [hj]
   rw [List.getElem?_eq_getElem hj,Option.map_some] at e2
   rw [g]
   have e2:=Option.some.inj e2
   cases q : σ[cap[j]]? with
   | none=>rw [q] at e2; cases e2
   | some z=>rw [q] at e2; exact congrArg some e2
  obtain ⟨m0,_,hl⟩:=I.loc
  obtain ⟨u,ru,lk⟩:=hl (cap[j]!) x v hN.symm e2' (by
   rcases hk with z | z
   ·exact .inr (.inl z)
   ·exact .inr (.inr z))
  refine ⟨u,ru,.inr ⟨zb9 (env:=X.env) hf,?_⟩⟩
  rcases lk with ⟨z,_⟩ | ⟨_,cc,ec,ic⟩
  ·rcases hk with q | q
   ·rw [q] at z; cases z
   ·rw [q] at z; cases z
  ·obtain ⟨c',hc'⟩:=hcl.has x (by
    have : (x,NameKind.free)∈scope.names:=by
     have hlk:=hf
     obtain ⟨l1,l2,hs,hno⟩:=List.lookup_eq_some_iff.mp hlk
     rw [hs]
     exact List.mem_append_right _ List.mem_cons_self
    exact this)
   have:=hcl.sub x c' hc'
   rw [ec] at this
   cases this
   obtain ⟨o,ho,hd⟩:=ic
   exact ⟨cc,hc',o,kp cc o ho,hd⟩
 ·obtain ⟨v,o,ho,hd⟩:=cells x cc e
  exact ⟨v,o,kp cc o ho,hd⟩
 ·show upd H D (.lst []) C = none
  rw [zag (Ne.symm hCD)]
  exact hfrC
 ·show upd H D (.lst []) cc = none
  rw [zag (cellne x cc e).1]
  exact I.freeC x cc (hcl.sub x cc e)
 ·obtain ⟨e,n,ne,nf,d⟩:=I.pin p hp
  refine ⟨kp _ _ e,?_,(sz _ _ e).2,fun z=>?_,d⟩
  ·show upd H D (.lst []) p.1 = none
   rw [zag (sz _ _ e).1]
   exact n
  ·rcases List.mem_cons.mp (I.stkSub p.1 z) with q | q
   ·exact ne q
   ·exact nf q
 ·show (zes own cap σ).length = N.length
  unfold zes
  rw [List.length_append,List.length_replicate,List.length_map,c.len]
def tComp (own : Nat) (cap : List Nat) (wi : TI) (g : TG) (ts : TT) (te : TE) : TE:=fun σ H Q=>wi σ H fun J H1=>∀ D,H1 D = none→∃ W : Nat→Nat→St→Hp→Prop,(∃ m,W 0 m (zes own cap σ) (upd H1 D (.lst [])))∧∀ i m σ H,W i m σ H→
 (J.stop i H∧Q (.ref D) H)∨(J.go i H∧∀ x H',J.yld i H x H'→g x σ H' fun σ2 H2=>ts σ2 H2 fun b H3=>if b = true then te σ2 H3 fun y H4=>∃ xs,H4 D = some (.lst xs)∧xs.length < sizeLine∧∃ m',m' < m∧W (i + 1) m' σ2 (upd H4 D (.lst (xs ++ [y]))) else ∃ m',m' < m∧W (i + 1) m' σ2 H3)
theorem zhv {pins : List (Addr×Obj)} {σ : St} {H2 : Hp} {s2 : Shared} {N : List Str} {own : Nat} {cap : List Nat} {scope : Scope} {cl : List (Str×Addr)} {fp : List Addr} {tg elt iter : Expr} {ifs : List Expr} {pos : Pos} {J : It} {it : Addr} {tn : Nat→Heap→Prop} {g : TG} {ts : TT} {te : TE} {Q : VK}
  {E : Value→Shared→Prop} {RR : Value→Addr→Result→Shared→Prop}
  (hcalm : X.calm = true) (c : zjm X scope N own cap) (hcl : zf8 scope X.env cl)
  (hg : ∀ cl C s₂ H₂ fp,PG (zbF X N scope cl C s₂ H₂ fp) tg g) (hts : ∀ cl C s₂ H₂ fp,PTs (zbF X N scope cl C s₂ H₂ fp) ifs ts) (he : ∀ cl C s₂ H₂ fp,PE (zbF X N scope cl C s₂ H₂ fp) elt te)
  (I2 : Inv X pins σ H2 s2) (T : Turn X.prog X.w X.K tg J fp it tn) (st2 : tn 0 s2.heap) (f2 : ∀ b∈fp,FpOk X pins H2 b)
  (rd : ∀ D,H2 D = none→∃ W : Nat→Nat→St→Hp→Prop,(∃ m,W 0 m (zes own cap σ) (upd H2 D (.lst [])))∧∀ i m σ H,W i m σ H→
   (J.stop i H∧Q (.ref D) H)∨(J.go i H∧∀ x H',J.yld i H x H'→g x σ H' fun σ2 H2=>ts σ2 H2 fun b H3=>if b = true then te σ2 H3 fun y H4=>∃ xs,H4 D = some (.lst xs)∧xs.length < sizeLine∧∃ m',m' < m∧W (i + 1) m' σ2 (upd H4 D (.lst (xs ++ [y]))) else ∃ m',m' < m∧W (i + 1) m' σ2 H3))
  (hRR : ∀ D C s' H',Inv X pins σ H' s'→(∃ m,s'.heap.Ns C m)→FpOk X pins H' C→Q (.ref D) H'→RR (.ref D) C (.ok .next) s') :
  wpAny (model X.prog X.w) X.A (newList []) (fun acc s₃=>wpAny (model X.prog X.w) X.A (newFunctionEnv scope X.env.globals cl [] X.env.qual none .none (some X.env)) (fun cenv s₄=>
   codeAny (model X.prog X.w) X.A (.compStart (.ListComp elt [⟨tg,iter,ifs,0⟩] scope pos) 0 (.ref it) acc { cenv with scope:=relabel scope X.env }) (RR acc cenv.locals) s₄) E s₃) E s2:=by
 have hcell : ∀ y∈scope.names,y.2≠.cell:=fun y hy q=>by
  have:=List.all_eq_true.mp c.nocell y hy
  rw [q] at this
  exact absurd this (by decide)
 have hfp : ∀ b∈fp,b < s2.heap.objs.size:=fun b hb=>by
  obtain ⟨o,e,_⟩:=T.obj 0 _ st2 b hb
  exact Heap.lt_size e
 refine wpAny_newObj_type (wpAny_newFunctionEnv hcell (by intro y hy; simp at hy) (fun h₁ hns₁ hsb₁=>?_) c.kind)
 dsimp only at hns₁ hsb₁ ⊢
 generalize hHH : s2.heap.push { cls:=.type "list",dict:=none,data:=.seq ([] : List Value).toArray } = HH at hns₁ hsb₁ ⊢
 have hC : HH.objs.size = s2.heap.objs.size + 1:=by rw [← hHH,Heap.size_push]
 have hDC : s2.heap.objs.size≠HH.objs.size:=by rw [hC]; exact Nat.ne_of_lt (Nat.lt_succ_self _)
 have hCle : s2.heap.objs.size≤HH.objs.size:=by rw [hC]; exact Nat.le_succ _
 have old : ∀ b o,s2.heap.get? b = some o→h₁.get? b = some o:=fun b o e=>hsb₁.extBut b o (Nat.ne_of_lt (by rw [hC]; exact Nat.lt_succ_of_lt (Heap.lt_size e))) (Heap.get?_push_of_some _ (hHH ▸ Heap.get?_push_of_some _ e))
 have hnew : h₁.get? s2.heap.objs.size = some { cls:=.type "list",data:=.seq #[] }:=hsb₁.extBut _ _ hDC (Heap.get?_push_of_some _ (hHH ▸ Heap.get?_push_size _ rfl))
 have I3 : ∀ tk,Inv (zbF X N scope cl HH.objs.size s2 H2 fp) pins (zes own cap σ) (upd H2 s2.heap.objs.size (.lst [])) { s2 with heap:=h₁,toks:=tk }:=fun tk=>
  zmN I2 c hcl f2 (Nat.le_refl _) hCle hDC old hnew ⟨_,hns₁⟩ hfp hcalm
 obtain ⟨W,⟨m0,w0⟩,turn⟩:=rd s2.heap.objs.size (I2.hok.fresh (Nat.le_refl _))
 have st3 : tn 0 h₁:=T.keep _ _ _ st2 fun b _ o e=>old b o e
 have fr3 : ∀ b∈fp,upd H2 s2.heap.objs.size (.lst []) b = none:=fun b hb=>by rw [zag (Nat.ne_of_lt (hfp b hb))]; exact (f2 b hb).1
 have stat : ∀ {H' : Hp},(∀ b∈fp,H' b = none)→∀ b∈fp,FpOk (zbF X N scope cl HH.objs.size s2 H2 fp) pins H' b:=fun hn b hb=>by
  obtain ⟨_,h2,h3,_,h5,h6⟩:=f2 b hb
  refine ⟨hn b hb,Nat.ne_of_lt (Nat.lt_of_lt_of_le (hfp b hb) hCle),fun z=>?_,.inl hb,fun x cc e=>h5 x cc (hcl.sub x cc e),h6⟩
  rcases List.mem_cons.mp (I2.stkSub b z) with q | q
  ·exact h2 q
  ·exact h3 q
 have loop : ∀ s₃ : Shared,s₃ = { s2 with heap:=h₁,toks:=s2.toks + ([] : List (Str×Value)).length }→
   codeAny (model X.prog X.w) X.A (.compLoop (.ListComp elt [⟨tg,iter,ifs,0⟩] scope pos) 0 (.ref it) (.ref s2.heap.objs.size) (compEnvC scope cl HH.objs.size X.env)) (RR (.ref s2.heap.objs.size) HH.objs.size) s₃:=by
  rintro s₃ rfl
  refine zih (fun n s'=>∃ i σ' H',Inv (zbF X N scope cl HH.objs.size s2 H2 fp) pins σ' H' s'∧tn i s'.heap∧(∀ b∈fp,H' b = none)∧W i n σ' H') ?_ m0 ⟨0,_,_,I3 _,st3,fr3,w0⟩
  rintro n s3 ⟨i,σ3,H3,J3,t3,fr,w3⟩
  rcases turn i n σ3 H3 w3 with ⟨stop,qn⟩ | ⟨go,step⟩
  ·refine thn (T.done (zbF X N scope cl HH.objs.size s2 H2 fp) rfl rfl rfl hcalm i pins s3 σ3 H3 (fun _ _=>False) J3 (stat fr) t3 stop) fun r s4 ⟨hr,I4⟩=>?_
   subst hr
   obtain ⟨mm,hmm,_⟩:=I4.loc
   refine hRR _ _ s4 H3 (I2.call' I4.os I4.base I4.hok I4.bare fun b hb=>?_) ⟨mm,hmm⟩ (I2.fpOk hCle I4.free) qn
   obtain ⟨_,h2,_,h4,h5,h6⟩:=f2 b hb
   exact ⟨h4,h2,h5,h6⟩
  ·refine thn (T.item (zbF X N scope cl HH.objs.size s2 H2 fp) rfl rfl rfl hcalm i pins s3 σ3 H3 (fun _ _=>False) J3 (stat fr) t3 go) fun r s4 ⟨u,hr,h4⟩=>?_
   subst hr
   refine thn h4 fun _ s5 ⟨x,H5,I5,r5,y5,st5,fr5⟩=>?_
   have I5':=I5.pinned (stat fr5) (T.obj _ _ st5)
   have back : ∀ {σ7 : St} {H7 : Hp} {s7 : Shared} {m' : Nat},Inv (zbF X N scope cl HH.objs.size s2 H2 fp) (pins ++ zfj fp s5.heap) σ7 H7 s7→W (i + 1) m' σ7 H7→∃ i σ' H',Inv (zbF X N scope cl HH.objs.size s2 H2 fp) pins σ' H' s7∧tn i s7.heap∧(∀ b∈fp,H' b = none)∧W i m' σ' H':=fun {σ7 H7 s7 m'} I7 w7=>by
    refine ⟨i + 1,σ7,H7,I7.unpinned,T.keep _ _ _ st5 fun b hb o e=>(I7.pin (b,o) (List.mem_append_right _ (List.mem_append_right _ (zcy hb e)))).1,fun b hb=>?_,w7⟩
    obtain ⟨o,e,d⟩:=T.obj _ _ st5 b hb
    exact (I7.pin (b,o) (List.mem_append_right _ (List.mem_append_right _ (zcy hb e)))).2.1
   refine thn (hg cl HH.objs.size s2 H2 fp _ s5 σ3 H5 x u _ I5' r5 (step x H5 y5)) fun _ s6 ⟨σ6,H6,I6,q6⟩=>?_
   refine thn (hts cl HH.objs.size s2 H2 fp _ s6 σ6 H6 _ I6 q6) fun b s7 ⟨H7,I7,q7⟩=>?_
   cases b with
   | false=>
    rw [if_neg Bool.false_ne_true] at q7 ⊢
    obtain ⟨m',hm,w7⟩:=q7
    exact ⟨m',hm,back I7 w7⟩
   | true=>
    rw [if_pos rfl] at q7 ⊢
    refine thn (he cl HH.objs.size s2 H2 fp _ s7 σ6 H7 _ I7 q7) fun v s8 ⟨y,H8,I8,r8,q8⟩=>?_
    obtain ⟨xs,hx,hz,m',hm,w8⟩:=q8
    refine thn (za2 (X:=zbF X N scope cl HH.objs.size s2 H2 fp) _ s8 σ6 H8 (.ref s2.heap.objs.size) [y] (.ref s2.heap.objs.size) [v] (fun _ H9=>H9 = upd H8 s2.heap.objs.size (.lst (xs ++ [y]))) I8 rfl (.cons r8 .nil) ⟨_,xs,y,rfl,rfl,hx,hz,rfl⟩) fun _ s9 ⟨_,H9,I9,_,e9⟩=>?_
    subst e9
    exact ⟨m',hm,back I9 w8⟩
 refine codeAny_compStart_list (loop _ rfl) ?_
 exact T.self _ 0 _ _ _ st3 (loop _ rfl)
theorem zcl {N : List Str} {own : Nat} {cap : List Nat} {scope : Scope} {tg elt iter : Expr} {ifs : List Expr} {pos : Pos} {wi : TI} {g : TG} {ts : TT} {te : TE} (hcalm : X.calm = true) (hi : PI X tg iter wi) (c : zjm X scope N own cap)
  (hg : ∀ cl C s₂ H₂ fp,PG (zbF X N scope cl C s₂ H₂ fp) tg g) (hts : ∀ cl C s₂ H₂ fp,PTs (zbF X N scope cl C s₂ H₂ fp) ifs ts) (he : ∀ cl C s₂ H₂ fp,PE (zbF X N scope cl C s₂ H₂ fp) elt te)
  (hs : ∀ x,foldedSetIterable iter X.env x = pure x:=by intro _; rfl) : PE X (.ListComp elt [⟨tg,iter,ifs,0⟩] scope pos) (tComp own cap wi g ts te):=by
 intro pins s σ H Q I h
 obtain ⟨cl,hcl⟩:=zfx (scope:=scope) (env:=X.env) fun x hx=>I.ok.has x (by
  have:=List.all_eq_true.mp c.frees _ hx
  simpa using this)
 rw [eval_ListComp]
 refine wpAny_comprehension_free (use:=none) rfl hs hcl.eq c.kind (fun x hx hl=>by
  have:=List.all_eq_true.mp c.locs x hx
  rw [hl] at this
  simpa using this) (thn (hi pins s σ H _ I h) fun v s1 h1=>thn h1 fun itv s2 h2=>?_)
 obtain ⟨it,fp,tn,J,H2,e,I2,T,st2,f2,rd⟩:=h2
 subst e
 refine zhv (RR:=fun acc C=>compPost (model X.prog X.w) X.A X.xe none (EP X pins σ Q) acc C) hcalm c hcl hg hts he I2 T st2 f2 rd ?_
 intro D C s' H' I' hm fC q
 obtain ⟨m,hm⟩:=hm
 obtain ⟨f0,f1,f2,f3,f4,f5⟩:=fC
 exact ⟨m,hm,fun h' hsb=>⟨.ref D,H',I'.turned (t':=s'.toks) (fun b o hb e=>(hsb.2 b hb).trans e) f0 f1 f3 f4 f5,rfl,q⟩⟩
theorem zgo {i : Nat} {x : Str} {N : List Str} {own : Nat} {cap : List Nat} {scope : Scope} {tg elt iter : Expr} {ifs : List Expr} {pos pos' spos : Pos} {wi : TI} {g : TG} {ts : TT} {te : TE} (hN : X.N.Nodup) (hxi : X.N[i]? = some x) (hx : X.env.scope.names.lookup x = some .local) (hcalm : X.calm = true) (hi : PI X tg iter wi) (c : zjm X scope N own cap)
  (hg : ∀ cl C s₂ H₂ fp,PG (zbF X N scope cl C s₂ H₂ fp) tg g) (hts : ∀ cl C s₂ H₂ fp,PTs (zbF X N scope cl C s₂ H₂ fp) ifs ts) (he : ∀ cl C s₂ H₂ fp,PE (zbF X N scope cl C s₂ H₂ fp) elt te)
  (hsw : swapsWith (.ListComp elt [⟨tg,iter,ifs,0⟩] scope pos) (some (.Name x pos')) spos.line X.env = pure true:=by rfl)
  (hs : ∀ x,foldedSetIterable iter X.env x = pure x:=by intro _; rfl) : PS X (.Assign [.Name x pos'] (.ListComp elt [⟨tg,iter,ifs,0⟩] scope pos) spos) (tAsg (tComp own cap wi g ts te) (zlx i)):=by
 intro pins s σ H D I h
 obtain ⟨cl,hcl⟩:=zfx (scope:=scope) (env:=X.env) fun x hx=>I.ok.has x (by
  have:=List.all_eq_true.mp c.frees _ hx
  simpa using this)
 rw [exec_Assign_Name_used _ _ _ _ hsw]
 refine wpAny_bind (wpAny_standAt (wpAny_bind ?_))
 show wpAny _ X.A (do let _ ← comprehension (.ListComp elt [⟨tg,iter,ifs,0⟩] scope pos) scope X.env _ (newList []) false (eval iter X.env) (some (assign (.Name x pos') X.env))) _ _ s
 refine wpAny_bind (wpAny_mono (wpAny_comprehension_free (use:=some (assign (.Name x pos') X.env)) (Q:=fun _ s'=>SP X pins D .next s') rfl hs hcl.eq c.kind (fun x hx hl=>by
  have:=List.all_eq_true.mp c.locs x hx
  rw [hl] at this
  simpa using this) (thn (hi pins s σ H _ I h) fun v s1 h1=>thn h1 fun itv s2 h2=>?_)) (fun _ s' hq=>wpAny_pure (wpAny_pure hq)) fun _ _ e=>e)
 obtain ⟨it,fp,tn,J,H2,e,I2,T,st2,f2,rd⟩:=h2
 subst e
 refine zhv (RR:=fun acc C=>compPost (model X.prog X.w) X.A X.xe (some (assign (.Name x pos') X.env)) (fun _ s'=>SP X pins D .next s') acc C) (Q:=fun x H1=>zlx i x σ H1 D.nx) hcalm c hcl hg hts he I2 T st2 f2 rd ?_
 intro Dd C s' H' I' hm fC q
 obtain ⟨m,hm⟩:=hm
 have hne : ∀ a,(a = X.env.locals∨X.env.cells.lookup x = some a)→a≠C:=fun a z=>by
  obtain ⟨f0,f1,f2,f3,f4,f5⟩:=fC
  rcases z with z | z
  ·rw [z]; exact Ne.symm f1
  ·exact f4 x a z
 show wpAny _ X.A (assign (.Name x pos') X.env (.ref Dd)) _ _ _
 refine wpAny_assign_Name (zgY I' hN hxi (.inl hx) (v:=.ref Dd) rfl (fun s'' I'' hch=>?_) (.inr hx))
 obtain ⟨a,hsb,ha⟩:=hch
 refine ⟨m,hm.sameBut hsb (Ne.symm (hne a ha)),fun h' hs'=>?_⟩
 obtain ⟨f0,f1,f2,f3,f4,f5⟩:=fC
 exact ⟨_,H',I''.turned (t':=s''.toks) (fun b o hb e=>(hs'.2 b hb).trans e) f0 f1 f3 f4 f5,q⟩
end
end L2
namespace L2
open PySem PySem.Spec PyProof.Rows PySem.SeqAt
theorem Paired.right {α β : Type} {F : α→β→Prop} : ∀ {l : List α} {m : List β} {b : β},Paired F l m→b∈m→∃ a,a∈l∧F a b
 | _,_,_,.nil,h=>nomatch h
 | _,_,_,.cons r t,h=>by
  rcases List.mem_cons.mp h with z | z
  ·subst z
   exact ⟨_,List.mem_cons_self,r⟩
  ·obtain ⟨a,h1,h2⟩:=Paired.right t z
   exact ⟨a,List.mem_cons_of_mem _ h1,h2⟩
class Srt (α : Type) [Rep α] where
 blt : α→α→Bool
 irrefl : ∀ a,blt a a = false
 trans : ∀ a b c,blt a b = true→blt b c = true→blt a c = true
 negTrans : ∀ a b c,blt a c = true→blt a b = true∨blt b c = true
 total : ∀ a b,blt a b = false→blt b a = false→a = b
 kd : SortKind
 one : α
 lt : ∀ {X : Cx} {pins : List (Addr×Obj)} {σ : St} {H : Hp} {s : Shared} {A : Around} {a b : α} {x y : V} {u v : Value} {Q : Bool→Shared→Prop} {E : Value→Shared→Prop},Inv X pins σ H s→Rep.has X.K H a x→Rep.has X.K H b y→RelV x u→RelV y v→Q (blt a b) s→wpAny (model X.prog X.w) A (keyLt' kd u v) Q E s
 kind : ∀ {X : Cx} {pins : List (Addr×Obj)} {σ : St} {H : Hp} {s : Shared} {A : Around} {as : List α} {xs : List V} {us : List Value} {Q : SortKind→Shared→Prop} {E : Value→Shared→Prop},Inv X pins σ H s→zal X.K H as xs→Vals xs us→2≤us.length→Q kd s→wpAny (model X.prog X.w) A (keyKind' us.toArray) Q E s
section
variable {α : Type} [Rep α] [Srt α]
noncomputable def srtKind (α : Type) [Rep α] [Srt α] (K : PySem.W.Frag) (H : Hp) : PyProof.Rows.KeyKind where
 α:=α
 blt:=Srt.blt
 irrefl:=Srt.irrefl
 trans:=Srt.trans
 negTrans:=Srt.negTrans
 total:=Srt.total
 keyOf:=fun u=>open Classical in if h : ∃ a : α,∃ x,RelV x u∧Rep.has K H a x then some (Classical.choose h) else none
 dflt:=Srt.one
theorem zmJ {X : Cx} {pins : List (Addr×Obj)} {σ : St} {H : Hp} {s : Shared} {a : α} {x : V} {u : Value} (I : Inv X pins σ H s) (r : RelV x u) (h : Rep.has X.K H a x) : (srtKind α X.K H).keyOf u = some a:=by
 have e : ∃ a : α,∃ x,RelV x u∧Rep.has X.K H a x:=⟨a,x,r,h⟩
 unfold srtKind
 dsimp only
 rw [dif_pos e]
 obtain ⟨y,ry,hy⟩:=Classical.choose_spec e
 have z:=ry.inj r
 subst z
 exact congrArg some (Rep.inj I hy h)
theorem zdq {K : PySem.W.Frag} {H : Hp} {a : α} {u : Value} (h : (srtKind α K H).keyOf u = some a) : ∃ x,RelV x u∧Rep.has K H a x:=by
 unfold srtKind at h
 dsimp only at h
 split at h
 ·rename_i e
  cases h
  exact Classical.choose_spec e
 ·cases h
def zbX (as : List α) : List α:=as.mergeSort fun a b=>!Srt.blt b a
theorem zbU (as : List α) : (zbX as).Perm as:=List.mergeSort_perm _ _
theorem zfb {as : List α} {a : α} : a∈zbX as↔a∈as:=(zbU as).mem_iff
theorem zcT (as : List α) : (zbX as).length = as.length:=(zbU as).length_eq
theorem zlR {a b : α} (h : Srt.blt a b = true) : Srt.blt b a = false:=by
 cases e : Srt.blt b a with
 | false=>rfl
 | true=>
  have:=Srt.trans _ _ _ h e
  rw [Srt.irrefl] at this
  cases this
theorem ziK (as : List α) : (zbX as).Pairwise fun a b=>Srt.blt b a = false:=by
 have h:=List.pairwise_mergeSort (le:=fun a b : α=>!Srt.blt b a) (fun a b c h1 h2=>by
  simp only [Bool.not_eq_true'] at h1 h2 ⊢
  cases e : Srt.blt c a with
  | false=>rfl
  | true=>
   rcases Srt.negTrans c b a e with z | z
   ·rw [h2] at z; cases z
   ·rw [h1] at z; cases z) (fun a b=>by
  cases e : Srt.blt b a with
  | false=>rfl
  | true=>rw [zlR e]; rfl) as
 exact h.imp fun {a b} z=>by simpa using z
theorem zgd {as bs : List α} (hp : bs.Perm as) (hs : bs.Pairwise fun a b=>Srt.blt b a = false) : bs = zbX as:=
 List.Perm.eq_of_pairwise (fun a b _ _ h1 h2=>Srt.total a b h2 h1) hs (ziK as) (hp.trans (zbU as).symm)
theorem zkv {as : List α} (hs : as.Pairwise fun a b=>Srt.blt b a = false) : zbX as = as:=(zgd (List.Perm.refl _) hs).symm
theorem zfR {as : List α} (hn : as.Nodup) : (zbX as).Pairwise fun a b=>Srt.blt a b = true:=by
 have h1:=ziK as
 have h2 : (zbX as).Nodup:=(zbU as).nodup_iff.mpr hn
 refine (h1.and h2).imp fun {a b} z=>?_
 cases e : Srt.blt a b with
 | true=>rfl
 | false=>exact absurd (Srt.total a b e z.1) z.2
theorem zfm {K : PySem.W.Frag} {H : Hp} : ∀ {out : List Value},(∀ v∈out,∃ a : α,∃ x,RelV x v∧Rep.has K H a x∧(srtKind α K H).keyOf v = some a)→
  ∃ (ws : List V) (bs : List α),Vals ws out∧zal K H bs ws∧bs = out.map (Tim.keyV (srtKind α K H))
 | [],_=>⟨[],[],.nil,.nil,rfl⟩
 | v :: out,h=>by
  obtain ⟨ws,bs,h1,h2,h3⟩:=zfm (out:=out) fun u hu=>h u (List.mem_cons_of_mem _ hu)
  obtain ⟨a,x,r,e,k⟩:=h v List.mem_cons_self
  refine ⟨x :: ws,a :: bs,.cons r h1,.cons e h2,?_⟩
  rw [List.map_cons,← h3]
  have z : Tim.keyV (srtKind α K H) v = a:=by
   unfold Tim.keyV
   rw [k]
   rfl
  rw [z]
  rfl
theorem zh6 {X : Cx} {pins : List (Addr×Obj)} {σ : St} {H : Hp} {s : Shared} (I : Inv X pins σ H s) : ∀ {as : List α} {xs : List V} {us : List Value},zal X.K H as xs→Vals xs us→us.map (Tim.keyV (srtKind α X.K H)) = as∧∀ v∈us,∃ a : α,∃ x,RelV x v∧Rep.has X.K H a x∧(srtKind α X.K H).keyOf v = some a
 | _,_,_,.nil,.nil=>⟨rfl,fun _ z=>nomatch z⟩
 | _,_,_,.cons e t,.cons r q=>by
  obtain ⟨h1,h2⟩:=zh6 I t q
  have k:=zmJ I r e
  refine ⟨?_,fun v hv=>?_⟩
  ·rw [List.map_cons,h1]
   unfold Tim.keyV
   rw [k]
   rfl
  ·rcases List.mem_cons.mp hv with z | z
   ·subst z
    exact ⟨_,_,r,e,k⟩
   ·exact h2 v z
end
def rSortD (α : Type) [Rep α] [Srt α] (K : PySem.W.Frag) : List V→Hp→VK→Prop:=fun xs H Q=>∃ (p : Addr) (vs : List V) (as : List α),xs = [.ref p]∧SqL K H p vs∧zal K H as vs∧
 ∀ l ws,H l = none→zal K H (zbX as) ws→Q (.ref l) (upd H l (.lst ws))
section
variable {X : Cx}
end
instance : Srt Int where
 blt:=fun a b=>decide (a < b)
 irrefl:=fun a=>by simp
 trans:=fun a b c h1 h2=>by
  simp only [decide_eq_true_eq] at *
  omega
 negTrans:=fun a b c h=>by
  simp only [decide_eq_true_eq] at *
  omega
 total:=fun a b h1 h2=>by
  simp only [decide_eq_false_iff_not] at *
  omega
 kd:=oneType'
 one:=0
 lt:=fun {X pins σ H s A a b x y u v Q E} _ h1 h2 r1 r2 q=>by
  have h1 : x = .int a:=h1
  have h2 : y = .int b:=h2
  subst h1 h2
  obtain ⟨t,rfl⟩:=r1
  obtain ⟨t',rfl⟩:=r2
  exact PySem.W.kat_lt_int q
 kind:=fun {X pins σ H s A as xs us Q E} _ h r hl q=>by
  have e:=zal.toInts h
  subst e
  have hi : IntsAre us as:=by
   clear q hl
   induction as generalizing us with
   | nil=>cases r; exact .nil
   | cons a as ih=>
    cases r with
    | cons r1 r2=>
     obtain ⟨t,rfl⟩:=r1
     exact .cons a t (ih (by first | exact zal.ints | assumption) r2)
  match us,hl,hi with
  | v₁ :: v₂ :: rest,_,hi=>
   rw [keyKind_ints hi]
   exact wpAny_pure q
def pLt (a b : Int×Int) : Bool:=decide (a.1 < b.1) || (decide (a.1 = b.1) && decide (a.2 < b.2))
theorem zcm {a b : Int×Int} : pLt a b = true↔a.1 < b.1∨(a.1 = b.1∧a.2 < b.2):=by
 unfold pLt
 simp
theorem zhV {a b : Int×Int} : pLt a b = false↔¬ (a.1 < b.1∨(a.1 = b.1∧a.2 < b.2)):=by
 rw [← zcm]
 simp
theorem zgs {X : Cx} {pins : List (Addr×Obj)} {σ : St} {H : Hp} {s : Shared} {a : Int×Int} {x : V} {u : Value} (I : Inv X pins σ H s) (h : Rep.has X.K H a x) (r : RelV x u) :
  ∃ (p : Addr) (o : Obj) (n : Nat) (t t' : Tok),u = .ref p∧s.heap.get? p = some o∧o.cls = .type "tuple"∧o.data = .seq #[.int a.1 t,.int a.2 t'] n:=by
 obtain ⟨p,x1,x2,rfl,q,e1,e2⟩:=(show hasP X.K H a x from h)
 have e1 : x1 = .int a.1:=e1
 have e2 : x2 = .int a.2:=e2
 subst e1 e2
 cases r
 obtain ⟨us,ru,pu,_⟩:=I.tuple (SqT.of q)
 obtain ⟨u1,u2,rfl,⟨t,rfl⟩,⟨t',rfl⟩⟩:=zga ru
 obtain ⟨o,ho,hc,n,hd⟩:=pu
 exact ⟨p,o,n,t,t',rfl,ho,hc,hd⟩
theorem znt {prog : Program} {w : World} {A : Around} {E : Value→Shared→Prop} {s : Shared} {x y : Int} {t u : Tok} {Q : Bool→Shared→Prop} (b : Bool) (h : Q (decide (x < y)) s) : wpAny (model prog w) A (oneLt' b (.int x t) (.int y u)) Q E s:=by
 cases b with
 | true=>
  rw [← keyLt'_oneType]
  exact PySem.W.kat_lt_int h
 | false=>exact PySem.W.kat_one _ _ (lt_int h)
instance : Srt (Int×Int) where
 blt:=pLt
 irrefl:=fun a=>by rw [zhV]; omega
 trans:=fun a b c h1 h2=>by
  rw [zcm] at *
  omega
 negTrans:=fun a b c h=>by
  rw [zcm] at *
  rw [zcm]
  omega
 total:=fun a b h1 h2=>by
  rw [zhV] at *
  obtain ⟨a1,a2⟩:=a
  obtain ⟨b1,b2⟩:=b
  have : a1 = b1∧a2 = b2:=by dsimp only at *; omega
  rw [this.1,this.2]
 kd:=tuples' true
 one:=(0,0)
 lt:=fun {X pins σ H s A a b x y u v Q E} I h1 h2 r1 r2 q=>by
  obtain ⟨p,o,n,t1,t2,rfl,ho,hc,hd⟩:=zgs I h1 r1
  obtain ⟨p',o',n',t3,t4,rfl,ho',hc',hd'⟩:=zgs I h2 r2
  refine PySem.W.kat_lt ho hd ho' hd' ?_
  show PySem.W.KatLex X.prog X.w A true _ Q [(.int a.1 t1,.int b.1 t3),(.int a.2 t2,.int b.2 t4)] 0 s
  refine PySem.W.kat_cons (EqAt.int_int a.1 t1 b.1 t3 _ _ _ _ (PySem.W.kat_go (fun e=>PySem.W.kat_yes ?_) (fun e=>PySem.W.kat_no ?_)))
  ·have e1 : a.1 = b.1:=eq_of_beq e
   refine PySem.W.kat_cons (EqAt.int_int a.2 t2 b.2 t4 _ _ _ _ (PySem.W.kat_go (fun e=>PySem.W.kat_yes (PySem.W.kat_nil ?_)) (fun e=>PySem.W.kat_no (znt _ ?_))))
   ·have e2 : a.2 = b.2:=eq_of_beq e
    have z : pLt a b = false:=by rw [zhV]; omega
    rw [z] at q
    exact q
   ·have z : pLt a b = decide (a.2 < b.2):=by
     unfold pLt
     rw [decide_eq_false (by omega : ¬ a.1 < b.1),decide_eq_true e1]
     rfl
    rw [z] at q
    exact q
  ·have e1 : ¬ a.1 = b.1:=fun z=>by rw [z] at e; simp at e
   refine znt _ ?_
   have z : pLt a b = decide (a.1 < b.1):=by
    unfold pLt
    rw [decide_eq_false e1]
    simp
   rw [z] at q
   exact q
 kind:=fun {X pins σ H s A as xs us Q E} I h r hl q=>by
  have go : ∀ {as : List (Int×Int)} {xs : List V} {us : List Value},zal X.K H as xs→Vals xs us→∃ fs,PySem.W.KatTups s.heap us fs∧fs.length = us.length∧∀ v∈fs,∃ i t,v = Value.int i t:=by
   intro as
   induction as with
   | nil=>
    intro xs us h r
    cases h
    cases r
    exact ⟨[],.nil,rfl,fun _ z=>nomatch z⟩
   | cons a as ih=>
    intro xs us h r
    cases h with
    | cons h1 h2=>
     cases r with
     | cons r1 r2=>
      obtain ⟨fs,f1,f2,f3⟩:=ih h2 r2
      obtain ⟨p,o,n,t,t',rfl,ho,hc,hd⟩:=zgs I h1 r1
      refine ⟨.int a.1 t :: fs,PySem.W.KatTups.cons ho hc hd rfl f1,by rw [List.length_cons,List.length_cons,f2],fun v hv=>?_⟩
      rcases List.mem_cons.mp hv with z | z
      ·exact ⟨_,_,z⟩
      ·exact f3 v z
  obtain ⟨fs,f1,f2,f3⟩:=go h r
  refine PySem.W.kat_kind (T:=.type "int") f1 (by omega) (fun v hv=>?_) (by decide) ?_
  ·obtain ⟨i,t,rfl⟩:=f3 v hv
   exact PySem.W.Looks.of_pure rfl
  ·exact q
def rListD (K : PySem.W.Frag) : List V→Hp→VK→Prop:=fun xs H Q=>∃ (p : Addr) (kvs : List (List Key×V)),xs = [.ref p]∧Rd H p (.dT kvs)∧
 ∀ l bs,H l = none→Paired (fun (kv : List Key×V) (b : Addr)=>H b = some (.tup (kv.1.map kV))) kvs bs→Q (.ref l) (upd H l (.lst (bs.map V.ref)))
section
variable {X : Cx}
end
end L2
namespace L2
open PySem PySem.Spec PyProof.Rows
section
variable {X : Cx}
theorem zgp {x : Str} {i : Int} {pos : Pos} (hg : Gl X x) (hm : ∃ t,X.mg x = some (.int i t)) (hd : (x == ("__debug__" : Str)) = false:=by decide) : PE X (.Name x pos) (tC (.int i)):=by
 obtain ⟨t,e⟩:=hm
 exact zn2 hg e ⟨t,rfl⟩ hd
end
theorem zbG {K : PySem.W.Frag} {a D : Addr} {xs : List V} {g : TG} {ts : TT} {te : TE} {σ : St} {H : Hp} {Q : Hp→Prop} (Pv : Nat→St→Hp→Prop) (h0 : Pv 0 σ H) (hl : ∀ i σ H,i≤xs.length→Pv i σ H→SqL K H a xs)
  (hs : ∀ i m x σ H,xs[i]? = some x→i + m = xs.length→Pv i σ H→g x σ H fun σ2 H2=>ts σ2 H2 fun b H3=>if b = true then te σ2 H3 fun y H4=>∃ zs,H4 D = some (.lst zs)∧zs.length < sizeLine∧∃ m',m' < m∧(i + 1 + m' = xs.length∧Pv (i + 1) σ2 (upd H4 D (.lst (zs ++ [y])))) else ∃ m',m' < m∧(i + 1 + m' = xs.length∧Pv (i + 1) σ2 H3))
  (hd : ∀ σ H,Pv xs.length σ H→Q H) :
  ∃ W : Nat→Nat→St→Hp→Prop,(∃ m,W 0 m σ H)∧∀ i m σ H,W i m σ H→((Itl K a).stop i H∧Q H)∨((Itl K a).go i H∧∀ x H',(Itl K a).yld i H x H'→g x σ H' fun σ2 H2=>ts σ2 H2 fun b H3=>if b = true then te σ2 H3 fun y H4=>∃ xs,H4 D = some (.lst xs)∧xs.length < sizeLine∧∃ m',m' < m∧W (i + 1) m' σ2 (upd H4 D (.lst (xs ++ [y]))) else ∃ m',m' < m∧W (i + 1) m' σ2 H3):=by
 refine ⟨fun i m σ H=>i + m = xs.length∧Pv i σ H,⟨xs.length,by omega,h0⟩,fun i m σ H ⟨e,pv⟩=>?_⟩
 have hS:=hl i σ H (by omega) pv
 by_cases hi : i < xs.length
 ·refine .inr ⟨⟨xs,xs[i],hS,List.getElem?_eq_getElem hi⟩,fun x H' y=>?_⟩
  obtain ⟨e1,y⟩:=y
  subst e1
  exact hs i m x σ _ (y xs hS) e pv
 ·have : i = xs.length:=by omega
  subst this
  exact .inl ⟨⟨xs,hS,Nat.le_refl _⟩,hd σ H pv⟩
theorem zf3 {lo : Int} {n : Nat} {D : Addr} {g : TG} {ts : TT} {te : TE} {σ : St} {H : Hp} {Q : Hp→Prop} (Pv : Nat→St→Hp→Prop) (h0 : Pv 0 σ H)
  (hs : ∀ i m σ H,i + m = n→i < n→Pv i σ H→g (.int (lo + i)) σ H fun σ2 H2=>ts σ2 H2 fun b H3=>if b = true then te σ2 H3 fun y H4=>∃ zs,H4 D = some (.lst zs)∧zs.length < sizeLine∧∃ m',m' < m∧(i + 1 + m' = n∧Pv (i + 1) σ2 (upd H4 D (.lst (zs ++ [y])))) else ∃ m',m' < m∧(i + 1 + m' = n∧Pv (i + 1) σ2 H3))
  (hd : ∀ σ H,Pv n σ H→Q H) :
  ∃ W : Nat→Nat→St→Hp→Prop,(∃ m,W 0 m σ H)∧∀ i m σ H,W i m σ H→((Itr lo n).stop i H∧Q H)∨((Itr lo n).go i H∧∀ x H',(Itr lo n).yld i H x H'→g x σ H' fun σ2 H2=>ts σ2 H2 fun b H3=>if b = true then te σ2 H3 fun y H4=>∃ xs,H4 D = some (.lst xs)∧xs.length < sizeLine∧∃ m',m' < m∧W (i + 1) m' σ2 (upd H4 D (.lst (xs ++ [y]))) else ∃ m',m' < m∧W (i + 1) m' σ2 H3):=by
 refine ⟨fun i m σ H=>i + m = n∧Pv i σ H,⟨n,by omega,h0⟩,fun i m σ H ⟨e,pv⟩=>?_⟩
 by_cases hi : i < n
 ·refine .inr ⟨hi,fun x H' y=>?_⟩
  obtain ⟨e1,y⟩:=y
  subst e1 y
  exact hs i m σ _ e hi pv
 ·have : i = n:=by omega
  subst this
  exact .inl ⟨Nat.le_refl _,hd σ H pv⟩
end L2
namespace L2
open PySem PySem.Spec PyProof.Rows
def metI (ns : List Int) : List Int:=firstMet (fun i=>ns.getD i 0) ns.length
theorem zer : ∀ {ns : List Int} {us : List Value},Vals (ns.map V.int) us→IntsAre us ns
 | [],_,.nil=>.nil
 | n :: _,_,.cons ⟨t,e⟩ q=>by
  subst e
  exact .cons n t (zer q)
def rSetI (K : PySem.W.Frag) : List V→Hp→VK→Prop:=fun xs H Q=>∃ (p : Addr) (ns : List Int),xs = [.ref p]∧SqL K H p (ns.map V.int)∧ns.length≤1000∧
 ∀ l,H l = none→Q (.ref l) (upd H l (.set (fun k=>(metI ns).any (· == k)) (metI ns).length))
section
variable {X : Cx}
end
end L2
namespace L2
open PySem PySem.Spec PyProof.Rows
section
variable {X : Cx}
end
end L2
namespace L2
theorem zdA {i : Nat} {x : V} {σ : St} {H : Hp} {A B : St→Hp→Prop} (h : A (σ.set i (some x)) H) : zlx i x σ H fun σ2 H2=>tYes σ2 H2 fun b H3=>if b = true then A σ2 H3 else B σ2 H3:=by
 show (if true = true then A (σ.set i (some x)) H else B (σ.set i (some x)) H)
 rw [if_pos rfl]
 exact h
end L2
namespace L2
open PySem PySem.Spec PyProof.Rows
section
variable {X : Cx}
def tRev (K : PySem.W.Frag) (te : TE) (th : TO) : TE:=fun σ H Q=>te σ H fun x H1=>th σ H1 fun u H2=>∃ a xs,x = .ref a∧u = some (-1)∧SqL K H2 a xs∧∀ p,H2 p = none→Q (.ref p) (upd H2 p (.lst xs.reverse))
theorem Vals.rev : ∀ {xs : List V} {us : List Value},Vals xs us→Vals xs.reverse us.reverse
 | _,_,.nil=>.nil
 | _,_,.cons r t=>by
  rw [List.reverse_cons,List.reverse_cons]
  exact Vals.append (Vals.rev t) (.cons r .nil)
end
end L2
namespace L2
open PySem PySem.Spec PyProof.Rows
section
variable {X : Cx} {K : PySem.W.Frag}
theorem zmK (h : X.K = K:=by rfl) : IxR X (rIxL K):=by
 subst h
 exact zaz
theorem zfp (h : X.K = K:=by rfl) : IxR X (rIxT K):=by
 subst h
 exact zaL
end
end L2
namespace L2
open PySem PySem.Spec PyProof.Rows
section
variable {X : Cx}
def znX : V→List V→Hp→VK→Prop:=fun x vs H Q=>∃ l xs i y,x = .ref l∧vs = [.int i,y]∧H l = some (.lst xs)∧0≤i∧i < 2 ^ 63∧xs.length < sizeLine∧Q .non (upd H l (.lst (xs.take i.toNat ++ y :: xs.drop i.toNat)))
theorem zl8 {α : Type} (l : List α) (k : Nat) : l.take (min k l.length) = l.take k:=by
 by_cases h : k≤l.length
 ·rw [Nat.min_eq_left h]
 ·rw [Nat.min_eq_right (by omega),List.take_of_length_le (Nat.le_refl _),List.take_of_length_le (by omega)]
theorem zmX {α : Type} (l : List α) (k : Nat) : l.drop (min k l.length) = l.drop k:=by
 by_cases h : k≤l.length
 ·rw [Nat.min_eq_left h]
 ·rw [Nat.min_eq_right (by omega),List.drop_eq_nil_of_le (Nat.le_refl _),List.drop_eq_nil_of_le (by omega)]
theorem zk0 : MtM X "list.insert" znX:=by
 intro pins s σ H x vs v us Q I rx rv h
 obtain ⟨l,xs,i,y,rfl,rfl,hH,h0,h1,hz,q⟩:=h
 cases rx
 obtain ⟨u,u2,rfl,ru,ru2⟩:=zga rv
 obtain ⟨t,rfl⟩:=ru
 obtain ⟨z,its,n,r,hl,e⟩:=I.lstM hH
 refine call_meets F.slot_list_insert ⟨_,e,rfl⟩ F.entry_list_insert (F.args_list_insert_3 _ _ _)
  (AutoSeq1.list_insert_list_int_val_1 l its.toArray n i t u2 (by rw [fitsIndex_both (by omega) h1]; decide) (by rw [List.size_toArray]; omega)) ⟨e,?_⟩
 refine ⟨.non,_,I.lset (its':=its.take i.toNat ++ u2 :: its.drop i.toNat) hH e ?_ ((r.take i.toNat).append (.cons ru2 (r.drop i.toNat))) ?_,rfl,q⟩
 ·show (its.toArray.extract 0 (if i < 0 then (i + (its.toArray.size : Int)).toNat else min i.toNat its.toArray.size)).push u2 ++ its.toArray.extract (if i < 0 then (i + (its.toArray.size : Int)).toNat else min i.toNat its.toArray.size) = _
  rw [if_neg (by omega),List.size_toArray]
  apply Array.ext'
  simp [zl8,zmX]
  exact List.take_of_length_le (by rw [List.length_drop]; omega)
 ·rw [List.length_append,List.length_cons,List.length_take,List.length_drop]
  omega
end
theorem ze7 {c : TT} {tb : TS} {D : Ends} {σ : St} {H : Hp} (Pv Pe : St→Hp→Prop) (μ : St→Hp→Nat) (h0 : Pv σ H)
  (hs : ∀ σ H,Pv σ H→c σ H fun b H1=>if b = true then tb { D with nx:=fun σ' H'=>Pv σ' H'∧μ σ' H' < μ σ H,ct:=fun σ' H'=>Pv σ' H'∧μ σ' H' < μ σ H,bk:=D.nx } σ H1 else Pe σ H1)
  (mono : ∀ σ H Q Q',(∀ b H1,Q b H1→Q' b H1)→c σ H Q→c σ H Q') (he : ∀ σ H,Pe σ H→D.nx σ H) : zke c tb D σ H:=by
 refine zl2 Pv μ h0 (fun σ H p=>mono σ H _ _ (fun b H1 q=>?_) (hs σ H p)) mono
 cases b with
 | true=>exact q
 | false=>exact he _ _ q
def MonoT (c : TT) : Prop:=∀ σ H Q Q',(∀ b H1,Q b H1→Q' b H1)→c σ H Q→c σ H Q'
section
variable {X : Cx} {K : PySem.W.Frag}
theorem zgu (h : X.K = K:=by rfl) : OpR X (compareOp .NotIn) (rIn K true):=by
 subst h
 exact zet
theorem zkF {es : List Expr} {k : Nat} {t : TGs} {n : Nat} {pos : Pos} (hc : X.calm = true) (h : PGs X es t) (hK : X.K = K:=by rfl)
  (hn : (assignEach es X.env).length = n:=by rfl) (hst : (assignEach es X.env).findIdx? (·.1) = none:=by rfl) : PG X (.Tuple es k pos) (gTup K n t):=by
 subst hK
 exact zg6 hc h hn hst
end
theorem zmZ {K : PySem.W.Frag} {a b D : Addr} {xs ys : List V} {g : TG} {ts : TT} {te : TE} {σ : St} {H : Hp} {Q : Hp→Prop} (hlen : xs.length = ys.length) (Pv : Nat→St→Hp→Prop) (h0 : Pv 0 σ H) (hl : ∀ i σ H,i≤xs.length→Pv i σ H→SqL K H a xs∧SqL K H b ys)
  (hs : ∀ i m x y σ H r,xs[i]? = some x→ys[i]? = some y→i + m = xs.length→Pv i σ H→H r = none→g (.ref r) σ (upd H r (.tup [x,y])) fun σ2 H2=>ts σ2 H2 fun b H3=>if b = true then te σ2 H3 fun y H4=>∃ zs,H4 D = some (.lst zs)∧zs.length < sizeLine∧∃ m',m' < m∧(i + 1 + m' = xs.length∧Pv (i + 1) σ2 (upd H4 D (.lst (zs ++ [y])))) else ∃ m',m' < m∧(i + 1 + m' = xs.length∧Pv (i + 1) σ2 H3))
  (hd : ∀ σ H,Pv xs.length σ H→Q H) :
  ∃ W : Nat→Nat→St→Hp→Prop,(∃ m,W 0 m σ H)∧∀ i m σ H,W i m σ H→((Itz K a b).stop i H∧Q H)∨((Itz K a b).go i H∧∀ x H',(Itz K a b).yld i H x H'→g x σ H' fun σ2 H2=>ts σ2 H2 fun b H3=>if b = true then te σ2 H3 fun y H4=>∃ xs,H4 D = some (.lst xs)∧xs.length < sizeLine∧∃ m',m' < m∧W (i + 1) m' σ2 (upd H4 D (.lst (xs ++ [y]))) else ∃ m',m' < m∧W (i + 1) m' σ2 H3):=by
 refine ⟨fun i m σ H=>i + m = xs.length∧Pv i σ H,⟨xs.length,by omega,h0⟩,fun i m σ H ⟨e,pv⟩=>?_⟩
 obtain ⟨hS,hS'⟩:=hl i σ H (by omega) pv
 by_cases hi : i < xs.length
 ·refine .inr ⟨⟨xs,ys,xs[i],ys[i]'(by omega),hS,hS',List.getElem?_eq_getElem hi,List.getElem?_eq_getElem (by omega)⟩,fun x H' y=>?_⟩
  obtain ⟨p,z,z',rfl,hp,hz,hz',rfl⟩:=y
  exact hs i m z z' σ H p (hz xs hS) (hz' ys hS') e pv hp
 ·have : i = xs.length:=by omega
  subst this
  exact .inl ⟨⟨xs,ys,hS,hS',.inl (Nat.le_refl _)⟩,hd σ H pv⟩
end L2
namespace L2
open PySem PySem.Spec PyProof.Rows
section
variable {X : Cx}
theorem zlP (hc : X.calm = true) : zeg X (.builtin "min") (fun xs H Q=>∃ (p : Addr) (ns : List Int),xs = [.ref p]∧SqL X.K H p (ns.map V.int)∧0 < ns.length∧∀ M,M∈ns→(∀ a,a∈ns→M≤a)→Q (.int M) H):=by
 intro pins s σ H xs us Q I r h
 obtain ⟨p,ns,rfl,hq,hne,q⟩:=h
 obtain ⟨u,rfl,rx⟩:=zgb r
 cases rx
 obtain ⟨its,rv,pl,_⟩:=I.list hq
 have hi:=zer rv
 obtain ⟨xs,hx⟩:=hi.allInts.items
 have hl' : s.heap.IsList p (intItems xs):=hx ▸ pl.isList
 have e1 : ns = xs.toList.map (·.1):=by
  rw [← nums_intItems,← hx]
  exact (show numsOf its.toArray.toList = ns from hi.numsOf).symm
 have hsz : 0 < xs.size:=by
  rw [e1,List.length_map,Array.length_toList] at hne
  exact hne
 refine min_intList (I.ok.hd hc) hl' hsz fun v h' tk hv hk=>?_
 obtain ⟨t,rfl⟩:=intItems_at hv
 obtain ⟨h1,h2⟩:=argBest_lt (numAt xs) (xs.size - 1)
 refine ⟨.int _,H,Inv.kept (t':=tk) I hk,⟨t,rfl⟩,q _ ?_ fun a ha=>?_⟩
 ·rw [e1,numAt_eq]
  rw [List.getD_eq_getElem?_getD,List.getElem?_eq_getElem (by rw [List.length_map,Array.length_toList]; omega)]
  exact List.getElem_mem _
 ·rw [e1] at ha
  obtain ⟨j,hj,rfl⟩:=mem_getD ha
  rw [List.length_map,Array.length_toList] at hj
  rw [← numAt_eq]
  exact h2 j (by omega)
end
theorem zjh {K : PySem.W.Frag} {a D : Addr} {xs : List V} {g : TG} {ts : TT} {te : TE} {σ : St} {H : Hp} {Q : Hp→Prop} (Pv : Nat→St→Hp→Prop) (h0 : Pv 0 σ H) (hl : ∀ i σ H,i≤xs.length→Pv i σ H→SqT K H a xs)
  (hs : ∀ i m x σ H,xs[i]? = some x→i + m = xs.length→Pv i σ H→g x σ H fun σ2 H2=>ts σ2 H2 fun b H3=>if b = true then te σ2 H3 fun y H4=>∃ zs,H4 D = some (.lst zs)∧zs.length < sizeLine∧∃ m',m' < m∧(i + 1 + m' = xs.length∧Pv (i + 1) σ2 (upd H4 D (.lst (zs ++ [y])))) else ∃ m',m' < m∧(i + 1 + m' = xs.length∧Pv (i + 1) σ2 H3))
  (hd : ∀ σ H,Pv xs.length σ H→Q H) :
  ∃ W : Nat→Nat→St→Hp→Prop,(∃ m,W 0 m σ H)∧∀ i m σ H,W i m σ H→((Itt K a).stop i H∧Q H)∨((Itt K a).go i H∧∀ x H',(Itt K a).yld i H x H'→g x σ H' fun σ2 H2=>ts σ2 H2 fun b H3=>if b = true then te σ2 H3 fun y H4=>∃ xs,H4 D = some (.lst xs)∧xs.length < sizeLine∧∃ m',m' < m∧W (i + 1) m' σ2 (upd H4 D (.lst (xs ++ [y]))) else ∃ m',m' < m∧W (i + 1) m' σ2 H3):=by
 refine ⟨fun i m σ H=>i + m = xs.length∧Pv i σ H,⟨xs.length,by omega,h0⟩,fun i m σ H ⟨e,pv⟩=>?_⟩
 have hS:=hl i σ H (by omega) pv
 by_cases hi : i < xs.length
 ·refine .inr ⟨⟨xs,xs[i],hS,List.getElem?_eq_getElem hi⟩,fun x H' y=>?_⟩
  obtain ⟨e1,y⟩:=y
  subst e1
  exact hs i m x σ _ (y xs hS) e pv
 ·have : i = xs.length:=by omega
  subst this
  exact .inl ⟨⟨xs,hS,Nat.le_refl _⟩,hd σ H pv⟩
end L2
namespace L2
open PySem PySem.Spec PyProof.Rows
def Itv (K : PySem.W.Frag) (a : Addr) (n : Nat) : It:=
 ⟨fun i H=>i < n∧∃ xs,SqL K H a xs∧xs.length = n,fun i H x H'=>H' = H∧∀ xs,SqL K H a xs→xs.length = n→xs.reverse[i]? = some x,fun i _=>i = n⟩
theorem zl7 {P : Program} {w : World} {K : PySem.W.Frag} {tg : Expr} (a it : Addr) (n : Nat) : Turn P w K tg (Itv K a n) [it] it (fun i h=>h.IsRevIter it a ((n : Int) - 1 - (i : Int))) where
 mem:=by simp
 obj:=fun i h st b hb=>by
  have e : b = it:=by simpa using hb
  subst e
  obtain ⟨o,e,c,d⟩:=st
  exact ⟨o,e,fun v z=>by rw [d] at z; cases z⟩
 keep:=fun i h h' st k=>st.at fun o e=>k it (by simp) o e
 item:=by
  intro X hP hw hK hc i pins s σ H E I hf st hg
  subst hP hw hK
  obtain ⟨hi,xs,hq,hn⟩:=hg
  obtain ⟨its,rv,p,hz⟩:=I.list hq
  have hx : xs[n - 1 - i]? = some (xs[n - 1 - i]'(by omega)):=List.getElem?_eq_getElem (by omega)
  obtain ⟨u,hu,ru⟩:=rv.get hx
  obtain ⟨f0,f1,f2,f3,f4,f5⟩:=hf it (by simp)
  have e1 : (n : Int) - 1 - (i : Int) = ((n - 1 - i : Nat) : Int):=by omega
  rw [e1] at st
  refine wpAny_pyNext_rev_item st p.isList (x:=u) (by simpa using hu) fun h' st' sb=>?_
  have e2 : ((n - 1 - i : Nat) : Int) - 1 = (n : Int) - 1 - ((i + 1 : Nat) : Int):=by omega
  rw [e2] at st'
  have I1 : Inv X pins σ H { s with heap:=h' }:=I.turned (t':=s.toks) (fun b o hb e=>(sb.2 b hb).trans e) f0 f1 f3 f4 f5
  obtain ⟨o,e,c,d⟩:=id st'
  refine ⟨u,rfl,zmU (s:={ s with heap:=h' }) e c d (by decide) ⟨xs[n - 1 - i]'(by omega),H,I1,ru,⟨rfl,fun ys hy hyn=>?_⟩,st',fun b hb=>(hf b hb).1⟩⟩
  rw [I.list_inj hy hq,List.getElem?_reverse (by omega),show xs.length - 1 - i = n - 1 - i by omega]
  exact hx
 done:=by
  intro X hP hw hK hc i pins s σ H E I hf st hg
  subst hP hw hK
  have hi : i = n:=hg
  subst hi
  obtain ⟨f0,f1,f2,f3,f4,f5⟩:=hf it (by simp)
  have e1 : (i : Int) - 1 - (i : Int) = -1:=by omega
  rw [e1] at st
  exact wpAny_pyNext_rev_end (I.ok.hd hc) st fun h' eb=>⟨rfl,I.turned (t':=s.toks) (fun b o hb e=>eb b o hb e) f0 f1 f3 f4 f5⟩
 self:=fun _ _ _ _ _ st h=>wpAny_pyIter_revIter st h
def iRev (K : PySem.W.Frag) (ta : TA) : TI:=fun σ H R=>ta σ H fun vs H1=>∃ a xs,vs = [.ref a]∧SqL K H1 a xs∧R (Itv K a xs.length) H1
section
variable {X : Cx}
theorem zhR {tg : Expr} {a : Expr} {ta : TA} {p pos : Pos} (hg : Gl X "reversed") (hm : X.mg "reversed" = none) (ha : PA X [a] ta) (hs : starEach [a] X.env = [(false,eval a X.env)]:=by rfl) : PI X tg (.Call (.Name "reversed" p) [a] [] pos) (iRev X.K ta):=by
 intro pins s σ H R I h
 refine Call_ (zdy I hg hm boot_reversed (PyProof.Rows.callWith_type1 (thn (ha pos pins s σ H _ I h) fun us s1 ⟨vs,H1,I1,r1,q1⟩=>?_) hs rfl))
 obtain ⟨l,xs,e,hq,q⟩:=q1
 subst e
 cases r1 with
 | cons r rr=>
  cases rr
  cases r
  obtain ⟨its,rv,pl,hz⟩:=I1.list hq
  have hl:=rv.length
  refine call_reversed_list pl.isList ?_
  have I2 : Inv X pins σ H1 { s1 with heap:=s1.heap.push (revObj l ((its.toArray.size : Int) - 1)) }:=I1.kept (t':=s1.toks) fun b o e=>Heap.get?_push_of_some _ e
  have hr : (s1.heap.push (revObj l ((its.toArray.size : Int) - 1))).IsRevIter s1.heap.objs.size l (((xs.length : Nat) : Int) - 1 - ((0 : Nat) : Int)):=by
   refine ⟨_,Heap.get?_push_size _ rfl,rfl,?_⟩
   have : (its.toArray.size : Int) - 1 = ((xs.length : Nat) : Int) - 1 - ((0 : Nat) : Int):=by
    rw [List.size_toArray,hl]
    omega
   rw [this]
   rfl
  refine wpAny_pyIter_revIter (s:={ s1 with heap:=s1.heap.push (revObj l ((its.toArray.size : Int) - 1)) }) hr ⟨_,[s1.heap.objs.size],_,_,H1,rfl,I2,zl7 l s1.heap.objs.size xs.length,hr,fun b hb=>?_,q⟩
  have e : b = s1.heap.objs.size:=by simpa using hb
  subst e
  exact I1.fpOk (Nat.le_refl _) (I1.hok.fresh (Nat.le_refl _))
end
theorem zou {K : PySem.W.Frag} {a : Addr} {xs : List V} {g : TG} {tb : TS} {D : Ends} {σ : St} {H : Hp} (Pv : Nat→St→Hp→Prop) (h0 : Pv 0 σ H) (hl : ∀ i σ H,i≤xs.length→Pv i σ H→SqL K H a xs)
  (hs : ∀ i x σ H,xs.reverse[i]? = some x→Pv i σ H→g x σ H fun σ2 H2=>tb { D with nx:=Pv (i + 1),ct:=Pv (i + 1),bk:=D.nx } σ2 H2) (hd : ∀ σ H,Pv xs.length σ H→D.nx σ H) :
  ∃ W : Nat→Nat→St→Hp→Prop,(∃ m,W 0 m σ H)∧∀ i m σ H,W i m σ H→((Itv K a xs.length).stop i H∧D.nx σ H)∨((Itv K a xs.length).go i H∧∃ N : St→Hp→Prop,(∀ σ' H',N σ' H'→∃ m',m' < m∧W (i + 1) m' σ' H')∧∀ x H',(Itv K a xs.length).yld i H x H'→g x σ H' fun σ2 H2=>tb { D with nx:=N,ct:=N,bk:=D.nx } σ2 H2):=by
 refine ⟨fun i m σ H=>i + m = xs.length∧Pv i σ H,⟨xs.length,by omega,h0⟩,fun i m σ H ⟨e,pv⟩=>?_⟩
 have hS:=hl i σ H (by omega) pv
 by_cases hi : i < xs.length
 ·refine .inr ⟨⟨hi,xs,hS,rfl⟩,Pv (i + 1),fun σ' H' q=>⟨m - 1,by omega,by omega,q⟩,fun x H' y=>?_⟩
  obtain ⟨e1,y⟩:=y
  subst e1
  exact hs i x σ _ (y xs hS rfl) pv
 ·have : i = xs.length:=by omega
  subst this
  exact .inl ⟨rfl,hd σ H pv⟩
section
variable {prog : Program} {w : World} {A : Around} {E : Value→Shared→Prop} {s : Shared}
end
def tListRev (K : PySem.W.Frag) (ta : TA) : TE:=fun σ H Q=>ta σ H fun vs H1=>∃ l xs,vs = [.ref l]∧SqL K H1 l xs∧∀ p,H1 p = none→Q (.ref p) (upd H1 p (.lst xs.reverse))
section
variable {X : Cx}
def zjt (ta : TA) : TE:=fun σ H Q=>ta σ H fun vs H1=>∃ n : Nat,vs = [.int n]∧n≤1000∧∀ p,H1 p = none→Q (.ref p) (upd H1 p (.lst ((List.range n).map fun i : Nat=>V.int i)))
theorem zg7 {a : Expr} {ta : TA} {p1 p2 p3 p4 : Pos} (hc : X.calm = true) (hg : Gl X "list") (hm : X.mg "list" = none) (hg2 : Gl X "range") (hm2 : X.mg "range" = none) (ha : PA X [a] ta) (hs : starEach [a] X.env = [(false,eval a X.env)]:=by rfl)
  (hs2 : starEach [.Call (.Name "range" p2) [a] [] p3] X.env = [(false,eval (.Call (.Name "range" p2) [a] [] p3) X.env)]:=by rfl) : PE X (.Call (.Name "list" p1) [.Call (.Name "range" p2) [a] [] p3] [] p4) (zjt ta):=by
 intro pins s σ H Q I h
 refine wpAny_Call_Name_kw (zdy I hg hm boot_list (PyProof.Rows.callWith_type1 ?_ hs2 rfl))
 rw [hs2]
 refine Calls.spliced_cons ?_
 refine Call_ (zdy I hg2 hm2 boot_range (PyProof.Rows.callWith_type1 (thn (ha p3 pins s σ H _ I h) fun us s1 ⟨vs,H1,I1,r1,q1⟩=>?_) hs rfl))
 obtain ⟨n,e,hn,q⟩:=q1
 subst e
 cases r1 with
 | cons r rr=>
  cases rr
  obtain ⟨t,rfl⟩:=r
  refine call_range_1 ?_
  refine Calls.spliced_nil ?_
  have I2 : Inv X pins σ H1 { s1 with heap:=s1.heap.push { cls:=.type "range",data:=.fields #[.int 0 s1.toks,.int (n : Int) t,.int 1 (s1.toks + 1)] },toks:=s1.toks + 1 + 1 }:=I1.kept fun b o e=>Heap.get?_push_of_some _ e
  have hsz : s1.heap.objs.size≤(s1.heap.push { cls:=.type "range",data:=.fields #[.int 0 s1.toks,.int (n : Int) t,.int 1 (s1.toks + 1)] }).objs.size:=by
   show s1.heap.objs.size≤(s1.heap.objs.push _).size
   rw [Array.size_push]
   exact Nat.le_succ _
  refine call_list_range (n:=n) (I1.ok.hd hc) (IsRange.new ..) (small_one (by omega) (by omega) (by omega) (by omega)) (by rw [rangeSize_one]; split <;> omega) (by omega) fun h' tk acc c k e hi=>?_
  have hv : Vals ((List.range n).map fun i : Nat=>V.int i) acc.toList:=by
   obtain ⟨g1,g2⟩:=hi
   have key : ∀ (us : List Value) (o m : Nat),us.length = m→(∀ i v,us[i]? = some v→∃ t,v = Value.int ((0 : Int) + ((o + i : Nat) : Int) * 1) t)→Vals ((List.range' o m).map fun i : Nat=>V.int i) us:=by
    intro us
    induction us with
    | nil=>
     intro o m hl _
     subst hl
     exact .nil
    | cons v us ih=>
     intro o m hl hh
     subst hl
     show Vals (V.int o :: (List.range' (o + 1) us.length).map fun i : Nat=>V.int i) (v :: us)
     refine .cons ?_ (ih (o + 1) us.length rfl fun i w e=>?_)
     ·obtain ⟨t,ht⟩:=hh 0 v rfl
      refine ⟨t,?_⟩
      rw [ht]
      congr 1
      omega
     ·obtain ⟨t,ht⟩:=hh (i + 1) w (by simpa using e)
      refine ⟨t,?_⟩
      rw [ht]
      congr 1
      omega
   rw [List.range_eq_range']
   refine key acc.toList 0 n (by rw [Array.length_toList]; exact g1) fun i v e=>?_
   rw [Nat.zero_add]
   exact g2 i v (by rw [← Array.getElem?_toList]; exact e)
  refine ⟨.ref _,_,I1.laid (a:=(s1.heap.push { cls:=.type "range",data:=.fields #[.int 0 s1.toks,.int (n : Int) t,.int 1 (s1.toks + 1)] }).objs.size) (o:=.lst ((List.range n).map fun i : Nat=>V.int i)) (t':=tk) (fun b o eb=>k b o (Heap.get?_push_of_some _ eb)) hsz ⟨?_,acc.toList,c,hv,by rw [Array.toArray_toList]; exact e⟩,rfl,q _ (I1.hok.fresh hsz)⟩
  rw [List.length_map,List.length_range]
  exact Nat.le_of_lt (Nat.lt_of_le_of_lt hn (by decide))
end
end L2
namespace L2
open PySem PySem.Spec PyProof.Rows
theorem zg4 {P : Program} {w : World} {k : Key} {u : Value} (h : (zaD P w).is k u = true) : RelV (kV k) u:=by
 rw [zjH] at h
 rcases zaX h with ⟨i,t,rfl,rfl⟩ | ⟨x,t,rfl,rfl⟩
 ·exact ⟨t,rfl⟩
 ·exact ⟨t,rfl⟩
section
variable {X : Cx}
theorem zjY (hc : X.calm = true) : zeg X (.type "list") (fun xs H Q=>∃ (p : Addr) (kvs : List (Key×V)),xs = [.ref p]∧H p = some (.dK kvs)∧∀ l,H l = none→Q (.ref l) (upd H l (.lst (kvs.map fun kv=>kV kv.1)))):=by
 intro pins s σ H xs us Q I r h
 obtain ⟨p,kvs,rfl,hq,q⟩:=h
 obtain ⟨u,rfl,rx⟩:=zgb r
 cases rx
 obtain ⟨hz,hne,vs,rel,o,es,ep,h1,h2,h3,h4,h5,h6⟩:=zmY I.hok hq
 have hlen : kvs.length = vs.length:=rel.length
 refine PySem.W.kdl_call (PySem.W.kdl_dict (knd:=zaD X.prog X.w) (kvs:=vs) (ep:=ep) hne) (I.ok.hd hc) ⟨o,es,h1,h2,h3,h4,h5,h6⟩ (by omega) fun h' tk acc c k e hi=>?_
 have hv : Vals (kvs.map fun kv=>kV kv.1) acc.toList:=by
  obtain ⟨g1,g2⟩:=hi
  have key : ∀ (m : Nat) (kvs : List (Key×V)) (vs : List (Key×Value)) (us : List Value),KV kvs vs→us.length = vs.length→(∀ (i : Nat) (v : Value),us[i]? = some v→∃ k x,vs[i]? = some (k,x)∧(zaD X.prog X.w).is k v = true)→Vals (kvs.map fun kv=>kV kv.1) us:=by
   intro m kvs
   induction kvs with
   | nil=>
    intro vs us r hl _
    cases r
    have : us = []:=List.eq_nil_of_length_eq_zero hl
    subst this
    exact .nil
   | cons kv kvs ih=>
    intro vs us r hl hh
    cases r with
    | cons a b=>
     cases us with
     | nil=>cases hl
     | cons v us=>
      refine .cons ?_ (ih _ us b (Nat.succ.inj hl) fun i v e=>?_)
      ·obtain ⟨k,x,e1,e2⟩:=hh 0 v rfl
       cases e1
       have h9:=zg4 e2
       have a1 : kv.1 = k:=a.1
       rw [← a1] at h9
       exact h9
      ·have:=hh (i + 1) v (by simpa using e)
       simpa using this
  refine key 0 kvs vs acc.toList rel (by rw [Array.length_toList]; exact g1) fun i v e=>?_
  exact g2 i v (by rw [← Array.getElem?_toList]; exact e)
 refine ⟨.ref s.heap.objs.size,_,I.laid (a:=s.heap.objs.size) (o:=.lst (kvs.map fun kv=>kV kv.1)) (t':=tk) k (Nat.le_refl _) ⟨?_,acc.toList,c,hv,by rw [Array.toArray_toList]; exact e⟩,rfl,q _ (I.hok.fresh (Nat.le_refl _))⟩
 rw [List.length_map]
 omega
end
def Itd (a : Addr) : It:=
 ⟨fun i H=>∃ kvs,H a = some (.dK kvs)∧i < kvs.length,fun i H x H'=>H' = H∧∀ kvs,H a = some (.dK kvs)→(kvs.map fun kv=>kV kv.1)[i]? = some x,fun i H=>∃ kvs,H a = some (.dK kvs)∧i = kvs.length⟩
end L2
namespace L2
open PySem PySem.Spec PyProof.Rows
def iSeq (K : PySem.W.Frag) (tl : TE) : TI:=fun σ H R=>tl σ H fun x H1=>∃ a,x = .ref a∧((∃ xs,SqL K H1 a xs)∧R (Itl K a) H1∨(∃ xs,SqT K H1 a xs)∧R (Itt K a) H1)
section
variable {X : Cx} {tg : Expr}
end
section
variable {prog : Program} {w : World} {A : Around} {E : Value→Shared→Prop} {s : Shared}
end
end L2
namespace Tim
open PySem PyProof.Rows
section
variable {prog : Program} {w : World} {A : Around} {E : Value→Shared→Prop} {s : Shared} {κ : KeyKind} {kd : SortKind}
end
end Tim
namespace L2
open PySem PySem.Spec PyProof.Rows
section
variable {X : Cx}
def rSortT (α : Type) [Rep α] [Srt α] (K : PySem.W.Frag) : List V→Hp→VK→Prop:=fun xs H Q=>∃ (p : Addr) (vs : List V) (as : List α),xs = [.ref p]∧SqT K H p vs∧zal K H as vs∧
 ∀ l ws,H l = none→zal K H (zbX as) ws→Q (.ref l) (upd H l (.lst ws))
end
section
variable {prog : Program} {w : World} {A : Around} {E : Value→Shared→Prop} {s : Shared}
abbrev nuSet (led : Bool) : Obj:={ cls:=.type "set",dict:=none,data:=.set #[] 0 (.fresh 0 0 led) }
end
section
variable {X : Cx}
def rSetT (K : PySem.W.Frag) : List V→Hp→VK→Prop:=fun xs H Q=>∃ (p : Addr) (ns : List Int),xs = [.ref p]∧SqT K H p (ns.map V.int)∧ns.length≤1000∧
 ∀ l,H l = none→Q (.ref l) (upd H l (.set (fun k=>(metI ns).any (· == k)) (metI ns).length))
end
def Itf (a : Addr) (o : Obj) (kvs : List (Key×V)) : It:=
 ⟨fun i H=>H a = some (.frz o (.dK kvs))∧i < kvs.length,fun i H x H'=>H' = H∧(kvs.map fun kv=>kV kv.1)[i]? = some x,fun i H=>H a = some (.frz o (.dK kvs))∧i = kvs.length⟩
def iDict (tl : TE) : TI:=fun σ H R=>tl σ H fun x H1=>∃ a kvs,x = .ref a∧((H1 a = some (.dK kvs)∧∀ o,R (Itf a o kvs) (upd H1 a (.frz o (.dK kvs))))∨∃ o,H1 a = some (.frz o (.dK kvs))∧R (Itf a o kvs) H1)
section
variable {X : Cx} {tg : Expr}
end
end L2
namespace HT
open PySem PySem.Spec PyProof.Rows
section
variable {prog : Program} {w : World} {A : Around} {E : Value→Shared→Prop} {s : Shared}
end
end HT
namespace L2
open PySem PySem.Spec PyProof.Rows
section
variable {X : Cx}
def rSlX (K : PySem.W.Frag) : V→Option Int→Option Int→Hp→VK→Prop:=fun x lo hi H Q=>∃ a xs,x = .ref a∧SqT K H a xs∧
 ((HT.sIx xs.length 0 lo = 0∧HT.sIx xs.length xs.length hi = xs.length)→Q (.ref a) H)∧(¬ (HT.sIx xs.length 0 lo = 0∧HT.sIx xs.length xs.length hi = xs.length)→∀ p,H p = none→Q (.ref p) (upd H p (.tup (cutV xs lo hi))))
def rCatX (K : PySem.W.Frag) : R2:=fun x y H Q=>∃ a b xs ys,x = .ref a∧y = .ref b∧SqT K H a xs∧SqT K H b ys∧ys≠[]∧xs.length + ys.length≤sizeLine∧
 (xs = []→Q (.ref b) H)∧(xs≠[]→∀ p,H p = none→Q (.ref p) (upd H p (.tup (xs ++ ys))))
end
end L2
namespace L2
open PySem PySem.Spec PyProof.Rows PySem.SeqAt
def hasO (o : Option Int) (v : V) : Prop:=match o with
 | none=>v = .non
 | some i=>v = .int i
instance : Rep (Option Int) where
 dec:=inferInstance
 depth:=0
 has:=fun _ _ o v=>hasO o v
 mono:=fun _ h=>h
 inj:=fun {_ _ _ _ _ a b v} _ h1 h2=>by
  cases a <;> cases b
  ·rfl
  ·have h1 : v = .non:=h1
   have h2 : v = .int _:=h2
   rw [h1] at h2
   cases h2
  ·have h1 : v = .int _:=h1
   have h2 : v = .non:=h2
   rw [h1] at h2
   cases h2
  ·have h1 : v = .int _:=h1
   have h2 : v = .int _:=h2
   rw [V.int.inj (h1.symm.trans h2)]
 rc:=fun {_ _ _ _ _ _ a b x y u v} _ _ h1 h2 r1 r2=>by
  cases a with
  | none=>
   have h1 : x = .non:=h1
   subst h1
   obtain rfl : u = .none:=r1
   cases b with
   | none=>
    have h2 : y = .non:=h2
    subst h2
    obtain rfl : v = .none:=r2
    exact RcAt.none_none
   | some j=>
    have h2 : y = .int j:=h2
    subst h2
    obtain ⟨t,rfl⟩:=r2
    exact RcAt.none_int _ _
  | some i=>
   have h1 : x = .int i:=h1
   subst h1
   obtain ⟨t,rfl⟩:=r1
   cases b with
   | none=>
    have h2 : y = .non:=h2
    subst h2
    obtain rfl : v = .none:=r2
    exact RcAt.int_none _ _
   | some j=>
    have h2 : y = .int j:=h2
    subst h2
    obtain ⟨t',rfl⟩:=r2
    have e : decide (some i = some j) = (i == j):=by
     by_cases z : i = j
     ·subst z; simp
     ·rw [decide_eq_false (fun q=>z (Option.some.inj q)),beq_eq_false_iff_ne.mpr z]
    have:=RcAt.int_int (A:=‹Around›) (s:=‹Shared›) i t j t'
    rw [← e] at this
    exact this
 rn:=fun {_ _ _ _ _ _ a b x y u v} _ _ h1 h2 r1 r2=>by
  cases a with
  | none=>
   have h1 : x = .non:=h1
   subst h1
   obtain rfl : u = .none:=r1
   cases b with
   | none=>
    have h2 : y = .non:=h2
    subst h2
    obtain rfl : v = .none:=r2
    exact RcNeAt.none_none
   | some j=>
    have h2 : y = .int j:=h2
    subst h2
    obtain ⟨t,rfl⟩:=r2
    exact RcNeAt.none_int _ _
  | some i=>
   have h1 : x = .int i:=h1
   subst h1
   obtain ⟨t,rfl⟩:=r1
   cases b with
   | none=>
    have h2 : y = .non:=h2
    subst h2
    obtain rfl : v = .none:=r2
    exact RcNeAt.int_none _ _
   | some j=>
    have h2 : y = .int j:=h2
    subst h2
    obtain ⟨t',rfl⟩:=r2
    have e : decide (some i = some j) = (i == j):=by
     by_cases z : i = j
     ·subst z; simp
     ·rw [decide_eq_false (fun q=>z (Option.some.inj q)),beq_eq_false_iff_ne.mpr z]
    have:=RcNeAt.int_int (A:=‹Around›) (s:=‹Shared›) i t j t'
    rw [← e] at this
    exact this
 eq:=fun {_ _ _ _ _ _ a b x y u v} _ _ h1 h2 r1 r2=>by
  cases a with
  | none=>
   have h1 : x = .non:=h1
   subst h1
   obtain rfl : u = .none:=r1
   cases b with
   | none=>
    have h2 : y = .non:=h2
    subst h2
    obtain rfl : v = .none:=r2
    exact EqAt.same _
   | some j=>
    have h2 : y = .int j:=h2
    subst h2
    obtain ⟨t,rfl⟩:=r2
    exact EqAt.none_int _ _
  | some i=>
   have h1 : x = .int i:=h1
   subst h1
   obtain ⟨t,rfl⟩:=r1
   cases b with
   | none=>
    have h2 : y = .non:=h2
    subst h2
    obtain rfl : v = .none:=r2
    exact EqAt.int_none _ _
   | some j=>
    have h2 : y = .int j:=h2
    subst h2
    obtain ⟨t',rfl⟩:=r2
    have e : decide (some i = some j) = (i == j):=by
     by_cases z : i = j
     ·subst z; simp
     ·rw [decide_eq_false (fun q=>z (Option.some.inj q)),beq_eq_false_iff_ne.mpr z]
    have:=EqAt.int_int (A:=‹Around›) (s:=‹Shared›) i t j t'
    rw [← e] at this
    exact this
structure Tup (α : Type) where
 l : List α
theorem Tup.ext' {α : Type} {a b : Tup α} (h : a.l = b.l) : a = b:=by
 cases a
 cases b
 cases h
 rfl
instance {α : Type} [DecidableEq α] : DecidableEq (Tup α):=fun a b=>if h : a.l = b.l then .isTrue (Tup.ext' h) else .isFalse fun z=>h (by rw [z])
def hasT {α : Type} [Rep α] (K : PySem.W.Frag) (H : Hp) (t : Tup α) (v : V) : Prop:=∃ a xs,v = .ref a∧SqT K H a xs∧zal K H t.l xs
section
variable {α : Type} [r : Rep α] {X : Cx} {pins : List (Addr×Obj)} {σ : St} {H : Hp} {s : Shared} {A : Around} {as bs : Tup α} {x y : V} {u v : Value}
theorem zjb (I : Inv X pins σ H s) (h1 : hasT X.K H as x) (h2 : hasT X.K H bs x) : as = bs:=by
 obtain ⟨a,xs,rfl,q1,h1⟩:=h1
 obtain ⟨b,ys,e,q2,h2⟩:=h2
 cases e
 rw [I.tuple_inj q2 q1] at h2
 exact Tup.ext' (h1.inj I h2)
theorem zj9 {as bs : List α} (n m : Nat) (hn : as.length = n) (hm : bs.length = m) : ((List.range (min n m)).all (fun j=>decide (as[j]? = bs[j]?)) && n == m) = decide (as = bs):=by
 by_cases hl : as.length = bs.length
 ·have e:=zeq as bs hl
  have z : min n m = as.length:=by omega
  rw [z,e,beq_iff_eq.mpr (by omega : n = m),Bool.and_true]
 ·rw [decide_eq_false (fun z=>hl (by rw [z])),beq_eq_false_iff_ne.mpr (by omega : n≠m),Bool.and_false]
theorem zlD : decide (as = bs) = decide (as.l = bs.l):=by
 by_cases h : as.l = bs.l
 ·rw [decide_eq_true h,decide_eq_true (Tup.ext' h)]
 ·rw [decide_eq_false h,decide_eq_false (fun z=>h (by rw [z]))]
theorem zlt (I : Inv X pins σ H s) (hu : A.units + (Rep.depth α + 1) < cLine) (h1 : hasT X.K H as x) (h2 : hasT X.K H bs y) (r1 : RelV x u) (r2 : RelV y v) : RcAt A s u v (decide (as = bs)):=by
 obtain ⟨a,xs,rfl,q1,h1⟩:=h1
 obtain ⟨b,ys,rfl,q2,h2⟩:=h2
 cases r1
 cases r2
 obtain ⟨us,ru,pu,_⟩:=I.tuple q1
 obtain ⟨vs,rv,pv,_⟩:=I.tuple q2
 have l1:=ru.length
 have l2:=rv.length
 have m1:=h1.length
 have m2:=h2.length
 have hin : A.in1.units + Rep.depth α < cLine:=Nat.lt_of_le_of_lt (Nat.add_le_add_right zcA _) (by omega)
 have:=RcAt.tuples (A:=A) (s:=s) (l:=a) (b:=b) (items:=us.toArray) (items2:=vs.toArray) (e:=fun j=>decide (as.l[j]? = bs.l[j]?)) pu pv (by omega) (zeZ I hin h1 h2 ru rv)
 rw [zj9 (as:=as.l) (bs:=bs.l) us.toArray.size vs.toArray.size (by simp; omega) (by simp; omega),← zlD] at this
 exact this
theorem zoo (I : Inv X pins σ H s) (hu : A.units + (Rep.depth α + 1) < cLine) (h1 : hasT X.K H as x) (h2 : hasT X.K H bs y) (r1 : RelV x u) (r2 : RelV y v) : RcNeAt A s u v (!decide (as = bs)):=by
 obtain ⟨a,xs,rfl,q1,h1⟩:=h1
 obtain ⟨b,ys,rfl,q2,h2⟩:=h2
 cases r1
 cases r2
 obtain ⟨us,ru,pu,_⟩:=I.tuple q1
 obtain ⟨vs,rv,pv,_⟩:=I.tuple q2
 have l1:=ru.length
 have l2:=rv.length
 have m1:=h1.length
 have m2:=h2.length
 have hin : A.in1.units + Rep.depth α < cLine:=Nat.lt_of_le_of_lt (Nat.add_le_add_right zcA _) (by omega)
 have:=RcNeAt.tuples (A:=A) (s:=s) (l:=a) (b:=b) (items:=us.toArray) (items2:=vs.toArray) (e:=fun j=>decide (as.l[j]? = bs.l[j]?)) pu pv (by omega) (zeZ I hin h1 h2 ru rv)
 rw [zj9 (as:=as.l) (bs:=bs.l) us.toArray.size vs.toArray.size (by simp; omega) (by simp; omega),← zlD] at this
 exact this
theorem zop (I : Inv X pins σ H s) (hu : A.units + (Rep.depth α + 1) < cLine) (h1 : hasT X.K H as x) (h2 : hasT X.K H bs y) (r1 : RelV x u) (r2 : RelV y v) : EqAt A s u v (decide (as = bs)):=by
 have rc:=zlt (A:=A) I hu h1 h2 r1 r2
 have h1':=id h1
 have h2':=id h2
 obtain ⟨a,xs,rfl,q1,h1⟩:=h1
 obtain ⟨b,ys,rfl,q2,h2⟩:=h2
 cases r1
 cases r2
 by_cases hab : a = b
 ·subst hab
  rw [decide_eq_true (zjb I h1' h2')]
  exact EqAt.same _
 ·exact EqAt.of_refs hab rc
end
instance {α : Type} [Rep α] : Rep (Tup α) where
 dec:=inferInstance
 depth:=Rep.depth α + 1
 has:=hasT
 mono:=fun e ⟨a,xs,h1,h2,h3⟩=>⟨a,xs,h1,h2.ext e,h3.mono e⟩
 inj:=fun I h1 h2=>zjb I h1 h2
 rc:=fun I hu h1 h2 r1 r2=>zlt I hu h1 h2 r1 r2
 rn:=fun I hu h1 h2 r1 r2=>zoo I hu h1 h2 r1 r2
 eq:=fun I hu h1 h2 r1 r2=>zop I hu h1 h2 r1 r2
end L2
namespace L2
open PySem PySem.Spec PyProof.Rows
section
variable {X : Cx}
end
end L2
namespace L2
open PySem PySem.Spec PyProof.Rows
section
variable {X : Cx} {K : PySem.W.Frag}
end
end L2
namespace L2
open PySem PySem.Spec PyProof.Rows
section
variable {X : Cx} {K : PySem.W.Frag} {tg : Expr}
end
end L2
namespace L2
open PySem PySem.Spec PyProof.Rows
structure zgS (scope : Scope) (ps caps : List Str) : Prop where
 kind : scope.kind = .function
 co : scope.isCoroutine = false
 gen : scope.isGenerator = false
 nocell : ∀ x∈scope.names,x.2≠.cell
 par : ∀ x∈ps,scope.names.lookup x = some .local
 cap : ∀ x∈caps,scope.names.lookup x = some .free
 nd : (ps ++ caps).Nodup
def zht (P : Program) (w : World) (K : PySem.W.Frag) (mg : Str→Option Value) (base : Heap) (N : List Str) (qual : Str) (scope : Scope) (f : Addr) (cd : Value) (cl : List (Str×Addr)) (A : Around) (outer : List Env) (s : Shared) (H : Hp) : Cx where
 prog:=P
 w:=w
 K:=K
 mg:=mg
 base:=base
 A:=A.deeper (PySem.W.envX qual scope s.heap.objs.size f cd cl)
 N:=N
 s₀:=s
 H₀:=H
 env:=PySem.W.envX qual scope s.heap.objs.size f cd cl
 outer:=outer
 stack:=PySem.W.envX qual scope s.heap.objs.size f cd cl :: outer
 ex:=[]
 calm:=true
 fn:=fun _=>false
 pn:=[]
 xe:=fun _ _=>False
def zlN (c : Addr) (q : Str) : Heap→Prop:=fun h=>h.CodeRec (.ref c) q
def zdD (H : Hp) (c : Addr) (q : Str) : Prop:=H c = some (.ext (zlN c q))
theorem zjW {c : Addr} {q : Str} (h1 h2 : Heap) (x : zlN c q h1) (k : ∀ o,h1.get? c = some o→h2.get? c = some o) : zlN c q h2:=by
 obtain ⟨c',o,vs,t,e,ho,r⟩:=x
 cases e
 exact ⟨c,o,vs,t,rfl,k o ho,r⟩
theorem zdD.rec {P : Program} {w : World} {H : Hp} {h : Heap} {c : Addr} {q : Str} (x : zdD H c q) (ok : HOk P w H h) : h.CodeRec (.ref c) q:=(ok c _ x).1
theorem zfT {x : Str} {u : Value} : ∀ {ps : List Str} {us : List Value} {i : Nat},ps.Nodup→ps[i]? = some x→us[i]? = some u→(ps.zip us).reverse.lookup x = some u
 | [],_,_,_,e,_=>by simp at e
 | _ :: _,[],_,_,_,e=>by simp at e
 | p :: ps,v :: us,0,hn,e1,e2=>by
  have e1 : p = x:=by simpa using e1
  have e2 : v = u:=by simpa using e2
  subst e1 e2
  rw [List.zip_cons_cons,List.reverse_cons,List.lookup_append]
  have z : (ps.zip us).reverse.lookup p = none:=by
   rw [List.lookup_eq_none_iff]
   intro y hy
   have:=List.of_mem_zip (List.mem_reverse.mp hy)
   simp only [beq_eq_false_iff_ne,ne_eq,bne_iff_ne]
   intro q
   rw [List.nodup_cons] at hn
   first
    | exact hn.1 (q ▸ this.1)
    | (rw [q] at hn; exact hn.1 this.1)
  rw [z]
  simp
 | p :: ps,v :: us,i + 1,hn,e1,e2=>by
  rw [List.nodup_cons] at hn
  have ih:=zfT (ps:=ps) (us:=us) (i:=i) hn.2 (by simpa using e1) (by simpa using e2)
  rw [List.zip_cons_cons,List.reverse_cons,List.lookup_append,ih]
  rfl
def zhM (n : Nat) (tb : TE) (vcs : List V) (c : Addr) (q : Str) : Sp:=fun vs H Q _=>vs.length = n∧zdD H c q∧tb (vs.map some ++ vcs.map some) H Q
theorem znw {P : Program} {w : World} {K : PySem.W.Frag} {mg : Str→Option Value} {base : Heap} {k : Nat} {f c : Addr} {name qual : Str} {params : Arguments} {body : Expr} {scope : Scope} {cl : List (Str×Addr)} {pm ctv : Value} {ps caps : List Str} {vcs : List V} {tb : TE}
  (S : zgS scope ps caps) (hf : base.get? f = some (PySem.W.kla_obj name qual params body scope cl pm c ctv)) (hlen : vcs.length = caps.length)
  (hcap : ∀ (j : Nat) (x : Str) (v : V),caps[j]? = some x→vcs[j]? = some v→∃ a u,cl.lookup x = some a∧base.IsCell a (some u)∧RelV v u)
  (hcell : ∀ x a,cl.lookup x = some a→∃ v,base.IsCell a v) (hinj : ∀ x y a,cl.lookup x = some a→cl.lookup y = some a→x = y) (hhas : ∀ x,scope.names.lookup x = some .free→∃ a,cl.lookup x = some a)
  (hb : ∀ (A : Around) (outer : List Env) (s : Shared) (H : Hp),Room k (A.deeper (PySem.W.envX qual scope s.heap.objs.size f (.ref c) cl))→PE (zht P w K mg base (ps ++ caps) qual scope f (.ref c) cl A outer s H) body tb) :
  FnOk P w K mg base CX0 (k + 1) f (PySem.W.kla_fn name qual params body scope cl pm (.ref c) ctv) ps (zhM ps.length tb vcs c qual):=by
 refine ⟨fun vs H Q E h=>h.1,fun A outer s H args us vs Q E hr e0 hbind r hsp=>?_⟩
 obtain ⟨hl,hc,hq⟩:=hsp
 have bk : ∀ b o,base.get? b = some o→s.heap.get? b = some o:=fun b o e=>(e0.bs b o e).1
 have hul : us.length = ps.length:=by rw [← r.length]; exact hl
 refine PySem.W.kla_callFunE hr.depth (bk _ _ hf) rfl S.co S.gen rfl (hc.rec e0.hok) ?_
 refine hbind _ _ _ _ ?_
 refine wpAny_newFunctionEnv S.nocell (fun y hy=>S.par _ (List.of_mem_zip hy).1) (fun h1 hns hsb=>⟨(e0.mod.nolimit.keeps bk).fresh _ hsb,?_⟩) S.kind
 show codeAny _ _ (.expr body (PySem.W.envX qual scope s.heap.objs.size f (.ref c) cl)) _ _
 have hk : ∀ b o,s.heap.get? b = some o→h1.get? b = some o:=fun b o e=>hsb.extBut b o (Nat.ne_of_lt (Heap.lt_size e)) (Heap.get?_push_of_some _ e)
 have cellK : ∀ a v,base.IsCell a v→h1.IsCell a v∧H a = none:=fun a v ⟨o,ho,hd⟩=>⟨⟨o,hk _ _ (bk _ _ ho),hd⟩,(e0.bs _ _ ho).2⟩
 have ndps : ps.Nodup:=(List.nodup_append.mp S.nd).1
 have noA : ∀ b : Addr,b∉([] : List Addr):=fun b z=>absurd z (by simp)
 have I : Inv (zht P w K mg base (ps ++ caps) qual scope f (.ref c) cl A outer s H) [] (vs.map some ++ vcs.map some) H { s with heap:=h1,toks:=s.toks + (ps.zip us).length }:=by
  refine ⟨⟨e0.mod,S.kind,rfl,rfl,Nat.le_refl _,hinj,fun y hy=>?_,fun y a z _=>(by cases z),fun _=>hr.hd,Around.frames_deeper e0.frames,.inr ⟨rfl,rfl⟩,fun b z=>absurd z (noA b),e0.bs,e0.bsz,fun b _ _=>noA b,fun b z=>absurd z (noA b),e0.funs,e0.frf⟩,
   rfl,e0.bare,Un.kept hk,⟨_,hns,fun i y v h1' h2 h3=>?_⟩,fun y a h=>?_,e0.hok.fresh (Nat.le_refl _),fun y a h=>?_,fun p hp=>absurd (show p∈([] : List (Addr×Obj)) from hp) (by simp),e0.hok.kept hk,?_⟩
  ·have hy : scope.names.lookup y = some .cell∨scope.names.lookup y = some .free:=hy
   rcases hy with hy | hy
   ·exact absurd rfl (S.nocell _ (PySem.mem_of_lookup hy))
   ·exact hhas y hy
  ·have h1' : (ps ++ caps)[i]? = some y:=h1'
   by_cases hi : i < ps.length
   ·rw [List.getElem?_append_left hi] at h1'
    rw [List.getElem?_append_left (by rw [List.length_map]; omega),List.getElem?_map] at h2
    cases e : vs[i]? with
    | none=>rw [e] at h2; cases h2
    | some v'=>
     rw [e] at h2
     cases h2
     obtain ⟨u,hu,ru⟩:=r.get e
     exact ⟨u,ru,.inl ⟨S.par y (List.mem_of_getElem? h1'),zfT ndps h1' hu⟩⟩
   ·rw [List.getElem?_append_right (by omega)] at h1'
    rw [List.getElem?_append_right (by rw [List.length_map]; omega),List.length_map,List.getElem?_map] at h2
    cases e : vcs[i - vs.length]? with
    | none=>rw [e] at h2; cases h2
    | some v'=>
     rw [e] at h2
     cases h2
     rw [hl] at e
     obtain ⟨a,u,e1,e2,ru⟩:=hcap _ _ _ h1' e
     exact ⟨u,ru,.inr ⟨.inr (S.cap y (List.mem_of_getElem? h1')),a,e1,(cellK _ _ e2).1⟩⟩
  ·obtain ⟨v,z⟩:=hcell y a h
   exact ⟨v,(cellK _ _ z).1⟩
  ·obtain ⟨v,z⟩:=hcell y a h
   exact (cellK _ _ z).2
  ·show (vs.map some ++ vcs.map some).length = (ps ++ caps).length
   rw [List.length_append,List.length_append,List.length_map,List.length_map,hl,hlen]
 refine PySem.W.kla_codeExpr (wpAny_mono (hb A outer s H (hr.deeper _) [] _ _ H Q I hq) (fun u s' hu=>?_) fun _ _ z=>(show False from z).elim)
 obtain ⟨v,H',J,rv,q⟩:=hu
 exact ⟨v,H',J.os,J.bare,J.base,J.hok,rv,q⟩
end L2
namespace L2
open PySem PySem.Spec PyProof.Rows
def Gro (Pt : Addr) (H H' : Hp) : Prop:=∀ b o,b≠Pt→H b = some o→H' b = some o
theorem Gro.refl (Pt : Addr) (H : Hp) : Gro Pt H H:=fun _ _ _ h=>h
theorem Gro.trans {Pt : Addr} {H H1 H2 : Hp} (a : Gro Pt H H1) (b : Gro Pt H1 H2) : Gro Pt H H2:=fun c o n h=>b c o n (a c o n h)
structure zaG (H : Hp) (Pt : Addr) (pos : Pos) (q : Str) : Prop where
 ex : ∃ tab : Array Value,H Pt = some (.tbl tab)∧TriplesOk tab.toList∧(codeAmong pos tab.toList = none∨∃ c,codeAmong pos tab.toList = some (.ref c)∧zdD H c q)
theorem zaG.ext {H H' : Hp} {Pt : Addr} {pos : Pos} {q : Str} (x : zaG H Pt pos q) (e : Ext H H') : zaG H' Pt pos q:=by
 obtain ⟨tab,h1,h2,h3⟩:=x.ex
 refine ⟨tab,e _ _ h1 (fun _ z=>nomatch z),h2,?_⟩
 rcases h3 with h3 | ⟨c,h3,h4⟩
 ·exact .inl h3
 ·exact .inr ⟨c,h3,e _ _ h4 (fun _ z=>nomatch z)⟩
theorem zaG.gro {H H' : Hp} {Pt P2 : Addr} {pos : Pos} {q : Str} (x : zaG H Pt pos q) (e : Gro P2 H H') (hne : Pt≠P2) (h2 : ∃ tab,H P2 = some (.tbl tab)) : zaG H' Pt pos q:=by
 obtain ⟨tab,h1,h3,h4⟩:=x.ex
 refine ⟨tab,e _ _ hne h1,h3,?_⟩
 rcases h4 with h4 | ⟨c,h4,h5⟩
 ·exact .inl h4
 ·refine .inr ⟨c,h4,e _ _ (fun z=>?_) h5⟩
  obtain ⟨tab2,y⟩:=h2
  rw [← z,show H c = _ from h5] at y
  cases y
def BMAt (mg : Str→Option Value) (base : Heap) : Prop:=∃ bm o,mg "__builtins__" = some (.ref bm)∧bm≠builtinsNs∧bm≠mainGlobals∧base.get? bm = some o∧o.cls = .type "module"∧o.dict = some builtinsNs∧o.data = .plain
section
variable {X : Cx} {pins : List (Addr×Obj)} {σ : St} {H : Hp} {s : Shared} {params : Arguments} {body : Expr} {scope : Scope} {lpos : Pos} {c Pt : Addr} {Q : Value→Shared→Prop}
theorem zmT {c' : Addr} {q : Str} {tab more : Array Value} {h' : Heap} {tk : Nat} (I : Inv X pins σ H s) (hP : H Pt = some (.tbl tab)) (hx : ∀ b o,b≠Pt→s.heap.get? b = some o→h'.get? b = some o) (hge : s.heap.objs.size≤c')
  (hrec : h'.CodeRec (.ref c') q) (htb : h'.get? Pt = some (PySem.W.tabObj (tab ++ more))) : Inv X pins σ (upd (upd H Pt (.tbl (tab ++ more))) c' (.ext (zlN c' q))) { s with heap:=h',toks:=tk }:=by
 have hfr : H c' = none:=I.hok.fresh hge
 have nPc : Pt≠c':=zab hP hfr
 have low : ∀ b u,H b = some u→b≠c':=fun b u e=>zab e hfr
 have lows : ∀ b o,s.heap.get? b = some o→b≠c':=fun b o e=>Nat.ne_of_lt (Nat.lt_of_lt_of_le (Heap.lt_size e) hge)
 have nP : ∀ b,H b = none→b≠Pt:=fun b n z=>by rw [z,hP] at n; cases n
 refine I.un (t':=tk) ⟨fun b o e n _ _=>hx b o (nP b n) e,fun b o e n _ _=>⟨o.slots,hx b o (nP b n) e⟩,fun b o e n _=>?_,fun b o e _=>?_,fun b xs e=>?_,fun b o u e=>?_,fun b ps e=>?_⟩ fun a o e=>?_
 ·rw [zag (lows b o e),zag (nP b n)]
  exact n
 ·by_cases z : b = Pt
  ·exact ⟨_,by rw [z]; exact htb⟩
  ·exact ⟨o,hx b o z e⟩
 ·rw [zag (low b _ e),zag (fun z=>by rw [z,hP] at e; cases e)]
  exact e
 ·rw [zag (low b _ e),zag (fun z=>by rw [z,hP] at e; cases e)]
  exact e
 ·by_cases z : b = Pt
  ·rw [z,hP] at e
   cases e
   exact ⟨more,by rw [z,zag nPc,zac]⟩
  ·exact ⟨#[],by rw [zag (low b _ e),zag z,e]; simp⟩
 ·by_cases z : a = c'
  ·subst z
   rw [zac] at e
   cases e
   obtain ⟨c2,o2,vs,t,e2,ho2,r2⟩:=id hrec
   cases e2
   exact ⟨hrec,⟨o2,ho2⟩,fun h1 h2 x k=>zjW h1 h2 x k⟩
  ·rw [zag z] at e
   by_cases y : a = Pt
   ·subst y
    rw [zac] at e
    cases e
    exact htb
   ·rw [zag y] at e
    refine (I.hok a o e).stay (fun b u hb q=>hx b u ?_ q) (fun b q=>?_) fun b xs q=>?_
    ·rcases hb with rfl | hb
     ·exact y
     ·intro z2
      rw [z2,hP] at hb
      cases hb
    ·rw [zag (low b _ q),zag (fun z2=>by rw [z2,hP] at q; cases q)]
     exact q
    ·rw [zag (low b _ q),zag (fun z2=>by rw [z2,hP] at q; cases q)]
     exact q
theorem zgD (I : Inv X pins σ H s) (hdef : defaultsOf params X.env = ([],[])) (hfr : ∀ x,(x,NameKind.free)∈scope.names→(X.env.kindOf x = some .cell∨X.env.kindOf x = some .free)) (hcode : X.env.code = .ref c) (hC : PySem.W.codeHdIn X.K c Pt = true) (hBM : BMAt X.mg X.base)
  (hT : zaG H Pt lpos (X.env.qual ++ "<lambda>"))
  (h : ∀ (f c' : Addr) (cl : List (Str×Addr)) (pm ctv : Value) (H' : Hp) (s' : Shared),zf8 scope X.env cl→Inv X pins σ H' s'→s'.heap.get? f = some (PySem.W.kla_obj "<lambda>" (X.env.qual ++ "<lambda>") params body scope cl pm c' ctv)→H' f = none→s.heap.objs.size≤f→
   Gro Pt H H'→zaG H' Pt lpos (X.env.qual ++ "<lambda>")→zdD H' c' (X.env.qual ++ "<lambda>")→Q (.ref f) s') :
  wpAny (model X.prog X.w) X.A (eval (.Lambda params body scope lpos) X.env) Q X.xe s:=by
 obtain ⟨cl,hcl⟩:=zfx (scope:=scope) (env:=X.env) fun x hx=>I.ok.has x (hfr x hx)
 obtain ⟨tab,hP,ht,hor⟩:=hT.ex
 have hPo : s.heap.get? Pt = some (PySem.W.tabObj tab):=I.hok Pt _ hP
 have C : PySem.W.CodeHd s.heap c Pt:=(PySem.W.codeHd_of_K I.ok.mod.kin hC).keeps I.bk
 have hgl:=I.mod.glob.keeps I.bk
 have hgP : mainGlobals≠Pt:=fun z=>by
  obtain ⟨o,es,ep,e,_⟩:=I.mod.glob
  have:=(I.bs _ _ e).2
  rw [z,hP] at this
  cases this
 have hb : s.heap.BuiltinsAt X.mg Pt:=by
  obtain ⟨bm,o,b1,b2,b3,b4,b5⟩:=hBM
  refine ⟨bm,o,b1,b2,b3,fun z=>?_,I.bk _ _ b4,b5⟩
  have:=(I.bs _ _ b4).2
  rw [z,hP] at this
  cases this
 refine PySem.W.kla_eval hdef ?_
 rcases hor with hnone | ⟨c',hsome,hca⟩
 ·refine PySem.W.kla_makeFunction (clos:=cl) hcl.eq I.ok.glob hgl hcode C hPo ht hnone hgP hb fun c' ctv h' tk hx hge hlt hrec htb=>?_
  have hx' : ∀ o2 b o,b≠Pt→s.heap.get? b = some o→(h'.push o2).get? b = some o:=fun o2 b o n e=>Heap.get?_push_of_some _ (hx b o n e)
  have I':=zmT (c':=c') (q:=X.env.qual ++ "<lambda>") (tk:=tk) I hP (hx' _) hge (hrec.push (PySem.W.kla_obj "<lambda>" (X.env.qual ++ "<lambda>") params body scope cl ((X.mg "__name__").getD .none) c' ctv)) (Heap.get?_push_of_some _ htb)
  have hsz : s.heap.objs.size≤h'.objs.size:=Nat.le_of_lt (Nat.lt_of_le_of_lt hge hlt)
  have nPc : Pt≠c':=zab hP (I.hok.fresh hge)
  have eT : (tab ++ #[rawInt lpos.line,rawInt lpos.col,.ref c']).toList = tab.toList ++ [rawInt lpos.line,rawInt lpos.col,.ref c']:=by simp
  have hTI : zaG (upd (upd H Pt (.tbl (tab ++ #[rawInt lpos.line,rawInt lpos.col,.ref c']))) c' (.ext (zlN c' (X.env.qual ++ "<lambda>")))) Pt lpos (X.env.qual ++ "<lambda>"):=
   ⟨_,by rw [zag nPc,zac],by rw [eT]; exact TriplesOk_snoc _ _ _ _ ht,.inr ⟨c',by rw [eT]; exact codeAmong_snoc _ ht hnone,zac⟩⟩
  refine h h'.objs.size c' cl _ ctv _ _ hcl I' (Heap.get?_push_size _ rfl) ?_ hsz ?_ hTI zac
  ·rw [zag (Nat.ne_of_gt hlt),zag (fun z=>?_)]
   ·exact I.hok.fresh hsz
   ·have:=Heap.lt_size hPo
    rw [← z] at this
    exact absurd this (Nat.not_lt.mpr hsz)
  ·intro b o n e
   rw [zag (zab e (I.hok.fresh hge)),zag n]
   exact e
 ·refine PySem.W.kla_makeFunctionHit (clos:=cl) hcl.eq I.ok.glob hgl hcode C hPo ht hsome hb fun ctv h' tk hk hsz=>?_
  exact h h'.objs.size c' cl _ ctv H _ hcl (I.kept (t':=tk) fun b o e=>Heap.get?_push_of_some _ (hk b o e)) (Heap.get?_push_size _ rfl) (I.hok.fresh hsz) hsz (Gro.refl _ _) hT hca
end
end L2
namespace L2
open PySem PySem.Spec PyProof.Rows
def zbN (X : Cx) (s : Shared) (H : Hp) : Heap:=PySem.W.hideAll s.heap (trk s.heap H ++ frs X.stack)
theorem zdJ {h b1 b2 : Heap} : ∀ {l : List Env},h.FunFrames b1 l→(∀ b∈frs l,b2.get? b = none)→h.FunFrames b2 l
 | [],_,_=>trivial
 | env :: l,⟨h1,⟨L,o,h2,h3,h4,h5⟩,h6⟩,k=>by
  have m : ∀ b∈frs l,b∈frs (env :: l):=fun b hb=>by
   unfold frs
   rw [List.filterMap_cons,h2]
   exact List.mem_cons_of_mem _ hb
  refine ⟨h1,⟨L,o,h2,k L ?_,h4,h5⟩,zdJ h6 fun b hb=>k b (m b hb)⟩
  unfold frs
  rw [List.filterMap_cons,h2]
  exact List.mem_cons_self
section
variable {X : Cx} {pins : List (Addr×Obj)} {σ : St} {H : Hp} {s : Shared}
theorem zcD {b : Addr} {o : Obj} (e : s.heap.get? b = some o) (n : H b = none) (hf : b∉frs X.stack) : (zbN X s H).get? b = some o:=
 PySem.W.hideAll_get _ e fun hm=>by
  rcases List.mem_append.mp hm with z | z
  ·have q : (H b).isSome = true:=(List.mem_filter.mp z).2
   rw [n] at q
   cases q
  ·exact hf z
theorem zha {b : Addr} {o : Obj} (e : (zbN X s H).get? b = some o) : s.heap.get? b = some o∧H b = none∧b∉frs X.stack:=by
 have e1:=PySem.W.of_hideAll _ e
 have hm : b∉trk s.heap H ++ frs X.stack:=fun z=>by
  unfold zbN at e
  rw [PySem.W.hideAll_none _ z] at e
  cases e
 rw [List.mem_append,not_or] at hm
 refine ⟨e1,?_,hm.2⟩
 cases q : H b with
 | none=>rfl
 | some u=>exact absurd (List.mem_filter.mpr ⟨List.mem_range.mpr (Heap.lt_size e1),by rw [q]; rfl⟩) hm.1
theorem zf6 (I : Inv X pins σ H s) : ∀ b o,X.base.get? b = some o→(zbN X s H).get? b = some o:=fun b o e=>by
 obtain ⟨h1,h2⟩:=I.bs b o e
 refine zcD h1 h2 fun z=>?_
 have:=(I.stack.mem z).1
 rw [e] at this
 cases this
theorem zfC (I : Inv X pins σ H s) : Env0 X.prog X.w X.K X.mg (zbN X s H) X.A X.stack s H:=by
 have sub:=zf6 I
 refine ⟨I.ok.frames,⟨I.mod.kin.keeps sub,I.mod.glob.keeps sub,?_,I.mod.nolimit.keeps sub⟩,fun b o e=>⟨(zha e).1,(zha e).2.1⟩,Nat.le_of_eq (PySem.W.hideAll_size _ _),zdJ I.stack fun b hb=>PySem.W.hideAll_none _ (List.mem_append_right _ hb),I.stkFree,I.hok,I.bare⟩
 obtain ⟨mb,h1,h2⟩:=I.mod.blt
 exact ⟨mb,h1.keeps sub,h2⟩
end
structure FV (P : Program) (w : World) (K : PySem.W.Frag) (mg : Str→Option Value) (base : Heap) (k : Nat) (f : Addr) (ps : List Str) (sp : Sp) : Prop where
 ex : ∃ fd,FnOk P w K mg base CX0 k f fd ps sp∧zgT K fd ps []∧PySem.W.FnAt f base
section
variable {X : Cx}
def tCallV (X : Cx) (kr : Nat) (tf : TE) (t : TA) : TE:=fun σ H Q=>tf σ H fun x H1=>∃ f k ps sp,x = .ref f∧FV X.prog X.w X.K X.mg X.base k f ps sp∧k≤kr∧t σ H1 fun vs H2=>sp vs H2 Q E0
theorem zgq {kr : Nat} {x : Str} {e : Expr} {es : List Expr} {tf : TE} {t : TA} {p pos : Pos} (hr : Room kr X.A) (hf : PE X (.Name x p) tf) (ha : PA X (e :: es) t)
  (he : starEach (e :: es) X.env = (false,eval e X.env) :: starEach es X.env:=by rfl) (hpl : (backTo pos (starEach es X.env)).any (·.1) = false:=by rfl) : PE X (.Call (.Name x p) (e :: es) [] pos) (tCallV X kr tf t):=by
 intro pins s σ H Q I h
 refine wpAny_Call_Name_kw (thn (hf pins s σ H _ I h) fun u s1 ⟨x1,H1,I1,r1,q1⟩=>?_)
 obtain ⟨f,k,ps,sp,rfl,hF,hk,q⟩:=q1
 cases r1
 obtain ⟨fd,ok,bd,oc,od,fd2,sl,ho⟩:=hF.ex
 refine PySem.W.callWith_F ⟨oc,od,fd2,sl,I1.bk _ _ ho⟩ (thn (ha pos pins s1 σ H1 _ I1 q) fun us s2 ⟨vs,H2,I2,r,q2⟩=>⟨⟨oc,od,fd2,sl,I2.bk _ _ ho⟩,?_⟩) he hpl
 exact znm ok (hr.mono hk) bd .nil pass0 I2 r (by rw [List.append_nil]; exact q2)
structure zir (X : Cx) (params : Arguments) (body : Expr) (scope : Scope) (ps caps : List Str) (cap : List Nat) : Prop where
 sc : zgS scope ps caps
 frees : ∀ x,(x,NameKind.free)∈scope.names→(X.env.kindOf x = some .cell∨X.env.kindOf x = some .free)
 capAt : ∀ (j : Nat) (x : Str),caps[j]? = some x→∃ i : Nat,cap[j]? = some i∧X.N[i]? = some x∧(X.env.kindOf x = some .cell∨X.env.kindOf x = some .free)
 dflt : defaultsOf params X.env = ([],[])
 binds : ∀ (cl : List (Str×Addr)) (pm cdv ct : Value) (us : List Value),us.length = ps.length→bindArgs (PySem.W.kla_fn "<lambda>" (X.env.qual ++ "<lambda>") params body scope cl pm cdv ct) ⟨us,[]⟩ = pure (ps.zip us)
 own : ∀ x,X.fn x = true
theorem fv_of {pins : List (Addr×Obj)} {σ : St} {H : Hp} {s : Shared} {params : Arguments} {body : Expr} {scope : Scope} {ps caps : List Str} {cap : List Nat} {f c' : Addr} {cl : List (Str×Addr)} {pm ctv : Value} {vcs : List V} {tb : TE} {k n : Nat} (I : Inv X pins σ H s) (L : zir X params body scope ps caps cap) (hcl : zf8 scope X.env cl)
  (ho : s.heap.get? f = some (PySem.W.kla_obj "<lambda>" (X.env.qual ++ "<lambda>") params body scope cl pm c' ctv)) (hn : H f = none) (hfr : ∀ b∈frs X.stack,b < n) (hge : n≤f)
  (hv : vcs.length = caps.length) (hvs : ∀ (j i : Nat) (v : V),cap[j]? = some i→vcs[j]? = some v→σ[i]? = some (some v))
  (hb : ∀ (base : Heap) (f : Addr) (cd : Value) (cl : List (Str×Addr)) (A : Around) (outer : List Env) (s : Shared) (H : Hp),Room k (A.deeper (PySem.W.envX (X.env.qual ++ "<lambda>") scope s.heap.objs.size f cd cl))→PE (zht X.prog X.w X.K X.mg base (ps ++ caps) (X.env.qual ++ "<lambda>") scope f cd cl A outer s H) body tb) :
  FV X.prog X.w X.K X.mg (zbN X s H) (k + 1) f ps (zhM ps.length tb vcs c' (X.env.qual ++ "<lambda>")):=by
 have nf : f∉frs X.stack:=fun z=>absurd (Nat.lt_of_lt_of_le (hfr f z) hge) (Nat.lt_irrefl _)
 have hbf:=zcD (X:=X) ho hn nf
 have cellB : ∀ x a v,X.env.cells.lookup x = some a→s.heap.IsCell a v→(zbN X s H).IsCell a v:=fun x a v e ⟨o,h1,h2⟩=>by
  refine ⟨o,zcD h1 (I.freeC x a e) fun z=>?_,h2⟩
  rcases List.mem_cons.mp (I.stkSub a z) with y | y
  ·exact I.cne x a e y
  ·obtain ⟨_,o2,h3,_⟩:=I.ok.funs.mem y
   exact absurd (Nat.lt_of_lt_of_le (Heap.lt_size h3) (I.ok.cab x a (L.own x) e)) (Nat.lt_irrefl _)
 refine ⟨_,znw L.sc hbf hv (fun j x v h1 h2=>?_) (fun x a e=>?_) (fun x y a h1 h2=>I.ok.inj x y a (hcl.sub x a h1) (hcl.sub y a h2)) (fun x e=>?_) (fun A outer s H hr=>hb _ f _ cl A outer s H hr),.all (L.binds cl pm (.ref c') ctv),⟨_,_,_,_,hbf⟩⟩
 ·obtain ⟨i,e1,e2,e3⟩:=L.capAt j x h1
  obtain ⟨m,hm,hl⟩:=I.loc
  obtain ⟨u,ru,lk⟩:=hl i x v e2 (hvs j i v e1 h2) (by
   rcases e3 with z | z
   ·exact .inr (.inl z)
   ·exact .inr (.inr z))
  rcases lk with ⟨z,_⟩ | ⟨_,a,e4,e5⟩
  ·rcases e3 with y | y
   ·rw [y] at z; cases z
   ·rw [y] at z; cases z
  ·obtain ⟨a',e6⟩:=hcl.has x (PySem.mem_of_lookup (L.sc.cap x (List.mem_of_getElem? h1)))
   have e7:=hcl.sub x a' e6
   rw [e4] at e7
   cases e7
   exact ⟨a,u,e6,cellB x a _ e4 e5,ru⟩
 ·obtain ⟨v,z⟩:=I.cell x a (hcl.sub x a e)
  exact ⟨v,cellB x a v (hcl.sub x a e) z⟩
 ·exact hcl.has x (PySem.mem_of_lookup e)
def zma (X : Cx) (n kf : Nat) (ps : List Str) (cap : List Nat) (Pt : Addr) (lpos : Pos) (tb te : TE) (spH : Heap→Sp) : TE:=fun σ H Q=>te σ H fun x1 H1=>zaG H1 Pt lpos (X.env.qual ++ "<lambda>")∧∃ vcs : List V,vcs.length = n∧(∀ (j i : Nat) (v : V),cap[j]? = some i→vcs[j]? = some v→σ[i]? = some (some v))∧
 ∀ (base : Heap) (f c' : Addr) (H2 : Hp),Gro Pt H1 H2→zaG H2 Pt lpos (X.env.qual ++ "<lambda>")→zdD H2 c' (X.env.qual ++ "<lambda>")→FV X.prog X.w X.K X.mg base kf f ps (zhM ps.length tb vcs c' (X.env.qual ++ "<lambda>"))→spH base [x1,.ref f] H2 Q E0
theorem zjx {x q1 q2 : Str} {e1 : Expr} {params : Arguments} {body : Expr} {scope : Scope} {lpos p pos : Pos} {te tb : TE} {spH : Heap→Sp} {j k kf : Nat} {c Pt : Addr} {ps caps : List Str} {cap : List Nat}
  (F : ∀ base,FC X.prog X.w X.K X.mg base j x [q1,q2] (spH base)) (hr : Room k X.A) (h1 : PE X e1 te) (L : zir X params body scope ps caps cap) (hcode : X.env.code = .ref c) (hC : PySem.W.codeHdIn X.K c Pt = true) (hBM : BMAt X.mg X.base)
  (hb : ∀ (base : Heap) (f : Addr) (cd : Value) (cl : List (Str×Addr)) (A : Around) (outer : List Env) (s : Shared) (H : Hp),Room kf (A.deeper (PySem.W.envX (X.env.qual ++ "<lambda>") scope s.heap.objs.size f cd cl))→PE (zht X.prog X.w X.K X.mg base (ps ++ caps) (X.env.qual ++ "<lambda>") scope f cd cl A outer s H) body tb)
  (hjk : j≤k:=by decide) (hg : Gl X x:=by rfl) (hdb : (x == ("__debug__" : Str)) = false:=by decide) (he : starEach [e1,.Lambda params body scope lpos] X.env = (false,eval e1 X.env) :: starEach [.Lambda params body scope lpos] X.env:=by rfl)
  (he2 : starEach [.Lambda params body scope lpos] X.env = [(false,eval (.Lambda params body scope lpos) X.env)]:=by rfl) (hpl : (backTo pos (starEach [.Lambda params body scope lpos] X.env)).any (·.1) = false:=by rfl) :
  PE X (.Call (.Name x p) [e1,.Lambda params body scope lpos] [] pos) (zma X caps.length (kf + 1) ps cap Pt lpos tb te spH):=by
 intro pins s σ H Q I h
 obtain ⟨g,fd,_,_,kp,m,oc,od,osl,lk⟩:=(F X.base).ex
 refine wpAny_Call_Name_kw (zfn I hg m ?_ hdb)
 refine PySem.W.callWith_K (h₀:=X.base) I.ok.mod.kin kp ?_ he hpl
 rw [he]
 show wpAny _ _ (spliced ((false,eval e1 X.env) :: backTo pos (starEach [.Lambda params body scope lpos] X.env))) _ _ s
 refine Calls.spliced_cons (thn (h1 pins s σ H _ I h) fun u s1 ⟨x1,H1,I1,r1,q1⟩=>?_)
 obtain ⟨hT,vcs,hv,hvs,q⟩:=q1
 rw [he2]
 show wpAny _ _ (spliced ((false,eval (.Lambda params body scope lpos) X.env) :: [])) _ _ s1
 refine Calls.spliced_cons (zgD I1 L.dflt L.frees hcode hC hBM hT fun f c' cl pm ctv H2 s2 hcl I2 ho hn hge hgr hT2 hca=>?_)
 refine Calls.spliced_nil ⟨I2.kIn,?_⟩
 have hF:=fv_of (k:=kf) (n:=s1.heap.objs.size) I2 L hcl ho hn (fun b hb=>by
  obtain ⟨_,o,e,_⟩:=I1.stack.mem hb
  exact Heap.lt_size e) hge hv hvs hb
 have hsp:=q (zbN X s2 H2) f c' H2 hgr hT2 hca hF
 obtain ⟨g2,fd2,ok,bd,_,m2,_⟩:=(F (zbN X s2 H2)).ex
 rw [m] at m2
 cases m2
 have r2 : Vals [x1,.ref f] [u,.ref f]:=.cons r1 (.cons rfl .nil)
 refine wpAny_call (codeAny_mono (ok.run X.A X.stack s2 H2 ⟨[u,.ref f],[]⟩ [u,.ref f] [x1,.ref f] Q E0 (hr.mono hjk) (zfC I2) (bd s2 [u,.ref f] I2.kIn rfl) r2 hsp) fun r s' hq=>?_)
 cases r with
 | error e=>exact False.elim hq
 | ok fl=>
  cases fl with
  | ret u=>exact I2.after hq
  | next=>exact False.elim hq
  | brk=>exact False.elim hq
  | cont=>exact False.elim hq
end
end L2
namespace L2
open PySem PySem.Spec PyProof.Rows
theorem zlc {P : Program} {w : World} {K : PySem.W.Frag} {mg mb : Str→Option Value} {CX : CXT} {k : Nat} {fa a : Addr} {fd : FuncData} {x : Str} {sp : Sp} {s₁ : Shared} {vs : List Value} {ns : List Int} {tabs : List (Addr×Addr)}
  (KX : K.In s₁.heap) (hns : s₁.heap.Ns mainGlobals mg) (hb : s₁.heap.Ns builtinsNs mb) (hbb : ∀ x : Str,x ≠ "__name__"→mb x = bootBuiltins x) (hlim : s₁.heap.NoLimit) (hg : s₁.gens = #[]) (hBM : BMAt mg s₁.heap)
  (hT : PySem.W.TabsAt tabs s₁.heap) (hKT : ∀ q∈tabs,K.lookup q.2 = none)
  (ha : s₁.heap.get? a = some { cls:=.type "list",data:=.seq vs.toArray }) (hi : IntsAre vs ns) (hl : ns.length≤sizeLine) (hr : Room k callerA)
  (F : ∀ base : Heap,K.In base→base.Ns mainGlobals mg→BMAt mg base→FnOk P w K mg base CX k fa fd [x] sp) (hbind : ∀ (s : Shared) (u : Value),BindsTo s fd ⟨[u],[]⟩ [(x,u)])
  (hsp : ∀ H : Hp,(∀ q∈tabs,H q.2 = some (.tbl #[]))→SqL K H a (ns.map V.int)→sp [.ref a] H (fun v _=>v = .bl true) fun _ _ _=>False)
  (hCX : ∀ H e s',CX [] H s₁ (fun _ _ _=>False) e s'→False) :
  codeAny (model P w) callerA (.call (.ref fa) ⟨[.ref a],[]⟩) (fun r s'=>r = .ok (.ret (.bool true))∧OldK s₁.heap s'.heap∧s'.os = s₁.os∧AllBare s'.gens) s₁:=by
 have rv:=zgV hi
 have lenV:=hi.length
 have tabO : ∀ b,b∈tabs.map (·.2)→s₁.heap.get? b = some (PySem.W.tabObj #[])∧isCodeTable s₁.heap b∧K.lookup b = none:=fun b hm=>by
  obtain ⟨q,hq,rfl⟩:=List.mem_map.mp hm
  exact ⟨(hT q hq).2,((hT q hq).1.tab (hT q hq).2).isCodeTable,hKT q hq⟩
 have nat : a∉tabs.map (·.2):=fun z=>by
  have:=(tabO a z).1
  rw [ha] at this
  cases this
 have core : ∀ Hs : Hp,(∀ b,Hs b = none∨(b = a∧Hs b = some (.frz { cls:=.type "list",data:=.seq vs.toArray } (.lst (ns.map V.int)))))→(∀ H : Hp,(∀ b,b∉tabs.map (·.2)→H b = Hs b)→SqL K H a (ns.map V.int))→(Hs a≠none→K.lookup a = none)→
   codeAny (model P w) callerA (.call (.ref fa) ⟨[.ref a],[]⟩) (fun r s'=>r = .ok (.ret (.bool true))∧OldK s₁.heap s'.heap∧s'.os = s₁.os∧AllBare s'.gens) s₁:=by
  intro Hs hO hS hK
  obtain ⟨H,hH⟩ : ∃ H : Hp,H = fun b=>if b∈tabs.map (·.2) then some (.tbl #[]) else Hs b:=⟨_,rfl⟩
  have H1 : ∀ b,b∈tabs.map (·.2)→H b = some (.tbl #[]):=fun b z=>by rw [hH]; exact if_pos z
  have H2 : ∀ b,b∉tabs.map (·.2)→H b = Hs b:=fun b z=>by rw [hH]; exact if_neg z
  have cases3 : ∀ b,H b = none∨(b = a∧H b = some (.frz { cls:=.type "list",data:=.seq vs.toArray } (.lst (ns.map V.int))))∨(b∈tabs.map (·.2)∧H b = some (.tbl #[])):=fun b=>by
   by_cases z : b∈tabs.map (·.2)
   ·exact .inr (.inr ⟨z,H1 b z⟩)
   ·rcases hO b with y | ⟨y1,y2⟩
    ·exact .inl ((H2 b z).trans y)
    ·exact .inr (.inl ⟨y1,(H2 b z).trans y2⟩)
  have hok : HOk P w H s₁.heap:=fun b u e=>by
   rcases cases3 b with y | ⟨y1,y2⟩ | ⟨y1,y2⟩
   ·rw [y] at e; cases e
   ·rw [y2] at e
    cases e
    subst y1
    exact ⟨ha,by rw [List.length_map]; exact hl,vs,_,rv,ha⟩
   ·rw [y2] at e
    cases e
    exact (tabO b y1).1
  have base_of : ∀ {b : Addr} {o : Obj},s₁.heap.get? b = some o→H b = none→(hidT s₁.heap H).get? b = some o:=fun e n=>zmQ e n
  have noD : ∀ {b : Addr} {o : Obj},s₁.heap.get? b = some o→(∀ xs n,o.data≠.seq xs n)→(∀ xs,o.data≠.fields xs)→H b = none:=fun {b o} e d1 d2=>by
   rcases cases3 b with y | ⟨y1,y2⟩ | ⟨y1,y2⟩
   ·exact y
   ·subst y1
    rw [ha] at e
    cases e
    exact absurd rfl (d1 _ _)
   ·rw [(tabO b y1).1] at e
    cases e
    exact absurd rfl (d2 _)
  have nsK : ∀ {b : Addr} {m : Str→Option Value},s₁.heap.Ns b m→(hidT s₁.heap H).Ns b m:=fun {b m} ⟨o,es,ep,e,d,r⟩=>⟨o,es,ep,base_of e (noD e (fun _ _ z=>by rw [d] at z; cases z) (fun _ z=>by rw [d] at z; cases z)),d,r⟩
  have hKb : K.In (hidT s₁.heap H):=fun b o e=>base_of (KX b o e) (by
   rcases cases3 b with y | ⟨y1,y2⟩ | ⟨y1,y2⟩
   ·exact y
   ·subst y1
    rw [hK (by rw [← H2 b nat,y2]; exact fun z=>nomatch z)] at e
    cases e
   ·rw [(tabO b y1).2.2] at e
    cases e)
  have hM : Mod K mg (hidT s₁.heap H):=⟨hKb,nsK hns,⟨mb,nsK hb,hbb⟩,let ⟨mc,h1,h2⟩:=hlim; ⟨mc,nsK h1,h2⟩⟩
  have hBMb : BMAt mg (hidT s₁.heap H):=by
   obtain ⟨bm,o,b1,b2,b3,b4,b5,b6,b7⟩:=hBM
   exact ⟨bm,o,b1,b2,b3,base_of b4 (noD b4 (fun _ _ z=>by rw [b7] at z; cases z) (fun _ z=>by rw [b7] at z; cases z)),b5,b6,b7⟩
  have e0 : Env0 P w K mg (hidT s₁.heap H) callerA [] s₁ H:=⟨rfl,hM,fun b o e=>zoc e,Nat.le_of_eq (zls _ _),trivial,fun b hb=>absurd (show b∈([] : List Addr) from hb) (by simp),hok,.of_eq hg⟩
  refine codeAny_mono ((F _ hKb (nsK hns) hBMb).run callerA [] s₁ H ⟨[.ref a],[]⟩ [.ref a] [.ref a] _ _ hr e0 (hbind s₁ (.ref a)) (.cons rfl .nil) (hsp H (fun q hq=>H1 _ (List.mem_map_of_mem hq)) (hS H H2))) fun r s' h=>?_
  cases r with
  | error e=>exact (hCX H e s' h).elim
  | ok fl=>
   cases fl with
   | next=>exact False.elim h
   | brk=>exact False.elim h
   | cont=>exact False.elim h
   | ret u=>
    obtain ⟨v,H',os,bare,un,hok',r',q⟩:=h
    have q' : v = .bl true:=q
    subst q'
    obtain rfl : u = Value.bool true:=r'
    have keep : ∀ b o,H b = none→s₁.heap.get? b = some o→s'.heap.get? b = some o:=fun b o n e=>un.keep b o e n (by intro z; exact absurd (show b∈([] : List Addr) from z) (by simp)) (by simp)
    have frz : ∀ b o,b = a→H b = some (.frz { cls:=.type "list",data:=.seq vs.toArray } (.lst (ns.map V.int)))→s₁.heap.get? b = some o→s'.heap.get? b = some o:=fun b o y1 y2 e=>by
     obtain ⟨e1,_⟩:=hok b _ y2
     obtain ⟨e2,_⟩:=hok' b _ (un.frzs b _ _ y2)
     rw [e] at e1
     cases e1
     exact e2
    have tbl : ∀ b,H b = some (.tbl #[])→∃ ps,s'.heap.get? b = some (PySem.W.tabObj ps):=fun b y=>by
     obtain ⟨more,e⟩:=un.tbls b _ y
     exact ⟨_,hok' b _ e⟩
    refine ⟨rfl,⟨fun b o e=>?_,fun b o e=>?_⟩,os,bare⟩
    ·rcases cases3 b with y | ⟨y1,y2⟩ | ⟨y1,y2⟩
     ·exact .inl (keep b o y e)
     ·exact .inl (frz b o y1 y2 e)
     ·obtain ⟨ps,hp⟩:=tbl b y2
      obtain ⟨t1,t2,_⟩:=tabO b y1
      rw [e] at t1
      cases t1
      exact .inr (.inl ⟨t2,rfl,#[],ps,rfl,by rw [Array.empty_append]; exact hp⟩)
    ·rcases cases3 b with y | ⟨y1,y2⟩ | ⟨y1,y2⟩
     ·exact ⟨o,keep b o y e⟩
     ·exact ⟨o,frz b o y1 y2 e⟩
     ·obtain ⟨ps,hp⟩:=tbl b y2
      exact ⟨_,hp⟩
 cases hk : K.lookup a with
 | some o=>
  have e:=KX a o hk
  rw [ha] at e
  cases e
  exact core (fun _=>none) (fun _=>.inl rfl) (fun H _=>.inr ⟨_,vs.toArray,_,hk,rfl,rfl,rfl,by rw [List.size_toArray,lenV]; exact hl,by simpa using rv⟩) fun z=>absurd rfl z
 | none=>
  refine core (fun b=>if b = a then some (.frz { cls:=.type "list",data:=.seq vs.toArray } (.lst (ns.map V.int))) else none) (fun b=>?_) (fun H h=>.inl (.inr ⟨{ cls:=.type "list",data:=.seq vs.toArray },by rw [h a nat]; exact if_pos rfl⟩)) fun _=>hk
  by_cases z : b = a
  ·exact .inr ⟨z,if_pos z⟩
  ·exact .inl (if_neg z)
theorem zl4 {l : PySem.W.OpenLaw} {n k : Nat} {q : Program} {loose : List Str} {XP : (Str→Option Value)→Heap→Prop} {YP : World→Heap→Prop} {d : DefRec} {K : Params→PySem.W.Frag} {sp : World→Sp} {x : Str} {tabs : List (Addr×Addr)}
  (hn : l.most = some n) (hn2 : n≤sizeLine) (hdf : d.params.defaults = []) (hr : Room k callerA)
  (hY : ∀ (w : World) (h : Heap),YP w h→(K w.params).In h) (hYT : ∀ (w : World) (h : Heap),YP w h→∀ q∈tabs,h.get? q.2 = some (PySem.W.tabObj #[]))
  (hC : ∀ (w : World),∀ q∈tabs,PySem.W.codeHdIn (K w.params) q.1 q.2 = true∧(K w.params).lookup q.2 = none)
  (F : ∀ (w : World) (mg : Str→Option Value) (fa : Addr) (h : Heap),(K w.params).In h→h.Ns mainGlobals mg→mg d.name = some (.ref fa)→
   ∃ fd : FuncData,(∀ (s : Shared) (u : Value),BindsTo s fd ⟨[u],[]⟩ [(x,u)])∧
    ∀ base : Heap,(K w.params).In base→base.Ns mainGlobals mg→BMAt mg base→FnOk l.prog w (K w.params) mg base CX0 k fa fd [x] (sp w))
  (hsp : ∀ (w : World) (H : Hp) (a : Addr) (ns : List Int),ns.length≤n→(∀ q∈tabs,H q.2 = some (.tbl #[]))→SqL (K w.params) H a (ns.map V.int)→sp w [.ref a] H (fun v _=>v = .bl true) fun _ _ _=>False) :
  PySem.W.WalkO q loose XP YP l.row.toRowW d [] (fun f vs=>PySem.call f vs):=by
 refine Att.attach_call hn hdf fun w s₀ s₁ mg mb fa o pm cd doc a vs ns G Y ho hd hcd hmg hobj hints hlen hg=>?_
 have KX:=hY w _ Y
 obtain ⟨fd,hb,hF⟩:=F w mg fa _ KX G.T.g hmg
 have hBM : BMAt mg s₁.heap:=by
  obtain ⟨bm,ob,b1,b2,b3,b4,b5,b6⟩:=G.T.bmain
  refine ⟨bm,ob,b1,b2,fun z=>?_,b3,b4,b5,b6⟩
  obtain ⟨o,es,ep,e,hd,_⟩:=G.T.g
  rw [z,e] at b3
  cases b3
  rw [hd] at b6
  cases b6
 exact zlc (tabs:=tabs) KX G.T.g G.T.b G.T.builtins G.T.nolimit hg hBM (fun q hq=>⟨PySem.W.codeHd_of_K KX (hC w q hq).1,hYT w _ Y q hq⟩) (fun q hq=>(hC w q hq).2) hobj hints (Nat.le_trans hlen hn2) hr hF hb (fun H hO hS=>hsp w H a ns hlen hO hS) fun H e s' z=>z
structure DFT (K : PySem.W.Frag) (mg : Str→Option Value) (x : Str) (st : Stmt) (ps : List Str) (c Pt : Addr) : Prop where
 ex : ∃ (f : Addr) (oc : Value) (od : Option Addr) (kV dc pm : Value) (an : Option Addr) (ct : Value) (osl : Array (Option Value)),K.lookup f = some ⟨oc,od,.func (PySem.W.fnOf x x (zcN st) (zbP st) (zai st) .none kV dc pm an (.ref c) ct),osl⟩∧
  PySem.W.codeIn K (.ref c) x = true∧PySem.W.keepIn K (.ref f) = true∧mg x = some (.ref f)∧zgT K (PySem.W.fnOf x x (zcN st) (zbP st) (zai st) .none kV dc pm an (.ref c) ct) ps []
 hd : PySem.W.codeHdIn K c Pt = true
theorem DFT.ok {P : Program} {w : World} {K : PySem.W.Frag} {mg : Str→Option Value} {base : Heap} {x : Str} {st : Stmt} {N ps : List Str} {k : Nat} {sp : Sp} {c Pt : Addr} (D : DFT K mg x st ps c Pt) (S : zao N ps (zai st)) (len : ∀ vs H Q E,sp vs H Q E→vs.length = ps.length)
  (hbody : ∀ (f : Addr) (A : Around) (outer : List Env) (s : Shared) (H : Hp) (vs : List V) (Q : VK) (E : XK),Room k (A.deeper (envOfC x (zai st) s.heap.objs.size f (.ref c)))→sp vs H Q E→
   ∃ t,PSs (cxOf CX0 P w K mg base N x (zai st) f (.ref c) A outer s H E).nox (zbP st) t∧t { nx:=fun _ H'=>Q .non H',rt:=Q } (zcp N vs) H) : FC P w K mg base (k + 1) x ps sp:=by
 obtain ⟨f,oc,od,kV,dc,pm,an,ct,osl,lk,hcd,kp,m,bd⟩:=D.ex
 refine ⟨f,_,fn_of lk hcd S len fun A outer s H vs Q E hr hsp=>?_,bd,kp,m,oc,od,osl,lk⟩
 obtain ⟨t,h,q⟩:=hbody f A outer s H vs Q E hr hsp
 exact ⟨t,h.nox,q⟩
theorem zeH {K : PySem.W.Frag} {x : Str} {c Pt f : Addr} {oc : Value} {od : Option Addr} {fd : FuncData} {sl : Array (Option Value)} (a : PySem.W.nsIn K mainGlobals x = some (some (.ref f))) (l : K.lookup f = some ⟨oc,od,.func fd,sl⟩) (t : PySem.W.tabIn K x = some (c,Pt)) : fd.code = .ref c:=by
 unfold PySem.W.tabIn at t
 rw [a] at t
 dsimp only at t
 rw [l] at t
 dsimp only at t
 split at t
 ·rename_i c2 hc
  split at t
  ·split at t
   ·cases t
    exact hc
   ·cases t
  ·cases t
 ·cases t
end L2
namespace L2
open PySem PySem.Spec PyProof.Rows
theorem zi5 {X : Cx} {params : Arguments} {body : Expr} {scope osc : Scope} {N ps caps : List Str} {cap : List Nat} (sc : zgS scope ps caps)
  (h1 : ∀ p∈scope.names,p.2 = NameKind.free→osc.names.lookup p.1 = some NameKind.cell) (h2 : ∀ p∈caps.zip cap,N[p.2]? = some p.1∧osc.names.lookup p.1 = some NameKind.cell) (hl : caps.length = cap.length)
  (ho : X.env.scope = osc) (hN : X.N = N) (d : defaultsOf params X.env = ([],[]))
  (b : ∀ (cl : List (Str×Addr)) (pm cdv ct : Value) (us : List Value),us.length = ps.length→bindArgs (PySem.W.kla_fn "<lambda>" (X.env.qual ++ "<lambda>") params body scope cl pm cdv ct) ⟨us,[]⟩ = pure (ps.zip us))
  (o : ∀ x,X.fn x = true) : zir X params body scope ps caps cap:=by
 have hk : ∀ x,X.env.kindOf x = osc.names.lookup x:=fun x=>by
  unfold Env.kindOf
  rw [ho]
 refine ⟨sc,fun x hx=>.inl ?_,fun j x hj=>?_,d,b,o⟩
 ·rw [hk]
  exact h1 (x,.free) hx rfl
 ·have hj':=(List.getElem?_eq_some_iff.mp hj).1
  have hc : cap[j]? = some (cap[j]'(by omega)):=List.getElem?_eq_getElem _
  have hz : (caps.zip cap)[j]? = some (x,cap[j]'(by omega)):=by
   rw [List.getElem?_zip_eq_some]
   exact ⟨hj,hc⟩
  obtain ⟨a1,a2⟩:=h2 _ (List.mem_of_getElem? hz)
  refine ⟨_,hc,?_,.inl ?_⟩
  ·rw [hN]
   exact a1
  ·rw [hk]
   exact a2
end L2
namespace L2
open PySem PySem.Spec PyProof.Rows
structure Sub (K : PySem.W.Frag) (mg : Str→Option Value) (b1 b2 : Heap) : Prop where
 mod : Mod K mg b1
 get : ∀ b o,b1.get? b = some o→b2.get? b = some o
 size : b1.objs.size≤b2.objs.size
theorem Sub.trans {K : PySem.W.Frag} {mg : Str→Option Value} {b1 b2 b3 : Heap} (x : Sub K mg b1 b2) (y : Sub K mg b2 b3) : Sub K mg b1 b3:=⟨x.mod,fun b o e=>y.get b o (x.get b o e),Nat.le_trans x.size y.size⟩
section
variable {P : Program} {w : World} {K : PySem.W.Frag} {mg : Str→Option Value} {b1 b2 : Heap} {k : Nat} {f : Addr} {ps : List Str} {sp : Sp}
theorem FnOk.lift {CX : CXT} {fd : FuncData} (F : FnOk P w K mg b1 CX k f fd ps sp) (S : Sub K mg b1 b2) : FnOk P w K mg b2 CX k f fd ps sp:=
 ⟨F.len,fun A outer s H args us vs Q E hr e0=>F.run A outer s H args us vs Q E hr ⟨e0.frames,S.mod,fun b o e=>e0.bs b o (S.get b o e),Nat.le_trans S.size e0.bsz,zdJ e0.funs (fun b hb=>by
  cases q : b1.get? b with
  | none=>rfl
  | some o=>
   have z:=(e0.funs.mem hb).1
   rw [S.get b o q] at z
   exact nomatch z),e0.frf,e0.hok,e0.bare⟩⟩
theorem FV.lift (F : FV P w K mg b1 k f ps sp) (S : Sub K mg b1 b2) : FV P w K mg b2 k f ps sp:=by
 obtain ⟨fd,ok,bd,oc,od,fd2,sl,ho⟩:=F.ex
 exact ⟨fd,FnOk.lift ok S,bd,oc,od,fd2,sl,S.get _ _ ho⟩
theorem FC.lift {x : Str} (F : FC P w K mg b1 k x ps sp) (S : Sub K mg b1 b2) : FC P w K mg b2 k x ps sp:=by
 obtain ⟨f,fd,ok,r⟩:=F.ex
 exact ⟨f,fd,FnOk.lift ok S,r⟩
theorem BMAt.lift (h : BMAt mg b1) (S : Sub K mg b1 b2) : BMAt mg b2:=by
 obtain ⟨bm,o,h1,h2,h3,h4,h5⟩:=h
 exact ⟨bm,o,h1,h2,h3,S.get _ _ h4,h5⟩
end
def tCallW (P : Program) (w : World) (K : PySem.W.Frag) (mg : Str→Option Value) (base : Heap) (kr : Nat) (tf : TE) (t : TA) : TE:=fun σ H Q=>tf σ H fun x H1=>∃ f k ps sp,x = .ref f∧FV P w K mg base k f ps sp∧k≤kr∧t σ H1 fun vs H2=>sp vs H2 Q E0
theorem zmi (P : Program) (w : World) (K : PySem.W.Frag) (mg : Str→Option Value) (base : Heap) {X : Cx} {kr : Nat} {x : Str} {e : Expr} {es : List Expr} {tf : TE} {t : TA} {p pos : Pos} (hr : Room kr X.A) (hf : PE X (.Name x p) tf) (ha : PA X (e :: es) t)
  (h1 : X.prog = P:=by rfl) (h2 : X.w = w:=by rfl) (h3 : X.K = K:=by rfl) (h4 : X.mg = mg:=by rfl) (h5 : X.base = base:=by rfl)
  (he : starEach (e :: es) X.env = (false,eval e X.env) :: starEach es X.env:=by rfl) (hpl : (backTo pos (starEach es X.env)).any (·.1) = false:=by rfl) : PE X (.Call (.Name x p) (e :: es) [] pos) (tCallW P w K mg base kr tf t):=by
 subst h1 h2 h3 h4 h5
 exact zgq hr hf ha he hpl
section
variable {X : Cx} {pins : List (Addr×Obj)} {σ : St} {H : Hp} {s : Shared}
theorem zep (I : Inv X pins σ H s) : Sub X.K X.mg X.base (zbN X s H):=⟨I.ok.mod,zf6 I,Nat.le_trans I.env0.bsz (Nat.le_of_eq (PySem.W.hideAll_size _ _).symm)⟩
def zl0 (X : Cx) (n kf : Nat) (ps : List Str) (cap : List Nat) (Pt : Addr) (lpos : Pos) (tb : Heap→TE) (σ : St) (H1 : Hp) (q : Heap→Addr→Hp→Prop) : Prop:=zaG H1 Pt lpos (X.env.qual ++ "<lambda>")∧∃ vcs : List V,vcs.length = n∧(∀ (j i : Nat) (v : V),cap[j]? = some i→vcs[j]? = some v→σ[i]? = some (some v))∧
 ∀ (base : Heap) (f c' : Addr) (H2 : Hp),Gro Pt H1 H2→zaG H2 Pt lpos (X.env.qual ++ "<lambda>")→zdD H2 c' (X.env.qual ++ "<lambda>")→Sub X.K X.mg X.base base→FV X.prog X.w X.K X.mg base kf f ps (zhM ps.length (tb base) vcs c' (X.env.qual ++ "<lambda>"))→q base f H2
theorem zny {params : Arguments} {body : Expr} {scope : Scope} {ps caps : List Str} {cap : List Nat} {f c' : Addr} {cl : List (Str×Addr)} {pm ctv : Value} {vcs : List V} {tb : TE} {k n : Nat} (I : Inv X pins σ H s) (L : zir X params body scope ps caps cap) (hcl : zf8 scope X.env cl)
  (ho : s.heap.get? f = some (PySem.W.kla_obj "<lambda>" (X.env.qual ++ "<lambda>") params body scope cl pm c' ctv)) (hn : H f = none) (hfr : ∀ b∈frs X.stack,b < n) (hge : n≤f)
  (hv : vcs.length = caps.length) (hvs : ∀ (j i : Nat) (v : V),cap[j]? = some i→vcs[j]? = some v→σ[i]? = some (some v))
  (hb : ∀ (f : Addr) (cd : Value) (cl : List (Str×Addr)) (A : Around) (outer : List Env) (s1 : Shared) (H1 : Hp),Room k (A.deeper (PySem.W.envX (X.env.qual ++ "<lambda>") scope s1.heap.objs.size f cd cl))→PE (zht X.prog X.w X.K X.mg (zbN X s H) (ps ++ caps) (X.env.qual ++ "<lambda>") scope f cd cl A outer s1 H1) body tb) :
  FV X.prog X.w X.K X.mg (zbN X s H) (k + 1) f ps (zhM ps.length tb vcs c' (X.env.qual ++ "<lambda>")):=by
 have nf : f∉frs X.stack:=fun z=>absurd (Nat.lt_of_lt_of_le (hfr f z) hge) (Nat.lt_irrefl _)
 have hbf:=zcD (X:=X) ho hn nf
 have cellB : ∀ x a v,X.env.cells.lookup x = some a→s.heap.IsCell a v→(zbN X s H).IsCell a v:=fun x a v e ⟨o,h1,h2⟩=>by
  refine ⟨o,zcD h1 (I.freeC x a e) fun z=>?_,h2⟩
  rcases List.mem_cons.mp (I.stkSub a z) with y | y
  ·exact I.cne x a e y
  ·obtain ⟨_,o2,h3,_⟩:=I.ok.funs.mem y
   exact absurd (Nat.lt_of_lt_of_le (Heap.lt_size h3) (I.ok.cab x a (L.own x) e)) (Nat.lt_irrefl _)
 refine ⟨_,znw L.sc hbf hv (fun j x v h1 h2=>?_) (fun x a e=>?_) (fun x y a h1 h2=>I.ok.inj x y a (hcl.sub x a h1) (hcl.sub y a h2)) (fun x e=>?_) (fun A outer s H hr=>hb f _ cl A outer s H hr),.all (L.binds cl pm (.ref c') ctv),⟨_,_,_,_,hbf⟩⟩
 ·obtain ⟨i,e1,e2,e3⟩:=L.capAt j x h1
  obtain ⟨m,hm,hl⟩:=I.loc
  obtain ⟨u,ru,lk⟩:=hl i x v e2 (hvs j i v e1 h2) (by
   rcases e3 with z | z
   ·exact .inr (.inl z)
   ·exact .inr (.inr z))
  rcases lk with ⟨z,_⟩ | ⟨_,a,e4,e5⟩
  ·rcases e3 with y | y
   ·rw [y] at z; cases z
   ·rw [y] at z; cases z
  ·obtain ⟨a',e6⟩:=hcl.has x (PySem.mem_of_lookup (L.sc.cap x (List.mem_of_getElem? h1)))
   have e7:=hcl.sub x a' e6
   rw [e4] at e7
   cases e7
   exact ⟨a,u,e6,cellB x a _ e4 e5,ru⟩
 ·obtain ⟨v,z⟩:=I.cell x a (hcl.sub x a e)
  exact ⟨v,cellB x a v (hcl.sub x a e) z⟩
 ·exact hcl.has x (PySem.mem_of_lookup e)
theorem zmG {params : Arguments} {body : Expr} {scope : Scope} {lpos : Pos} {tb : Heap→TE} {kf : Nat} {c Pt : Addr} {ps caps : List Str} {cap : List Nat} {q : Heap→Addr→Hp→Prop} {Qv : List Value→Shared→Prop} (I : Inv X pins σ H s)
  (L : zir X params body scope ps caps cap) (hcode : X.env.code = .ref c) (hC : PySem.W.codeHdIn X.K c Pt = true) (hBM : BMAt X.mg X.base)
  (hb : ∀ (base : Heap) (f : Addr) (cd : Value) (cl : List (Str×Addr)) (A : Around) (outer : List Env) (s : Shared) (H : Hp),Sub X.K X.mg X.base base→Room kf (A.deeper (PySem.W.envX (X.env.qual ++ "<lambda>") scope s.heap.objs.size f cd cl))→PE (zht X.prog X.w X.K X.mg base (ps ++ caps) (X.env.qual ++ "<lambda>") scope f cd cl A outer s H) body (tb base))
  (hg : zl0 X caps.length (kf + 1) ps cap Pt lpos tb σ H q) (h : ∀ f H2 s2,Inv X pins σ H2 s2→q (zbN X s2 H2) f H2→Qv [.ref f] s2) : wpAny (model X.prog X.w) X.A (spliced [(false,eval (.Lambda params body scope lpos) X.env)]) Qv X.xe s:=by
 obtain ⟨hT,vcs,hv,hvs,q⟩:=hg
 refine Calls.spliced_cons (zgD I L.dflt L.frees hcode hC hBM hT fun f c' cl pm ctv H2 s2 hcl I2 ho hn hge hgr hT2 hca=>?_)
 have S:=zep I2
 have hF:=zny (k:=kf) (n:=s.heap.objs.size) (tb:=tb (zbN X s2 H2)) I2 L hcl ho hn (fun b hb=>by
  obtain ⟨_,o,e,_⟩:=I.stack.mem hb
  exact Heap.lt_size e) hge hv hvs (fun f cd cl A outer s H hr=>hb _ f cd cl A outer s H S hr)
 exact Calls.spliced_nil (h f H2 s2 I2 (q _ f c' H2 hgr hT2 hca S hF))
theorem znz {x : Str} {qs : List Str} {sp : Sp} {j k : Nat} {g : Addr} {Q : VK} {us : List Value} {vs : List V} (I : Inv X pins σ H s) (m : X.mg x = some (.ref g)) (F : FC X.prog X.w X.K X.mg (zbN X s H) j x qs sp) (hr : Room k X.A) (hjk : j≤k) (r : Vals vs us) (h : sp vs H Q E0) :
  wpAny (model X.prog X.w) X.A (call (.ref g) us) (EP X pins σ Q) X.xe s:=by
 obtain ⟨g2,fd2,ok,bd,_,m2,_⟩:=F.ex
 rw [m] at m2
 cases m2
 refine wpAny_call (codeAny_mono (ok.run X.A X.stack s H ⟨us,[]⟩ us vs Q E0 (hr.mono hjk) (zfC I) (by simpa using bd s us I.kIn (by rw [List.append_nil,← r.length]; exact ok.len _ _ _ _ h)) r h) fun r s' hq=>?_)
 cases r with
 | error e=>exact False.elim hq
 | ok fl=>
  cases fl with
  | ret u=>exact I.after hq
  | next=>exact False.elim hq
  | brk=>exact False.elim hq
  | cont=>exact False.elim hq
end
section
variable {X : Cx}
def zkg (X : Cx) (n kf : Nat) (ps : List Str) (cap : List Nat) (Pt : Addr) (lpos : Pos) (tb : Heap→TE) (te : TE) (spH : Heap→Sp) : TE:=fun σ H Q=>te σ H fun x1 H1=>zl0 X n kf ps cap Pt lpos tb σ H1 fun base f H2=>spH base [x1,.ref f] H2 Q E0
theorem zhS {x : Str} {qs : List Str} {e1 : Expr} {params : Arguments} {body : Expr} {scope : Scope} {lpos p pos : Pos} {te : TE} {tb : Heap→TE} {spH : Heap→Sp} {j k kf : Nat} {c Pt : Addr} {ps caps : List Str} {cap : List Nat}
  (F : ∀ base,Sub X.K X.mg X.base base→FC X.prog X.w X.K X.mg base j x qs (spH base)) (hr : Room k X.A) (h1 : PE X e1 te) (L : zir X params body scope ps caps cap) (hcode : X.env.code = .ref c) (hC : PySem.W.codeHdIn X.K c Pt = true) (hBM : BMAt X.mg X.base)
  (hb : ∀ (base : Heap) (f : Addr) (cd : Value) (cl : List (Str×Addr)) (A : Around) (outer : List Env) (s : Shared) (H : Hp),Sub X.K X.mg X.base base→Room kf (A.deeper (PySem.W.envX (X.env.qual ++ "<lambda>") scope s.heap.objs.size f cd cl))→PE (zht X.prog X.w X.K X.mg base (ps ++ caps) (X.env.qual ++ "<lambda>") scope f cd cl A outer s H) body (tb base))
  (hjk : j≤k:=by decide) (hg : Gl X x:=by rfl) (hdb : (x == ("__debug__" : Str)) = false:=by decide) (he : starEach [e1,.Lambda params body scope lpos] X.env = (false,eval e1 X.env) :: starEach [.Lambda params body scope lpos] X.env:=by rfl)
  (he2 : starEach [.Lambda params body scope lpos] X.env = [(false,eval (.Lambda params body scope lpos) X.env)]:=by rfl) (hpl : (backTo pos (starEach [.Lambda params body scope lpos] X.env)).any (·.1) = false:=by rfl) :
  PE X (.Call (.Name x p) [e1,.Lambda params body scope lpos] [] pos) (zkg X caps.length (kf + 1) ps cap Pt lpos tb te spH):=by
 intro pins s σ H Q I h
 obtain ⟨g,fd,_,_,kp,m,oc,od,osl,lk⟩:=(F X.base ⟨I.ok.mod,fun _ _ e=>e,Nat.le_refl _⟩).ex
 refine wpAny_Call_Name_kw (zfn I hg m ?_ hdb)
 refine PySem.W.callWith_K (h₀:=X.base) I.ok.mod.kin kp ?_ he hpl
 rw [he]
 show wpAny _ _ (spliced ((false,eval e1 X.env) :: backTo pos (starEach [.Lambda params body scope lpos] X.env))) _ _ s
 refine Calls.spliced_cons (thn (h1 pins s σ H _ I h) fun u s1 ⟨x1,H1,I1,r1,q1⟩=>?_)
 rw [he2]
 show wpAny _ _ (spliced [(false,eval (.Lambda params body scope lpos) X.env)]) _ _ s1
 exact zmG I1 L hcode hC hBM hb q1 fun f H2 s2 I2 hsp=>⟨I2.kIn,znz I2 m (F _ (zep I2)) hr hjk (vs:=[x1,.ref f]) (.cons r1 (.cons rfl .nil)) hsp⟩
def tCallLamB2 (X : Cx) (n kf : Nat) (ps : List Str) (cap : List Nat) (Pt : Addr) (lpos : Pos) (tb : Heap→TE) (te te2 : TE) (spH : Heap→Sp) : TE:=fun σ H Q=>te σ H fun x1 H1=>te2 σ H1 fun x2 H2=>zl0 X n kf ps cap Pt lpos tb σ H2 fun base f H3=>spH base [x1,x2,.ref f] H3 Q E0
end
theorem zmV {K : PySem.W.Frag} {a b : Addr} {xs ys : List V} {g : TG} {tb : TS} {D : Ends} {σ : St} {H : Hp} (hlen : ys.length≤xs.length) (Pv : Nat→St→Hp→Prop) (h0 : Pv 0 σ H) (hl : ∀ i σ H,i≤ys.length→Pv i σ H→SqL K H a xs∧SqL K H b ys)
  (hs : ∀ i x y σ H p,xs[i]? = some x→ys[i]? = some y→Pv i σ H→H p = none→g (.ref p) σ (upd H p (.tup [x,y])) fun σ2 H2=>tb { D with nx:=Pv (i + 1),ct:=Pv (i + 1),bk:=D.nx } σ2 H2) (hd : ∀ σ H,Pv ys.length σ H→D.nx σ H) :
  ∃ W : Nat→Nat→St→Hp→Prop,(∃ m,W 0 m σ H)∧∀ i m σ H,W i m σ H→((Itz K a b).stop i H∧D.nx σ H)∨((Itz K a b).go i H∧∃ N : St→Hp→Prop,(∀ σ' H',N σ' H'→∃ m',m' < m∧W (i + 1) m' σ' H')∧∀ x H',(Itz K a b).yld i H x H'→g x σ H' fun σ2 H2=>tb { D with nx:=N,ct:=N,bk:=D.nx } σ2 H2):=by
 refine ⟨fun i m σ H=>i + m = ys.length∧Pv i σ H,⟨ys.length,by omega,h0⟩,fun i m σ H ⟨e,pv⟩=>?_⟩
 obtain ⟨hS,hS'⟩:=hl i σ H (by omega) pv
 by_cases hi : i < ys.length
 ·refine .inr ⟨⟨xs,ys,xs[i]'(by omega),ys[i],hS,hS',List.getElem?_eq_getElem (by omega),List.getElem?_eq_getElem hi⟩,Pv (i + 1),fun σ' H' q=>⟨m - 1,by omega,by omega,q⟩,fun x H' y=>?_⟩
  obtain ⟨p,z,z',rfl,hp,hz,hz',rfl⟩:=y
  exact hs i z z' σ H p (hz xs hS) (hz' ys hS') pv hp
 ·have : i = ys.length:=by omega
  subst this
  exact .inl ⟨⟨xs,ys,hS,hS',.inr (Nat.le_refl _)⟩,hd σ H pv⟩
end L2
namespace L2
open PySem PySem.Spec PyProof.Rows
section
variable {X : Cx}
def zl9 (X : Cx) (n kf : Nat) (ps : List Str) (cap : List Nat) (Pt : Addr) (lpos : Pos) (tb : Heap→TE) (ix iy : Nat) (te te2 : TE) (spH : Heap→Sp) (u : TS) : TS:=fun D σ H=>zaG H Pt lpos (X.env.qual ++ "<lambda>")∧∃ vcs : List V,vcs.length = n∧(∀ (j i : Nat) (v : V),cap[j]? = some i→vcs[j]? = some v→σ[i]? = some (some v))∧
 ∀ (f c' : Addr) (H2 : Hp),Gro Pt H H2→zaG H2 Pt lpos (X.env.qual ++ "<lambda>")→zdD H2 c' (X.env.qual ++ "<lambda>")→te (σ.set ix (some (.ref f))) H2 fun x1 H3=>te2 (σ.set ix (some (.ref f))) H3 fun x2 H4=>
  ∀ base : Heap,Sub X.K X.mg X.base base→FV X.prog X.w X.K X.mg base kf f ps (zhM ps.length (tb base) vcs c' (X.env.qual ++ "<lambda>"))→spH base [x1,x2,.ref f] H4 (fun v H5=>u D ((σ.set ix (some (.ref f))).set iy (some v)) H5) E0
theorem zff {x y g : Str} {ix iy : Nat} {qs : List Str} {e1 e2 : Expr} {params : Arguments} {body : Expr} {scope : Scope} {lpos px py p p3 pos pos1 pos2 : Pos} {te te2 : TE} {tb : Heap→TE} {spH : Heap→Sp} {j k kf : Nat} {c Pt : Addr} {ps caps : List Str} {cap : List Nat} {rest : List Stmt} {u : TS}
  (hN : X.N.Nodup) (hix : X.N[ix]? = some x) (hlx : Loc X.env.scope x) (hiy : X.N[iy]? = some y) (hly : Loc X.env.scope y) (hni : ix∉cap) (L : zir X params body scope ps caps cap) (hcode : X.env.code = .ref c) (hC : PySem.W.codeHdIn X.K c Pt = true) (hBM : BMAt X.mg X.base)
  (hb : ∀ (base : Heap) (f : Addr) (cd : Value) (cl : List (Str×Addr)) (A : Around) (outer : List Env) (s : Shared) (H : Hp),Sub X.K X.mg X.base base→Room kf (A.deeper (PySem.W.envX (X.env.qual ++ "<lambda>") scope s.heap.objs.size f cd cl))→PE (zht X.prog X.w X.K X.mg base (ps ++ caps) (X.env.qual ++ "<lambda>") scope f cd cl A outer s H) body (tb base))
  (F : ∀ base,Sub X.K X.mg X.base base→FC X.prog X.w X.K X.mg base j g qs (spH base)) (hr : Room k X.A) (h1 : PE X e1 te) (h2 : PE X e2 te2) (hv : PE X (.Name x p3) (tVar ix)) (hrest : PSs X rest u)
  (hjk : j≤k:=by decide) (hg : Gl X g:=by rfl) (hdb : (g == ("__debug__" : Str)) = false:=by decide)
  (he : starEach [e1,e2,.Name x p3] X.env = (false,eval e1 X.env) :: starEach [e2,.Name x p3] X.env:=by rfl) (he2 : starEach [e2,.Name x p3] X.env = [(false,eval e2 X.env),(false,eval (.Name x p3) X.env)]:=by rfl) (hpl : (backTo pos (starEach [e2,.Name x p3] X.env)).any (·.1) = false:=by rfl)
  (hs1 : swapsWith (.Lambda params body scope lpos) (some (.Name x px)) pos1.line X.env = pure false:=by rfl) (hs2 : swapsWith (.Call (.Name g p) [e1,e2,.Name x p3] [] pos) (some (.Name y py)) pos2.line X.env = pure false:=by rfl)
  (hf1 : X.fn x = true∨X.env.scope.names.lookup x = some .local:=by first | exact .inl rfl | exact .inr rfl | assumption) (hf2 : X.fn y = true∨X.env.scope.names.lookup y = some .local:=by first | exact .inl rfl | exact .inr rfl | assumption) :
  PSs X (.Assign [.Name x px] (.Lambda params body scope lpos) pos1 :: .Assign [.Name y py] (.Call (.Name g p) [e1,e2,.Name x p3] [] pos) pos2 :: rest) (zl9 X caps.length (kf + 1) ps cap Pt lpos tb ix iy te te2 spH u):=by
 intro pins s σ H D I h
 obtain ⟨hT,vcs,hvl,hvs,q⟩:=h
 obtain ⟨ga,fd,_,_,kp,m,oc,od,osl,lk⟩:=(F X.base ⟨I.ok.mod,fun _ _ e=>e,Nat.le_refl _⟩).ex
 refine wpAny_execs_cons (wpAny_Assign_Name (zgD I L.dflt L.frees hcode hC hBM hT fun f c' cl pm ctv H2 s2 hcl I2 ho hn hge hgr hT2 hca=>?_) hs1)
 have Ip : Inv X (pins ++ zfj [f] s2.heap) σ H2 s2:=I2.pinned (fun b hb=>by
  rw [List.mem_singleton.mp hb]
  exact I.fpOk hge hn) (fun b hb=>by
  rw [List.mem_singleton.mp hb]
  exact ⟨_,ho,fun v z=>nomatch z⟩)
 have hpm:=zcy (fp:=[f]) List.mem_cons_self ho
 generalize zfj [f] s2.heap = pl at Ip hpm
 refine zeI Ip hN hix hlx (show RelV (.ref f) (.ref f) from rfl) (fun s3 I3=>?_) hf1
 have hsf : (σ.set ix (some (V.ref f)))[ix]? = some (some (.ref f)):=List.getElem?_set_self (by rw [I.len]; exact (List.getElem?_eq_some_iff.mp hix).1)
 have q1:=q f c' H2 hgr hT2 hca
 refine wpAny_execs_cons (wpAny_Assign_Name (wpAny_Call_Name_kw (zfn I3 hg m ?_ hdb)) hs2)
 refine PySem.W.callWith_K (h₀:=X.base) I3.ok.mod.kin kp ?_ he hpl
 rw [he]
 show wpAny _ _ (spliced ((false,eval e1 X.env) :: backTo pos (starEach [e2,.Name x p3] X.env))) _ _ s3
 refine Calls.spliced_cons (thn (h1 _ s3 _ H2 _ I3 q1) fun u1 s4 ⟨x1,H4,I4,r1,q4⟩=>?_)
 rw [he2]
 show wpAny _ _ (spliced ((false,eval e2 X.env) :: [(false,eval (.Name x p3) X.env)])) _ _ s4
 refine Calls.spliced_cons (thn (h2 _ s4 _ H4 _ I4 q4) fun u2 s5 ⟨x2,H5,I5,r2,q5⟩=>?_)
 refine Calls.spliced_cons (thn (hv _ s5 _ H5 (fun v H6=>v = .ref f∧H6 = H5) I5 ⟨_,hsf,rfl,rfl⟩) fun u3 s6 ⟨x3,H6,I6,r3,e3,e6⟩=>?_)
 subst e3 e6
 have r3' : u3 = .ref f:=r3
 subst r3'
 obtain ⟨hof,hnf,_⟩:=I6.pin _ (List.mem_append_right _ (List.mem_append_right _ hpm))
 have S:=zep I6
 have hF:=zny (k:=kf) (n:=s.heap.objs.size) (tb:=tb (zbN X s6 H6)) I6 L hcl hof hnf (fun b hb=>by
  obtain ⟨_,o,e,_⟩:=I.stack.mem hb
  exact Heap.lt_size e) hge hvl (fun j i v h1 h2=>by
  rw [List.getElem?_set_ne (fun z=>hni (by rw [z]; exact List.mem_of_getElem? h1))]
  exact hvs j i v h1 h2) (fun f cd cl A outer s H hr=>hb _ f cd cl A outer s H S hr)
 refine Calls.spliced_nil ⟨I6.kIn,?_⟩
 refine thn (znz I6 m (F _ S) hr hjk (vs:=[x1,x2,.ref f]) (.cons r1 (.cons r2 (.cons rfl .nil))) (q5 _ S hF)) fun v s7 ⟨w7,H7,I7,r7,q7⟩=>?_
 exact zeI I7 hN hiy hly r7 (fun s8 I8=>hrest pins s8 _ H7 D I8.unpinned q7) hf2
end
end L2
namespace DictP
open PySem PySem.Spec PyProof.Rows
set_option autoImplicit false
set_option maxRecDepth 100000
theorem zhh : typeLookup (.type "list") "keys" = pure none:=by rw [typeLookup_type,builtinLookup_eq_fast]; kernel_rfl
section
variable {prog : Program} {w : World} {A : Around} {E : Value→Shared→Prop} {a : Addr} {o : Obj} {h : Heap} {g : Array GenState} {d : Drawn} {t : Nat} {os : OsState} {xs : Array Value} {n : Nat} {sl : Array (Option Value)}
theorem zjL {tk : Tok} {Q : Fin→Shared→Prop} (hh : A.handled = none) (hx : h.get? a = some { cls:=.type "list",dict:=none,data:=.seq xs n,slots:=sl })
  (q : ∀ h' t' e,(∀ b u,h.get? b = some u→h'.get? b = some u)→(⟨h',g,d,t',os⟩ : Shared).TypeIs (.ref e) "AttributeError"→E (.ref e) ⟨h',g,d,t',os⟩) :
  wpAny (model prog w) A (Builtin.«object.__getattribute__» ⟨[.ref a,.str "keys" tk],[]⟩) Q E ⟨h,g,d,t,os⟩:=by
 have hT : (⟨h,g,d,t,os⟩ : Shared).TypeIs (.ref a) "list":=⟨_,hx,rfl⟩
 have f4:=zhh
 repeat (any_goals (first | assumption | wp_step))
 have hm : (Str.ofString (toString "'" ++ toString ((Manifest.find? "list").elim "list" fun x=>x.tpName) ++ toString "' object has no attribute '") ++ Str.ofString "keys" ++ Str.ofString "'").length≤sizeLine:=by decide +kernel
 generalize (Str.ofString (toString "'" ++ toString ((Manifest.find? "list").elim "list" fun x=>x.tpName) ++ toString "' object has no attribute '") ++ Str.ofString "keys" ++ Str.ofString "'") = msg at hm ⊢
 unfold raiseAttrError
 refine wpAny_bind (wpAny_mkStr (wpAny_bind ?_) hm)
 unfold newExc newTuple
 refine wpAny_bind (wpAny_newObj_type ?_)
 refine wpAny_bind (m:=firstArgMember _ _) (wpAny_of_eq (a:=Value.none) (by rfl) ?_)
 refine wpAny_newObj_type ?_
 refine wpAny_bind (wpAny_mkText ?_)
 have hX:=Heap.get?_push_size (h.push { cls:=.type "tuple",data:=.seq #[Value.str msg t] }) (o:={ cls:=.type "AttributeError",data:=.fields (#[.ref h.objs.size,.none,.none,.none,.bool false,.none] ++ #[unsetMember,unsetMember]) }) rfl
 have hk : ∀ b u,h.get? b = some u→((h.push { cls:=.type "tuple",data:=.seq #[Value.str msg t] }).push { cls:=.type "AttributeError",data:=.fields (#[.ref h.objs.size,.none,.none,.none,.bool false,.none] ++ #[unsetMember,unsetMember]) }).get? b = some u:=fun b u e=>Heap.get?_push_of_some _ (Heap.get?_push_of_some _ e)
 have hne : h.get? (h.push { cls:=.type "tuple",data:=.seq #[Value.str msg t] }).objs.size = none:=Heap.get?_none_of_le (by simp)
 show wpAny (model prog w) A (noteAttr (.ref (h.push { cls:=.type "tuple",data:=.seq #[Value.str msg t] }).objs.size) (.ref a) (.str "keys" (t + 1)) >>= fun _=>raiseNew (.ref (h.push { cls:=.type "tuple",data:=.seq #[Value.str msg t] }).objs.size)) Q E ⟨(h.push { cls:=.type "tuple",data:=.seq #[Value.str msg t] }).push { cls:=.type "AttributeError",data:=.fields (#[.ref h.objs.size,.none,.none,.none,.bool false,.none] ++ #[unsetMember,unsetMember]) },g,d,t + 2,os⟩
 generalize (h.push { cls:=.type "tuple",data:=.seq #[Value.str msg t] }).push { cls:=.type "AttributeError",data:=.fields (#[.ref h.objs.size,.none,.none,.none,.bool false,.none] ++ #[unsetMember,unsetMember]) } = h2 at hX hk ⊢
 generalize (h.push { cls:=.type "tuple",data:=.seq #[Value.str msg t] }).objs.size = e at hX hne ⊢
 generalize (Value.ref h.objs.size) = r0 at hX
 unfold noteAttr
 dsimp only
 have hTe : (⟨h2,g,d,t + 2,os⟩ : Shared).TypeIs (.ref e) "AttributeError":=⟨_,hX,rfl⟩
 refine wpAny_bind (wpAny_bind ?_)
 unfold lacksNameAndObj
 dsimp only
 refine wpAny_bind (wpAny_isInstance (T := "AttributeError") (b:=true) hTe (by rw [isSubtype_type]; kernel_rfl) ?_)
 simp only [Bool.not_true,Bool.false_eq_true,if_false]
 refine wpAny_bind (wpAny_load hX ?_)
 dsimp only
 have i6 : (#[r0,Value.none,Value.none,Value.none,Value.bool false,Value.none] ++ #[unsetMember,unsetMember])[6]? = some unsetMember:=by simp
 have i7 : (#[r0,Value.none,Value.none,Value.none,Value.bool false,Value.none] ++ #[unsetMember,unsetMember])[7]? = some unsetMember:=by simp
 refine wpAny_ite_split (fun z=>absurd z (by rw [i6,i7]; decide)) (fun _=>?_)
 refine wpAny_ite_split (fun z=>absurd z (by rw [i6,i7]; decide)) (fun _=>?_)
 refine wpAny_pure ?_
 rw [if_pos rfl]
 refine wpAny_bind (wpAny_rule (wpAny_bind (wpAny_typeOf hTe ?_)))
 dsimp only
 unfold layMembers
 refine wpAny_bind (wpAny_load hX ?_)
 dsimp only
 refine wpAny_update (s:=⟨h2,g,d,t + 2,os⟩) hX ?_
 unfold raiseNew
 refine wpAny_bind (wpAny_handled ?_)
 rw [hh]
 first
  | refine wpAny_throw ?_
  | refine wpAny_bind (wpAny_pure (wpAny_throw ?_))
 refine q _ _ e (fun b u eb=>?_) ⟨_,Heap.get?_update_self _ hX (Obj.isFreed_of_fields (Obj.data_mapFields rfl _)),rfl⟩
 have nb : b≠e:=fun z=>by
  rw [z,hne] at eb
  cases eb
 exact (Heap.get?_update_other _ _ (Ne.symm nb)).trans (hk b u eb)
theorem zlk {tk : Tok} {R : Result→Shared→Prop} (hh : A.handled = none) (hx : h.get? a = some { cls:=.type "list",dict:=none,data:=.seq xs n,slots:=sl })
  (q : ∀ h' t' e,(∀ b u,h.get? b = some u→h'.get? b = some u)→(⟨h',g,d,t',os⟩ : Shared).TypeIs (.ref e) "AttributeError"→R (.error (.ref e)) ⟨h',g,d,t',os⟩) :
  codeAny (model prog w) A (.call (.builtin "list.__getattribute__") ⟨[.ref a,.str "keys" tk],[]⟩) R ⟨h,g,d,t,os⟩:=
 codeAny_call_builtin F.slot_list_getattribute.plain F.entry_list_ga (F.slot_list_getattribute.check _ _ _ _ _ _ _ _ (show (⟨h,g,d,t,os⟩ : Shared).TypeIs (.ref a) "list" from ⟨_,hx,rfl⟩) (F.args_list_getattribute_2 _ _) (zjL (A:=A.in1) hh hx q))
theorem zli {Q : Option Value→Shared→Prop} (hh : A.handled = none) (hx : h.get? a = some { cls:=.type "list",dict:=none,data:=.seq xs n,slots:=sl })
  (q : ∀ h' t',(∀ b u,h.get? b = some u→h'.get? b = some u)→Q none ⟨h',g,d,t',os⟩) : wpAny (model prog w) A (getAttr? (.ref a) "keys") Q E ⟨h,g,d,t,os⟩:=by
 have hT : (⟨h,g,d,t,os⟩ : Shared).TypeIs (.ref a) "list":=⟨_,hx,rfl⟩
 have f2:=F.slot_list_getattribute.lookup
 have f3:=F.slot_list_getattribute.bind (.ref a)
 have f5 : typeLookup (.type "list") "__getattr__" = pure none:=by rw [typeLookup_type,builtinLookup_eq_fast]; kernel_rfl
 unfold getAttr? getAttrBy?
 repeat (any_goals (first | assumption | wp_step))
 refine zlk hh hx fun h' t' e k ty=>?_
 have su : isSubtype (.type "AttributeError") (.type "AttributeError") = pure true:=by rw [isSubtype_type]; kernel_rfl
 show wpAny (model prog w) A (getattributeRaised (.ref a) (.str "keys" t) (.type "list") (.ref e) none false false) _ _ _
 unfold getattributeRaised
 refine wpAny_bind (wpAny_isInstance ty su ?_)
 rw [if_pos rfl]
 refine wpAny_bind (?_ : wpAny _ _ (typeLookup (.type "list") "__getattr__") _ _ _)
 rw [f5]
 refine wpAny_pure ?_
 show wpAny _ _ (throw (Value.ref e)) _ _ _
 refine wpAny_throw ?_
 show wpAny _ _ (do let b ← isInstance (.ref e) (.type "AttributeError"); if b = true then pure none else throw (Value.ref e)) _ _ _
 refine wpAny_bind (wpAny_isInstance ty su ?_)
 exact wpAny_pure (q h' t' k)
end
end DictP
namespace DictP
open PySem PySem.Spec PyProof.Rows L2
set_option autoImplicit false
set_option maxRecDepth 100000
theorem zhr : entryFor table "dict.update.loop" = some Builtin.«dict.update.loop»:=entryFor_of_tree (by kernel_rfl)
theorem zd2 : plainId "dict.update.loop" = true:=by decide +kernel
theorem zju {K : Type} [DecidableEq K] {kvs : List (K×Value)} {k : K} {v : Value} (h : k∉kvs.map (·.1)) : stored kvs k v = kvs ++ [(k,v)]:=by
 unfold stored
 rw [if_neg fun z=>?_]
 obtain ⟨kv,h1,h2⟩:=List.any_eq_true.mp z
 exact h (List.mem_map.mpr ⟨kv,h1,of_decide_eq_true h2⟩)
section
variable {prog : Program} {w : World} {A : Around} {R : Result→Shared→Prop} {I : Addr} {fp wr : List Addr} {G : Array GenState→Array GenState→Prop} {n : Nat} {P : Nat→Value→Prop} {St : Nat→Shared→Prop}
theorem zjz {h0 : Heap} (W : WalksS prog w A.in1 I fp wr G n P St) (d : Addr) (hdf : d∉fp) (res : Value) (kvs : List (Key×Value)) (hn : n = kvs.length) (hnd : (kvs.map (·.1)).Nodup)
  (hP : ∀ i v,P i v→∃ tp key k val,v = .ref tp∧tp≠d∧tp∉wr∧h0.IsTuple tp #[key,val]∧(zaD prog w).is k key = true∧kvs[i]? = some (k,val)) (hz : kvs.length≤sizeLine) :
  ∀ (j i : Nat) (s : Shared) (tk : Tok),n - i = j→i≤n→St i s→(∀ b o,b≠d→b∉wr→h0.get? b = some o→s.heap.get? b = some o)→s.heap.DictOf (zaD prog w) d (kvs.take i)→
   (∀ s',Moved (d :: wr) G s s'→s'.heap.DictOf (zaD prog w) d kvs→R (.ok (.ret res)) s')→codeAny (model prog w) A (.builtin "dict.update.loop" ⟨[.ref d,.ref I,.int i tk,res],[]⟩) R s:=by
 have hdw : d∉wr:=fun h=>hdf (W.sub _ h)
 have up : ∀ b∈wr,b∈d :: wr:=fun b hb=>List.mem_cons_of_mem _ hb
 intro j
 induction j with
 | zero=>
  intro i s tk hj hi st hk hd q
  have e : i = n:=by omega
  subst e
  refine codeAny_builtin zhr ?_
  rw [Around.under_plainId zd2 _]
  show wpAny _ A.in1 (pyNext (.ref I) >>= _) _ _ s
  refine wpAny_bind (W.done s _ _ st fun s' hm=>?_)
  refine wpAny_bind (?_ : wpAny _ A.in1 (Builtin.Dict.addKeywords d []) _ _ s')
  refine wpAny_pure (wpAny_pure (q s' (hm.mono up) ?_))
  obtain ⟨o,es,ep,ho,r⟩:=hd
  rw [hn,List.take_length] at r
  exact ⟨o,es,ep,hm.heap d o hdw ho,r⟩
 | succ j ih=>
  intro i s tk hj hi st hk hd q
  have hlt : i < n:=by omega
  refine codeAny_builtin zhr ?_
  rw [Around.under_plainId zd2 _]
  show wpAny _ A.in1 (pyNext (.ref I) >>= _) _ _ s
  refine wpAny_bind (W.item i s _ _ hlt st fun v s' hPi st' hm=>?_)
  obtain ⟨tp,key,k,val,rfl,ntd,ntw,ht,hkey,hkv⟩:=hP i v hPi
  obtain ⟨ot,o1,o2,nt,o3⟩:=ht
  have g1:=hm.heap tp ot ntw (hk tp ot ntd ntw o1)
  have hd' : s'.heap.DictOf (zaD prog w) d (kvs.take i):=by
   obtain ⟨o,es,ep,ho,r⟩:=hd
   exact ⟨o,es,ep,hm.heap d o hdw ho,r⟩
  obtain ⟨hik,hek⟩:=List.getElem?_eq_some_iff.mp hkv
  have hnew : k∉(kvs.take i).map (·.1):=fun z=>by
   rw [List.map_take] at z
   obtain ⟨m,hm1,hm2⟩:=List.mem_take_iff_getElem.mp z
   have h2 : m < (kvs.map (·.1)).length:=by omega
   have h3 : i < (kvs.map (·.1)).length:=by rw [List.length_map]; exact hik
   have:=List.pairwise_iff_getElem.mp hnd m i h2 h3 (by omega)
   apply this
   rw [hm2,List.getElem_map,hek]
  refine wpAny_bind (wpAny_holding (wpAny_bind (wpAny_tryCatch ?_)))
  unfold Builtin.Dict.pairItems
  refine wpAny_bind (wpAny_typeOf (T := "tuple") ⟨_,g1,o2⟩ ?_)
  rw [if_pos (by decide)]
  unfold seqItems?
  refine wpAny_bind (wpAny_bind (wpAny_load g1 ?_))
  rw [o3]
  refine wpAny_pure (wpAny_pure ?_)
  show wpAny _ A.in1 (holding [key,val] (dictSet d key val)) _ _ s'
  refine wpAny_holding (wpAny_dictSet_pairs hkey hd' (fun h' hd2 sb=>?_) (by rw [List.length_take]; omega))
  rw [zju hnew] at hd2
  have tk1 : kvs.take (i + 1) = kvs.take i ++ [(k,val)]:=by
   rw [List.take_succ_eq_append_getElem hik,hek]
  rw [← tk1] at hd2
  refine wpAny_pure ⟨plainId_quiet zd2 _,ih (i + 1) _ 0 (by omega) hlt (W.frame _ s' _ _ st' (Nat.le_succ _) fun b hb o e=>?_) (fun b o n1 n2 e=>?_) hd2 fun s'' hm'' x3=>?_⟩
  ·rw [sb.2 b (fun h : b = d=>hdf (by rw [← h]; exact hb))]
   exact e
  ·rw [sb.2 b n1]
   exact hm.heap b o n2 (hk b o n1 n2 e)
  ·refine q s'' (Moved.trans W.gtrans ((hm.mono up).then_heap (Nat.le_succ _) fun b o hb e=>?_) hm'') x3
   rw [sb.2 b (fun h : b = d=>hb (by rw [h]; exact List.mem_cons_self))]
   exact e
end
end DictP
namespace DictP
open PySem PySem.Spec PyProof.Rows L2
set_option autoImplicit false
set_option maxRecDepth 100000
section
variable {prog : Program} {w : World} {A : Around} {E : Value→Shared→Prop} {s : Shared}
theorem of_pairs {l : Addr} {items : Array Value} {nl : Nat} {sl : Array (Option Value)} {kvs : List (Key×Value)} {Q : Value→Shared→Prop} (hh : A.handled = none) (hl : s.heap.get? l = some { cls:=.type "list",dict:=none,data:=.seq items nl,slots:=sl })
  (hnd : (kvs.map (·.1)).Nodup) (hlen : items.size = kvs.length) (hz : kvs.length≤sizeLine)
  (hit : ∀ (i : Nat) v,items[i]? = some v→∃ tp key k val,v = .ref tp∧s.heap.IsTuple tp #[key,val]∧(zaD prog w).is k key = true∧kvs[i]? = some (k,val))
  (q : ∀ h' tk,h'.DictOf (zaD prog w) s.heap.objs.size kvs→(∀ b o,s.heap.get? b = some o→h'.get? b = some o)→Q (.ref s.heap.objs.size) { s with heap:=h',toks:=tk }) :
  wpAny (model prog w) A (call (.type "dict") [.ref l]) Q E s:=by
 refine callType_codes (Q₁:=fun obj s₁=>obj = .ref s.heap.objs.size∧s₁ = { s with heap:=s.heap.push { cls:=.type "dict",data:=.dict #[] } }) F.kt_called_dict (F.kt_typeCall_dict_1 _) F.entry_dict_init (kt_code_dict_new _ ⟨rfl,rfl⟩) ?_
 rintro obj s₁ ⟨rfl,rfl⟩
 have hnew : (s.heap.push { cls:=.type "dict",data:=.dict #[] }).DictOf (zaD prog w) s.heap.objs.size []:=Heap.DictOf.new s.heap
 have hl1:=Heap.get?_push_of_some { cls:=.type "dict",data:=.dict #[] } hl
 have hkp : ∀ b o,s.heap.get? b = some o→(s.heap.push { cls:=.type "dict",data:=.dict #[] }).get? b = some o:=fun b o e=>Heap.get?_push_of_some _ e
 have hds : s.heap.objs.size < (s.heap.push { cls:=.type "dict",data:=.dict #[] }).objs.size:=by
  rw [Heap.size_push]
  exact Nat.lt_succ_self _
 have hlS : l < s.heap.objs.size:=Heap.lt_size hl
 refine ⟨hnew.typeIs,F.args_dict_init_2 _ _,?_⟩
 generalize s.heap.push { cls:=.type "dict",data:=.dict #[] } = h1 at hnew hl1 hkp hds ⊢
 unfold Builtin.«dict.__init__»
 refine wpAny_bind ?_
 unfold Builtin.Dict.selfAndRest
 refine wpAny_bind (wpAny_notOrdered_dict hnew.typeIs ?_)
 show wpAny _ _ (pure (s.heap.objs.size,[Value.ref l])) _ _ _
 refine wpAny_pure ?_
 show wpAny _ _ (Builtin.Dict.updateFrom "dict.__init__" s.heap.objs.size (.ref l) [] .none) _ _ _
 unfold Builtin.Dict.updateFrom
 refine wpAny_bind (wpAny_typeOf (T := "list") ⟨_,hl1,rfl⟩ ?_)
 rw [if_pos (by decide)]
 refine wpAny_bind (zli (A:=_) hh hl1 fun h2 t2 k2=>?_)
 rw [if_pos (show (none : Option Value).isNone = true from rfl)]
 refine wpAny_bind (wpAny_rule (wpAny_bind ?_))
 have hl2:=k2 _ _ hl1
 have hL2 : h2.IsList l items:=⟨_,hl2,rfl,nl,rfl⟩
 refine wpAny_pyIter_list (s:=⟨h2,s.gens,s.drawn,t2,s.os⟩) hL2 ?_
 refine wpAny_pure ⟨plainId_quiet zd2 _,?_⟩
 have hd2 : h2.DictOf (zaD prog w) s.heap.objs.size []:=by
  obtain ⟨o,es,ep,ho,r⟩:=hnew
  exact ⟨o,es,ep,k2 _ _ ho,r⟩
 have hdlt : s.heap.objs.size < h2.objs.size:=by
  obtain ⟨o,es,ep,ho,r⟩:=hd2
  exact Heap.lt_size ho
 have hne : l≠h2.objs.size:=Nat.ne_of_lt (Nat.lt_trans hlS hdlt)
 have h3 : A.in1.in1.handled = none:=by simp [hh]
 refine zjz (h0:=s.heap) ((Walks.list h3 _ l hne items).toS) s.heap.objs.size (fun z=>?_) .none kvs hlen hnd (fun i v hv=>?_) hz items.size 0 _ 0 (by omega) (Nat.zero_le _) ⟨⟨_,Heap.get?_push_size _ rfl,rfl,rfl⟩,hL2.push _⟩ (fun b o n1 n2 e=>Heap.get?_push_of_some _ (k2 _ _ (hkp _ _ e))) ?_ fun s' hm hd'=>?_
 ·simp only [List.mem_cons,List.not_mem_nil,or_false] at z
  rcases z with z | z
  ·exact absurd hdlt (by rw [← z]; exact Nat.lt_irrefl _)
  ·exact absurd hlS (by rw [← z]; exact Nat.lt_irrefl _)
 ·obtain ⟨tp,key,k,val,e1,e2,e3,e4⟩:=hit i v hv
  have htp : tp < s.heap.objs.size:=by
   obtain ⟨ot,o1,_⟩:=e2
   exact Heap.lt_size o1
  refine ⟨tp,key,k,val,e1,Nat.ne_of_lt htp,fun z=>?_,e2,e3,e4⟩
  rw [List.mem_singleton.mp z] at htp
  exact absurd (Nat.lt_trans htp hdlt) (Nat.lt_irrefl _)
 ·rw [List.take_zero]
  exact hd2.push _
 ·refine ⟨rfl,?_⟩
  rw [Moved.eq_with hm]
  refine q s'.heap s'.toks hd' fun b o e=>hm.heap b o (fun z=>?_) (Heap.get?_push_of_some _ (k2 _ _ (hkp _ _ e)))
  have hb:=Heap.lt_size e
  simp only [List.mem_cons,List.not_mem_nil,or_false] at z
  rcases z with z | z
  ·rw [z] at hb
   exact absurd hb (Nat.lt_irrefl _)
  ·rw [z] at hb
   exact absurd (Nat.lt_trans hb hdlt) (Nat.lt_irrefl _)
end
end DictP
namespace L2
open PySem PySem.Spec PyProof.Rows
def rDictP (K : PySem.W.Frag) : List V→Hp→VK→Prop:=fun xs H Q=>∃ (p : Addr) (zs : List V) (kvs : List (Key×V)),xs = [.ref p]∧SqL K H p zs∧Paired (fun (z : V) (kv : Key×V)=>∃ b,z = .ref b∧H b = some (.tup [kV kv.1,kv.2])) zs kvs∧(kvs.map (·.1)).Nodup∧
 ∀ d,H d = none→Q (.ref d) (upd H d (.dK kvs))
section
variable {X : Cx}
theorem ziW {pins : List (Addr×Obj)} {σ : St} {H : Hp} {s : Shared} (I : Inv X pins σ H s) : ∀ {zs : List V} {kvs : List (Key×V)} {us : List Value},Paired (fun (z : V) (kv : Key×V)=>∃ b,z = .ref b∧H b = some (.tup [kV kv.1,kv.2])) zs kvs→Vals zs us→
  ∃ ks : List (Key×Value),KV kvs ks∧∀ (i : Nat) v,us[i]? = some v→∃ tp key k val,v = .ref tp∧s.heap.IsTuple tp #[key,val]∧(zaD X.prog X.w).is k key = true∧ks[i]? = some (k,val)
 | _,_,_,.nil,.nil=>⟨[],.nil,fun i v h=>by simp at h⟩
 | _ :: _,kv :: _,_ :: _,.cons ⟨b,e1,e2⟩ t,.cons r q=>by
  subst e1
  obtain ⟨ks,h1,h2⟩:=ziW I t q
  cases r
  obtain ⟨its,rv,p,_⟩:=I.tuple (SqT.of e2)
  cases rv with
  | cons r1 rv=>
   cases rv with
   | cons r2 rv=>
    cases rv
    refine ⟨(kv.1,_) :: ks,.cons ⟨rfl,r2⟩ h1,fun i v hv=>?_⟩
    cases i with
    | zero=>
     simp only [List.getElem?_cons_zero,Option.some.injEq] at hv
     subst hv
     exact ⟨b,_,kv.1,_,rfl,p,zh8 r1,rfl⟩
    | succ i=>
     rw [List.getElem?_cons_succ] at hv ⊢
     exact h2 i v hv
theorem zlf : ∀ {kvs : List (Key×V)} {ks : List (Key×Value)},KV kvs ks→ks.map (·.1) = kvs.map (·.1)
 | _,_,.nil=>rfl
 | _,_,.cons r t=>by
  rw [List.map_cons,List.map_cons,zlf t,r.1]
theorem zf5 (hc : X.calm = true) : zeg X (.type "dict") (rDictP X.K):=by
 intro pins s σ H xs us Q I r h
 obtain ⟨p,zs,kvs,rfl,hq,hp,hn,q⟩:=h
 obtain ⟨u,rfl,rx⟩:=zgb r
 cases rx
 obtain ⟨its,rv,pl,hz⟩:=I.list hq
 obtain ⟨ks,hk,hit⟩:=ziW I hp rv
 have l1:=Paired.length hp
 have l2:=rv.length
 have l3:=Paired.length hk
 obtain ⟨⟨oc,od,oda,osl⟩,n,e,e1,e2,e3⟩:=pl
 simp only at e1 e2 e3
 subst e1 e2 e3
 refine DictP.of_pairs (kvs:=ks) (I.ok.hd hc) e (by rw [zlf hk]; exact hn) (by rw [List.size_toArray]; omega) (by omega) (fun i v hv=>hit i v (by simpa using hv)) fun h' tk hd k=>?_
 exact ⟨.ref s.heap.objs.size,_,I.laid (a:=s.heap.objs.size) (o:=.dK kvs) (t':=tk) k (Nat.le_refl _) ⟨by omega,beq_eq_false_iff_ne.mpr (Ne.symm (Nat.ne_of_lt I.big)),ks,hk,hd⟩,rfl,q _ (I.hok.fresh (Nat.le_refl _))⟩
end
end L2
namespace Kas
open PySem PySem.W PyProof.Rows
def run {α : Type} (f : Nat→Nat→Bool) : KasT α→α
 | .ret a=>a
 | .ask i j k=>run f (k (f i j))
theorem zdj {α β : Type} (f : Nat→Nat→Bool) (g : α→KasT β) : ∀ t : KasT α,run f (t.bind g) = run f (g (run f t))
 | .ret _=>rfl
 | .ask i j k=>zdj f g (k (f i j))
def Res {α : Type} (n : Nat) (P : α→Prop) : KasT α→Prop
 | .ret a=>P a
 | .ask i j k=>i < n∧j < n∧∀ b,Res n P (k b)
theorem Res.bind {α β : Type} {n : Nat} {P : α→Prop} {P' : β→Prop} {g : α→KasT β} (h2 : ∀ a,P a→Res n P' (g a)) : ∀ {t : KasT α},Res n P t→Res n P' (t.bind g)
 | .ret a,h=>h2 a h
 | .ask _ _ _,h=>⟨h.1,h.2.1,fun b=>Res.bind h2 (h.2.2 b)⟩
theorem Res.run {α : Type} {n : Nat} {P : α→Prop} (f : Nat→Nat→Bool) : ∀ {t : KasT α},Res n P t→P (Kas.run f t)
 | .ret _,h=>h
 | .ask i j k,h=>Res.run (t:=k (f i j)) f (h.2.2 (f i j))
theorem wp_of {α : Type} {n : Nat} {P : α→Prop} {f : Nat→Nat→Bool} {cmp : Nat→Nat→(Bool→Shared→Prop)→Shared→Prop} {Q : α→Shared→Prop} {s : Shared} (hc : ∀ i j C,i < n→j < n→C (f i j) s→cmp i j C s) : ∀ {t : KasT α},Res n P t→Q (Kas.run f t) s→t.kasWp cmp Q s
 | .ret _,_,q=>q
 | .ask i j _,h,q=>hc i j _ h.1 h.2.1 (wp_of hc (h.2.2 (f i j)) q)
def Good (n : Nat) (p : Array Nat) : Prop:=p.Perm (List.range n).toArray
theorem Good.size {n : Nat} {p : Array Nat} (h : Good n p) : p.size = n:=by
 have:=h.size_eq
 simpa using this
theorem Good.lt {n : Nat} {p : Array Nat} (h : Good n p) (hn : 0 < n) (k : Nat) : p.getD k 0 < n:=by
 by_cases c : k < p.size
 ·have e : p.getD k 0 = p[k]:=by simp [Array.getD,c]
  rw [e]
  have hm : p[k]∈(List.range n).toArray:=h.mem_iff.mp (Array.getElem_mem c)
  simpa using hm
 ·have e : p.getD k 0 = 0:=by simp [Array.getD,c]
  rw [e]
  exact hn
theorem Good.rev {n : Nat} {p : Array Nat} (h : Good n p) (i j : Nat) : Good n (kas_rev p i j):=(mirror_perm p i j _).trans h
theorem Good.bub {n : Nat} {p : Array Nat} (h : Good n p) (i j : Nat) : Good n (bubble p i j):=(bubble_perm p i j).trans h
section
variable {n : Nat} (hn : 0 < n)
include hn
theorem ziq {p : Array Nat} (h : Good n p) : ∀ (f m : Nat),Res n (fun _=>True) (kas_asc p f m)
 | 0,_=>trivial
 | f + 1,m=>⟨h.lt hn _,h.lt hn _,fun b=>by
  cases b with
  | true=>exact trivial
  | false=>exact ziq h f (m + 1)⟩
theorem ze5 : ∀ (f : Nat) {p : Array Nat} (m q : Nat),Good n p→Res n (fun r : Array Nat×Nat×Nat=>Good n r.1) (kas_desc f p m q)
 | 0,_,_,_,h=>h
 | f + 1,p,m,q,h=>⟨h.lt hn _,h.lt hn _,fun b=>by
  cases b with
  | true=>
   show Res n _ (if q > 0 then kas_desc f (kas_rev p (m - (q + 1)) m) (m + 1) 0 else kas_desc f p (m + 1) 0)
   split
   ·exact ze5 f _ _ (h.rev _ _)
   ·exact ze5 f _ _ h
  | false=>
   refine ⟨h.lt hn _,h.lt hn _,fun c=>?_⟩
   cases c with
   | true=>exact h
   | false=>exact ze5 f _ _ h⟩
theorem ziy {p : Array Nat} (h : Good n p) (m r : Nat) : Res n (fun x : Nat×Array Nat=>Good n x.2) (kas_tail3 m r p):=by
 refine Res.bind (fun a _=>?_) (ziq hn (h.rev 0 m) (r - m) m)
 exact h.rev _ _
theorem zeB {p : Array Nat} (h : Good n p) (m r : Nat) : Res n (fun x : Nat×Array Nat=>Good n x.2) (kas_descPart m r p):=by
 refine Res.bind (fun a ha=>?_) (ze5 hn _ _ _ h)
 show Res n _ (if a.2.2 > 0 then _ else _)
 split
 ·exact ziy hn (Good.rev ha _ _) _ _
 ·exact ziy hn ha _ _
theorem zhu {p : Array Nat} (h : Good n p) (r : Nat) : Res n (fun x : Nat×Array Nat=>Good n x.2) (kas_count r p):=by
 refine Res.bind (fun a _=>?_) (ziq hn h _ _)
 show Res n _ (if (a == r) = true then _ else if a > 1 then _ else _)
 split
 ·exact h
 ·split
  ·refine ⟨h.lt hn _,h.lt hn _,fun b=>?_⟩
   cases b with
   | true=>exact h
   | false=>exact zeB hn (h.rev _ _) _ _
  ·exact zeB hn h _ _
theorem zfi {p : Array Nat} (h : Good n p) (k : Nat) : ∀ (f l r : Nat),Res n (fun _=>True) (kas_place p k f l r)
 | 0,_,_=>trivial
 | f + 1,l,r=>by
  show Res n _ (if l ≥ r then _ else _)
  split
  ·exact trivial
  ·refine ⟨h.lt hn _,h.lt hn _,fun b=>?_⟩
   cases b with
   | true=>exact zfi h k f _ _
   | false=>exact zfi h k f _ _
theorem zlT : ∀ (f : Nat) {p : Array Nat} (k : Nat),Good n p→Res n (Good n) (kas_bin f p k)
 | 0,_,_,h=>h
 | f + 1,_,k,h=>Res.bind (fun _ _=>zlT f _ (h.bub _ _)) (zfi hn h k _ _ _)
theorem sort_res : Res n (Good n) (kas_sort n):=by
 refine Res.bind (fun a ha=>?_) (zhu hn (p:=(List.range n).toArray) (Array.Perm.refl _) n)
 show Res n _ (if a.1 < n then _ else _)
 split
 ·exact zlT hn _ _ ha
 ·exact ha
end
structure Ord (f : Nat→Nat→Bool) : Prop where
 irr : ∀ a,f a a = false
 tr : ∀ a b c,f a b = true→f b c = true→f a c = true
 neg : ∀ a b c,f a c = true→f a b = true∨f b c = true
def Up (f : Nat→Nat→Bool) (p : Array Nat) (k : Nat) : Prop:=∀ i j,i < j→j < k→f (p.getD j 0) (p.getD i 0) = false
def Down (f : Nat→Nat→Bool) (p : Array Nat) (k : Nat) : Prop:=∀ i j,i < j→j < k→f (p.getD i 0) (p.getD j 0) = false
section
variable {f : Nat→Nat→Bool} (O : Ord f)
include O
theorem not_lt {a b c : Nat} (h1 : f a b = false) (h2 : f b c = false) : f a c = false:=by
 cases e : f a c with
 | false=>rfl
 | true=>
  rcases O.neg a b c e with z | z
  ·rw [h1] at z
   cases z
  ·rw [h2] at z
   cases z
theorem asym {a b : Nat} (h : f a b = true) : f b a = false:=by
 cases e : f b a with
 | false=>rfl
 | true=>
  have:=O.tr a b a h e
  rw [O.irr] at this
  cases this
theorem znJ {p : Array Nat} {m : Nat} (h1 : 1≤m) (h : Up f p m) (e : f (p.getD m 0) (p.getD (m - 1) 0) = false) : Up f p (m + 1):=fun i j hij hj=>by
 by_cases c : j < m
 ·exact h i j hij c
 ·have : j = m:=by omega
  subst this
  by_cases ci : i = j - 1
  ·rw [ci]
   exact e
  ·exact not_lt O e (h i (j - 1) (by omega) (by omega))
theorem zio {p : Array Nat} : ∀ (fu m : Nat),1≤m→Up f p m→Up f p (run f (kas_asc p fu m))∧m≤run f (kas_asc p fu m)∧run f (kas_asc p fu m)≤m + fu∧(run f (kas_asc p fu m) < m + fu→f (p.getD (run f (kas_asc p fu m)) 0) (p.getD (run f (kas_asc p fu m) - 1) 0) = true)
 | 0,m,_,h=>⟨h,Nat.le_refl _,Nat.le_refl _,fun z=>absurd z (by show ¬ m < m + 0; omega)⟩
 | fu + 1,m,h1,h=>by
  have step : run f (kas_asc p (fu + 1) m) = if f (p.getD m 0) (p.getD (m - 1) 0) = true then m else run f (kas_asc p fu (m + 1)):=by
   show run f (if f (p.getD m 0) (p.getD (m - 1) 0) = true then .ret m else kas_asc p fu (m + 1)) = _
   split <;> rfl
  rw [step]
  cases e : f (p.getD m 0) (p.getD (m - 1) 0) with
  | true=>exact ⟨h,Nat.le_refl _,by rw [if_pos rfl]; omega,fun _=>e⟩
  | false=>
   rw [if_neg (by decide)]
   obtain ⟨a1,a2,a3,a4⟩:=zio fu (m + 1) (by omega) (znJ O h1 h e)
   exact ⟨a1,by omega,by omega,fun z=>a4 (by omega)⟩
theorem zfh {p : Array Nat} {k : Nat} (h : Up f p k) : ∀ (fu l r : Nat),l≤r→r≤k→r - l≤fu→(∀ i,i < l→f (p.getD k 0) (p.getD i 0) = false)→(∀ i,r≤i→i < k→f (p.getD k 0) (p.getD i 0) = true)→
  run f (kas_place p k fu l r)≤k∧(∀ i,i < run f (kas_place p k fu l r)→f (p.getD k 0) (p.getD i 0) = false)∧(∀ i,run f (kas_place p k fu l r)≤i→i < k→f (p.getD k 0) (p.getD i 0) = true)
 | 0,l,r,h1,h2,h3,h4,h5=>⟨by show l≤k; omega,h4,fun i hi=>h5 i (by have : l≤i:=hi; omega)⟩
 | fu + 1,l,r,h1,h2,h3,h4,h5=>by
  by_cases c : l ≥ r
  ·have e : run f (kas_place p k (fu + 1) l r) = l:=by
    show run f (if l ≥ r then _ else _) = l
    rw [if_pos c]
    rfl
   rw [e]
   exact ⟨by omega,h4,fun i hi=>h5 i (by omega)⟩
  ·have e : run f (kas_place p k (fu + 1) l r) = if f (p.getD k 0) (p.getD ((l + r) / 2) 0) = true then run f (kas_place p k fu l ((l + r) / 2)) else run f (kas_place p k fu ((l + r) / 2 + 1) r):=by
    show run f (if l ≥ r then _ else _) = _
    rw [if_neg c]
    show run f (if f (p.getD k 0) (p.getD ((l + r) / 2) 0) = true then _ else _) = _
    split <;> rfl
   rw [e]
   cases e2 : f (p.getD k 0) (p.getD ((l + r) / 2) 0) with
   | true=>
    rw [if_pos rfl]
    refine zfh h fu l _ (by omega) (by omega) (by omega) h4 fun i hi hk=>?_
    by_cases ci : i = (l + r) / 2
    ·rw [ci]
     exact e2
    ·rcases O.neg _ (p.getD i 0) _ e2 with z | z
     ·exact z
     ·rw [h _ i (by omega) hk] at z
      cases z
   | false=>
    rw [if_neg (by decide)]
    refine zfh h fu _ r (by omega) h2 (by omega) (fun i hi=>?_) h5
    by_cases ci : i = (l + r) / 2
    ·rw [ci]
     exact e2
    ·exact not_lt O e2 (h i _ (by omega) (by omega))
omit O in
theorem gd (q : Array Nat) (x : Nat) : q.getD x 0 = (q[x]?).getD 0:=by
 by_cases h : x < q.size
 ·simp [Array.getD,h]
 ·simp [Array.getD,h]
omit O in
theorem zlw {p : Array Nat} {k d : Nat} (hk : k < p.size) (hd : d≤k) (j : Nat) : (bubble p k d).getD j 0 = if j = k - d then p.getD k 0 else if k - d < j∧j≤k then p.getD (j - 1) 0 else p.getD j 0:=by
 rw [gd,getElem?_bubble hk d hd j,gd p k,gd p (j - 1),gd p j]
 split
 ·rfl
 ·split <;> rfl
theorem bub_up {p : Array Nat} {k l : Nat} (hk : k < p.size) (h : Up f p k) (hl : l≤k) (h1 : ∀ i,i < l→f (p.getD k 0) (p.getD i 0) = false) (h2 : ∀ i,l≤i→i < k→f (p.getD k 0) (p.getD i 0) = true) : Up f (bubble p k (k - l)) (k + 1):=fun i j hij hj=>by
 rw [zlw hk (by omega),zlw hk (by omega),show k - (k - l) = l by omega]
 by_cases cj : j = l
 ·rw [if_pos cj,if_neg (by omega),if_neg (by omega)]
  exact h1 i (by omega)
 ·rw [if_neg cj]
  by_cases cj2 : l < j∧j≤k
  ·rw [if_pos cj2]
   by_cases ci : i = l
   ·rw [if_pos ci]
    exact asym O (h2 (j - 1) (by omega) (by omega))
   ·rw [if_neg ci]
    by_cases ci2 : l < i∧i≤k
    ·rw [if_pos ci2]
     exact h (i - 1) (j - 1) (by omega) (by omega)
    ·rw [if_neg ci2]
     exact h i (j - 1) (by omega) (by omega)
  ·rw [if_neg cj2,if_neg (by omega),if_neg (by omega)]
   exact h i j hij (by omega)
theorem zlS : ∀ (fu : Nat) {p : Array Nat} (k : Nat),k + fu≤p.size→Up f p k→Up f (run f (kas_bin fu p k)) (k + fu)
 | 0,_,_,_,h=>h
 | fu + 1,p,k,hz,h=>by
  have e : run f (kas_bin (fu + 1) p k) = run f (kas_bin fu (bubble p k (k - run f (kas_place p k k 0 k))) (k + 1)):=zdj f _ _
  rw [e]
  obtain ⟨a1,a2,a3⟩:=zfh O h k 0 k (Nat.zero_le _) (Nat.le_refl _) (by omega) (fun i hi=>absurd hi (Nat.not_lt_zero _)) (fun i hi hk=>absurd hk (by omega))
  have:=zlS fu (k + 1) (by rw [bubble_size]; omega) (bub_up O (by omega) h a1 a2 a3)
  rw [show k + (fu + 1) = k + 1 + fu by omega]
  exact this
omit O in
theorem zdb {p : Array Nat} {i j : Nat} (hj : j≤p.size) (k : Nat) : (kas_rev p i j).getD k 0 = if i≤k∧k < j then p.getD (i + j - 1 - k) 0 else p.getD k 0:=by
 unfold kas_rev
 rw [gd,getElem?_mirror_all hj k,gd p (i + j - 1 - k),gd p k]
 split <;> rfl
omit O in
theorem zeV (p : Array Nat) (i j : Nat) : (kas_rev p i j).size = p.size:=mirror_size _ _ _ _
omit O in
theorem rev_up {p : Array Nat} {m : Nat} (hm : m≤p.size) (h : Down f p m) : Up f (kas_rev p 0 m) m:=fun i j hij hj=>by
 rw [zdb hm,zdb hm,if_pos (by omega),if_pos (by omega)]
 exact h _ _ (by omega) (by omega)
def zl1 (f : Nat→Nat→Bool) (p : Array Nat) (m q : Nat) : Prop:=∀ i j,m - (q + 1)≤i→i < m→m - (q + 1)≤j→j < m→f (p.getD i 0) (p.getD j 0) = false
omit O in
theorem ziN {p : Array Nat} {m q : Nat} (hm : m≤p.size) (hq : q + 1≤m) (h : Down f p m) (hA : zl1 f p m q) : Down f (kas_rev p (m - (q + 1)) m) m:=fun i j hij hj=>by
 rw [zdb hm,zdb hm]
 by_cases ci : m - (q + 1)≤i∧i < m
 ·rw [if_pos ci,if_pos (by omega)]
  exact hA _ _ (by omega) (by omega) (by omega) (by omega)
 ·rw [if_neg ci]
  split
  ·exact h _ _ (by omega) (by omega)
  ·exact h _ _ (by omega) (by omega)
theorem zft {p : Array Nat} {m : Nat} (h1 : 1≤m) (h : Down f p m) (e : f (p.getD (m - 1) 0) (p.getD m 0) = false) : Down f p (m + 1):=fun i j hij hj=>by
 by_cases c : j < m
 ·exact h i j hij c
 ·have : j = m:=by omega
  subst this
  by_cases ci : i = j - 1
  ·rw [ci]
   exact e
  ·exact not_lt O (h i (j - 1) (by omega) (by omega)) e
theorem ze4 : ∀ (fu : Nat) {p : Array Nat} (m q : Nat),q + 1≤m→m + fu≤p.size→Down f p m→zl1 f p m q→
  m≤(run f (kas_desc fu p m q)).2.1∧(run f (kas_desc fu p m q)).2.1≤m + fu∧(run f (kas_desc fu p m q)).2.2 + 1≤(run f (kas_desc fu p m q)).2.1∧(run f (kas_desc fu p m q)).1.size = p.size∧Down f (run f (kas_desc fu p m q)).1 (run f (kas_desc fu p m q)).2.1∧zl1 f (run f (kas_desc fu p m q)).1 (run f (kas_desc fu p m q)).2.1 (run f (kas_desc fu p m q)).2.2
 | 0,p,m,q,hq,hz,h,hA=>⟨Nat.le_refl _,Nat.le_refl _,hq,rfl,h,hA⟩
 | fu + 1,p,m,q,hq,hz,h,hA=>by
  have one : ∀ {p' : Array Nat},zl1 f p' (m + 1) 0:=fun {p'} i j a b c d=>by
   have : i = j:=by omega
   subst this
   exact O.irr _
  cases e : f (p.getD m 0) (p.getD (m - 1) 0) with
  | true=>
   have st : run f (kas_desc (fu + 1) p m q) = run f (if q > 0 then kas_desc fu (kas_rev p (m - (q + 1)) m) (m + 1) 0 else kas_desc fu p (m + 1) 0):=by
    show run f (if f (p.getD m 0) (p.getD (m - 1) 0) = true then _ else _) = _
    rw [e,if_pos rfl]
   rw [st]
   by_cases cq : q > 0
   ·rw [if_pos cq]
    have hD:=ziN (by omega) hq h hA
    have hl : f ((kas_rev p (m - (q + 1)) m).getD (m - 1) 0) ((kas_rev p (m - (q + 1)) m).getD m 0) = false:=by
     rw [zdb (by omega),zdb (by omega),if_pos (by omega),if_neg (by omega)]
     exact not_lt O (hA _ (m - 1) (by omega) (by omega) (by omega) (by omega)) (asym O e)
    obtain ⟨b1,b2,b3,b4,b5,b6⟩:=ze4 fu (p:=kas_rev p (m - (q + 1)) m) (m + 1) 0 (by omega) (by rw [zeV]; omega) (zft O (by omega) hD hl) one
    exact ⟨by omega,by omega,b3,by rw [b4,zeV],b5,b6⟩
   ·rw [if_neg cq]
    obtain ⟨b1,b2,b3,b4,b5,b6⟩:=ze4 fu (p:=p) (m + 1) 0 (by omega) (by omega) (zft O (by omega) h (asym O e)) one
    exact ⟨by omega,by omega,b3,b4,b5,b6⟩
  | false=>
   have st : run f (kas_desc (fu + 1) p m q) = if f (p.getD (m - 1) 0) (p.getD m 0) = true then (p,m,q) else run f (kas_desc fu p (m + 1) (q + 1)):=by
    show run f (if f (p.getD m 0) (p.getD (m - 1) 0) = true then _ else _) = _
    rw [e,if_neg (by decide)]
    show run f (if f (p.getD (m - 1) 0) (p.getD m 0) = true then _ else _) = _
    split <;> rfl
   rw [st]
   cases e2 : f (p.getD (m - 1) 0) (p.getD m 0) with
   | true=>
    rw [if_pos rfl]
    exact ⟨Nat.le_refl _,by show m≤_; omega,hq,rfl,h,hA⟩
   | false=>
    rw [if_neg (by decide)]
    have hA2 : zl1 f p (m + 1) (q + 1):=fun i j a b c d=>by
     by_cases ci : i = m
     ·by_cases cj : j = m
      ·rw [ci,cj]
       exact O.irr _
      ·rw [ci]
       exact not_lt O e (hA (m - 1) j (by omega) (by omega) (by omega) (by omega))
     ·by_cases cj : j = m
      ·rw [cj]
       exact not_lt O (hA i (m - 1) (by omega) (by omega) (by omega) (by omega)) e2
      ·exact hA i j (by omega) (by omega) (by omega) (by omega)
    obtain ⟨b1,b2,b3,b4,b5,b6⟩:=ze4 fu (p:=p) (m + 1) (q + 1) (by omega) (by omega) (zft O (by omega) h e2) hA2
    exact ⟨by omega,by omega,b3,b4,b5,b6⟩
theorem zix {p : Array Nat} {m r : Nat} (h1 : 1≤m) (hm : m≤r) (hr : r≤p.size) (h : Down f p m) : m≤(run f (kas_tail3 m r p)).1∧(run f (kas_tail3 m r p)).1≤r∧Up f (run f (kas_tail3 m r p)).2 (run f (kas_tail3 m r p)).1:=by
 have e : run f (kas_tail3 m r p) = (run f (kas_asc (kas_rev p 0 m) (r - m) m),kas_rev p 0 m):=zdj f _ _
 rw [e]
 obtain ⟨a1,a2,a3,_⟩:=zio O (p:=kas_rev p 0 m) (r - m) m h1 (rev_up (by omega) h)
 exact ⟨a2,by show run f _≤r; omega,a1⟩
theorem zeA {p : Array Nat} {m r : Nat} (h1 : 1≤m) (hm : m + 1≤r) (hr : r≤p.size) (h : Down f p (m + 1)) : 1≤(run f (kas_descPart m r p)).1∧(run f (kas_descPart m r p)).1≤r∧Up f (run f (kas_descPart m r p)).2 (run f (kas_descPart m r p)).1:=by
 have e : run f (kas_descPart m r p) = run f (if (run f (kas_desc (r - (m + 1)) p (m + 1) 0)).2.2 > 0 then kas_tail3 (run f (kas_desc (r - (m + 1)) p (m + 1) 0)).2.1 r (kas_rev (run f (kas_desc (r - (m + 1)) p (m + 1) 0)).1 ((run f (kas_desc (r - (m + 1)) p (m + 1) 0)).2.1 - ((run f (kas_desc (r - (m + 1)) p (m + 1) 0)).2.2 + 1)) (run f (kas_desc (r - (m + 1)) p (m + 1) 0)).2.1) else kas_tail3 (run f (kas_desc (r - (m + 1)) p (m + 1) 0)).2.1 r (run f (kas_desc (r - (m + 1)) p (m + 1) 0)).1):=zdj f _ _
 rw [e]
 obtain ⟨b1,b2,b3,b4,b5,b6⟩:=ze4 O (r - (m + 1)) (p:=p) (m + 1) 0 (by omega) (by omega) h (fun i j a b c d=>by
  have : i = j:=by omega
  subst this
  exact O.irr _)
 generalize run f (kas_desc (r - (m + 1)) p (m + 1) 0) = t at b1 b2 b3 b4 b5 b6
 split
 ·obtain ⟨c1,c2,c3⟩:=zix O (p:=kas_rev t.1 (t.2.1 - (t.2.2 + 1)) t.2.1) (m:=t.2.1) (r:=r) (by omega) (by omega) (by rw [zeV,b4]; exact hr) (ziN (by rw [b4]; omega) b3 b5 b6)
  exact ⟨by omega,c2,c3⟩
 ·obtain ⟨c1,c2,c3⟩:=zix O (p:=t.1) (m:=t.2.1) (r:=r) (by omega) (by omega) (by rw [b4]; exact hr) b5
  exact ⟨by omega,c2,c3⟩
theorem zlK {p : Array Nat} {r : Nat} (h1 : 1≤r) (hr : r≤p.size) : 1≤(run f (kas_count r p)).1∧(run f (kas_count r p)).1≤r∧Up f (run f (kas_count r p)).2 (run f (kas_count r p)).1:=by
 obtain ⟨a1,a2,a3,a4⟩:=zio O (p:=p) (r - 1) 1 (Nat.le_refl _) (fun i j hij hj=>absurd hj (by omega))
 have e : run f (kas_count r p) = run f (if (run f (kas_asc p (r - 1) 1) == r) = true then .ret (run f (kas_asc p (r - 1) 1),p) else if run f (kas_asc p (r - 1) 1) > 1 then .ask (p.getD 0 0) (p.getD (run f (kas_asc p (r - 1) 1) - 1) 0) fun c=>if c = true then .ret (run f (kas_asc p (r - 1) 1),p) else kas_descPart (run f (kas_asc p (r - 1) 1)) r (kas_rev p 0 (run f (kas_asc p (r - 1) 1))) else kas_descPart (run f (kas_asc p (r - 1) 1)) r p):=zdj f _ _
 rw [e]
 generalize run f (kas_asc p (r - 1) 1) = m at a1 a2 a3 a4
 by_cases c : m = r
 ·subst c
  rw [if_pos (by simp)]
  exact ⟨a2,Nat.le_refl _,a1⟩
 ·rw [if_neg (by simpa using c)]
  have hlt:=a4 (by omega)
  by_cases c1 : m > 1
  ·rw [if_pos c1]
   cases e2 : f (p.getD 0 0) (p.getD (m - 1) 0) with
   | true=>
    have st : run f (.ask (p.getD 0 0) (p.getD (m - 1) 0) fun c=>if c = true then .ret (m,p) else kas_descPart m r (kas_rev p 0 m)) = (m,p):=by
     show run f (if f (p.getD 0 0) (p.getD (m - 1) 0) = true then _ else _) = _
     rw [e2,if_pos rfl]
     rfl
    rw [st]
    exact ⟨a2,by show m≤r; omega,a1⟩
   | false=>
    have st : run f (.ask (p.getD 0 0) (p.getD (m - 1) 0) fun c=>if c = true then .ret (m,p) else kas_descPart m r (kas_rev p 0 m)) = run f (kas_descPart m r (kas_rev p 0 m)):=by
     show run f (if f (p.getD 0 0) (p.getD (m - 1) 0) = true then _ else _) = _
     rw [e2,if_neg (by decide)]
    rw [st]
    have low : ∀ i,i < m→f (p.getD i 0) (p.getD 0 0) = false:=fun i hi=>by
     by_cases ci : i = 0
     ·rw [ci]
      exact O.irr _
     ·exact a1 0 i (by omega) hi
    have high : ∀ j,j < m→f (p.getD (m - 1) 0) (p.getD j 0) = false:=fun j hj=>by
     by_cases cj : j = m - 1
     ·rw [cj]
      exact O.irr _
     ·exact a1 j (m - 1) (by omega) (by omega)
    have all : ∀ i j,i < m→j < m→f (p.getD i 0) (p.getD j 0) = false:=fun i j hi hj=>not_lt O (low i hi) (not_lt O e2 (high j hj))
    refine zeA O a2 (by omega) (by rw [zeV]; exact hr) fun i j hij hj=>?_
    rw [zdb (by omega),zdb (by omega),if_pos (by omega)]
    by_cases cj : j < m
    ·rw [if_pos (by omega)]
     exact all _ _ (by omega) (by omega)
    ·rw [if_neg (by omega),show j = m by omega]
     exact not_lt O (all _ (m - 1) (by omega) (by omega)) (asym O hlt)
  ·rw [if_neg c1]
   have hm1 : m = 1:=by omega
   subst hm1
   refine zeA O (Nat.le_refl _) (by omega) hr fun i j hij hj=>?_
   rw [show i = 0 by omega,show j = 1 by omega]
   exact asym O hlt
theorem sort_run {n : Nat} (hn : 0 < n) : Up f (run f (kas_sort n)) n∧Good n (run f (kas_sort n)):=by
 refine ⟨?_,(sort_res hn).run f⟩
 obtain ⟨a1,a2,a3⟩:=zlK O (p:=(List.range n).toArray) (r:=n) hn (by simp)
 have g:=(zhu hn (p:=(List.range n).toArray) (Array.Perm.refl _) n).run f
 have e : run f (kas_sort n) = run f (if (run f (kas_count n (List.range n).toArray)).1 < n then kas_bin (n - max (run f (kas_count n (List.range n).toArray)).1 1) (run f (kas_count n (List.range n).toArray)).2 (max (run f (kas_count n (List.range n).toArray)).1 1) else .ret (run f (kas_count n (List.range n).toArray)).2):=zdj f _ _
 rw [e]
 generalize run f (kas_count n (List.range n).toArray) = t at a1 a2 a3 g
 have hs:=Good.size g
 rw [Nat.max_eq_left a1]
 split
 ·have:=zlS O (n - t.1) (p:=t.2) t.1 (by omega) a3
  rw [show t.1 + (n - t.1) = n by omega] at this
  exact this
 ·show Up f t.2 n
  rw [show n = t.1 by omega]
  exact a3
end
end Kas
namespace Tim
open PySem PySem.W PyProof.Rows
set_option autoImplicit false
section
variable {prog : Program} {w : World} {A : Around} {E : Value→Shared→Prop} {s : Shared} {κ : KeyKind} {kd : SortKind}
theorem zj2 {vs : List Value} (keys : ∀ v∈vs,∃ k,κ.keyOf v = some k) (hO : LtG prog w A s κ kd) (h2 : 2≤vs.length) (h64 : vs.length < 64) :
  wpAny (model prog w) A (sortRuns'.run (SortSt.mk' kd (vs.toArray.zip vs.toArray) #[] 7 none)) (fun r s'=>s' = s∧(arrOf r.2).Perm (pairsOf vs)∧failedOf r.2 = none∧Up κ (arrOf r.2) 0 (pairsOf vs).size) E s:=by
 obtain ⟨f,hf⟩ : ∃ f : Nat→Nat→Bool,f = fun i j=>κ.blt (keyV κ (vs.getD i .none)) (keyV κ (vs.getD j .none)):=⟨_,rfl⟩
 have O : Kas.Ord f:=by
  subst hf
  exact ⟨fun a=>κ.irrefl _,fun a b c=>κ.trans _ _ _,fun a b c=>κ.negTrans _ _ _⟩
 have hn : 0 < vs.length:=by omega
 have hk : ∀ i,i < vs.length→κ.keyOf (vs.getD i .none) = some (keyV κ (vs.getD i .none)):=fun i hi=>by
  have e : vs.getD i .none = vs[i]:=by rw [List.getD_eq_getElem?_getD,List.getElem?_eq_getElem hi]; rfl
  obtain ⟨k,hk⟩:=keys _ (List.getElem_mem hi)
  rw [e]
  unfold keyV
  rw [hk]
  rfl
 refine kat_run (ks:=vs) rfl h2 h64 (Q:=fun st' s'=>s' = s∧(arrOf st').Perm (pairsOf vs)∧failedOf st' = none∧Up κ (arrOf st') 0 (pairsOf vs).size) (G:=fun p s'=>s' = s∧Kas.Up f p vs.length∧Kas.Good vs.length p) (fun p st' s' hp har hfl hG=>⟨hG.1,?_,hfl,?_⟩) (Kas.wp_of (n:=vs.length) (f:=f) (fun i j C hi hj hC=>?_) (Kas.sort_res hn) ⟨rfl,Kas.sort_run O hn⟩)
 ·rw [har]
  have hm : (p.map (kas_item (vs.toArray.zip vs.toArray))).Perm ((List.range vs.length).toArray.map (kas_item (vs.toArray.zip vs.toArray))):=by
   have h1:=(Array.perm_iff_toList_perm.mp hG.2.2).map (kas_item (vs.toArray.zip vs.toArray))
   refine Array.perm_iff_toList_perm.mpr ?_
   rw [Array.toList_map,Array.toList_map]
   exact h1
  have hr:=kas_range (vs.toArray.zip vs.toArray)
  rw [show (vs.toArray.zip vs.toArray).size = vs.length by simp] at hr
  rw [hr] at hm
  exact hm
 ·intro i j _ hij hj
  rw [pairsOf_size] at hj
  have hat : ∀ x,x < vs.length→kAt κ (arrOf st') x = keyV κ (vs.getD (p.getD x 0) .none):=fun x hx=>by
   have hxp : x < p.size:=by omega
   rw [zh9 (by rw [har,Array.size_map]; exact hxp)]
   have e : (arrOf st')[x]'(by rw [har,Array.size_map]; exact hxp) = (vs.getD (p.getD x 0) .none,vs.getD (p.getD x 0) .none):=by
    have e1 : (arrOf st')[x]? = some (kas_item (vs.toArray.zip vs.toArray) (p.getD x 0)):=by
     rw [har,Array.getElem?_map,Array.getElem?_eq_getElem hxp]
     show some (kas_item _ p[x]) = _
     have : p.getD x 0 = p[x]:=by simp [Array.getD,hxp]
     rw [this]
    rw [kat_item rfl] at e1
    exact (Array.getElem?_eq_some_iff.mp e1).2
   rw [e]
   rfl
  rw [hat i (by omega),hat j hj]
  by_cases c : i = j
  ·subst c
   exact KeyOrd.kle_refl _
  ·have:=hG.2.1 i j (by omega) hj
   subst hf
   exact this
 ·unfold kas_ask
  subst hf
  exact hO _ _ _ _ _ _ (hk i hi) (hk j hj) hC
theorem ziJ {a : Addr} {vs : List Value} {n : Nat} {P : Fin→Shared→Prop} (ho : s.heap.get? a = some (seqObj "list" vs.toArray n)) (hz : vs.length≤sizeLine) (h64 : vs.length < 64) (keys : ∀ v∈vs,∃ k,κ.keyOf v = some k)
  (hlt : ∀ h',zdL a s.heap h'→LtG prog w A { s with heap:=h' } κ kd)
  (hkd : ∀ (h' : Heap) (E : Value→Shared→Prop) (Q : SortKind→Shared→Prop),zdL a s.heap h'→2≤vs.length→Q kd { s with heap:=h' }→wpAny (model prog w) A (keyKind' vs.toArray) Q E { s with heap:=h' })
  (h : ∀ out : List Value,out.Perm vs→out.Pairwise (fun x y=>κ.kle (keyV κ x) (keyV κ y))→P (.done (.ret .none)) { s with heap:=sortedHeap s.heap a vs out.toArray }) :
  wpAny (model prog w) A (Builtin.«list.sort» ⟨[.ref a],[]⟩) P E s:=by
 rw [list_sort_plain]
 have hlt0 : a < s.heap.objs.size:=Heap.lt_size ho
 refine wpAny_bind (listItems_at ho rfl ?_)
 refine wpAny_bind (listUpdate_at ho rfl ?_ (by simpa using hz) (Nat.zero_le _))
 obtain ⟨m,ho1⟩ : ∃ m,(s.heap.update a (Obj.mapSeq fun _=>#[])).get? a = some (seqObj "list" #[] m):=⟨_,get?_update_seq ho (fun _=>#[])⟩
 refine wpAny_bind (seqEpoch_at ho1 rfl ?_)
 refine wpAny_bind (wpAny_newTuple ?_ (by simpa using hz))
 refine wpAny_bind (wpAny_newList ?_)
 refine wpAny_holding ?_
 have z1 : (s.heap.update a (Obj.mapSeq fun _=>#[])).objs.size = s.heap.objs.size:=by rw [Heap.size_update]
 have hk : zdL a s.heap (((s.heap.update a (Obj.mapSeq fun _=>#[])).push (seqObj "tuple" vs.toArray 0)).push (seqObj "list" #[] 0)):=fun b o hb e=>
  Heap.get?_push_of_some _ (Heap.get?_push_of_some _ ((Heap.get?_update_other _ _ (Ne.symm hb)).trans e))
 have ho6 : (((s.heap.update a (Obj.mapSeq fun _=>#[])).push (seqObj "tuple" vs.toArray 0)).push (seqObj "list" #[] 0)).get? a = some (seqObj "list" #[] m):=Heap.get?_push_of_some _ (Heap.get?_push_of_some _ ho1)
 show wpAny (model prog w) A _ P E { s with heap:=((s.heap.update a (Obj.mapSeq fun _=>#[])).push (seqObj "tuple" vs.toArray 0)).push (seqObj "list" #[] 0) }
 dsimp only
 have fin : ∀ st' : SortSt,(arrOf st').Perm (pairsOf vs)→failedOf st' = none→Up κ (arrOf st') 0 (pairsOf vs).size→wpAny (model prog w) A (do
   let touched:=(← seqEpoch a) != m
   Builtin.List.listUpdate (.ref a) fun _=>(arrOf st').map (·.2)
   if let some e:=failedOf st' then rule "list.sort.comparison-raised"; throw e
   if touched then rule "list.sort.modified"; raiseError "ValueError" "list modified during sort"
   ret .none) P E { s with heap:=((s.heap.update a (Obj.mapSeq fun _=>#[])).push (seqObj "tuple" vs.toArray 0)).push (seqObj "list" #[] 0) }:=fun st' hp hf hU=>by
  refine wpAny_bind (seqEpoch_at ho6 rfl ?_)
  refine wpAny_bind (listUpdate_at ho6 rfl ?_ (Nat.zero_le _) (by
   refine Nat.le_trans (Nat.le_of_eq ((Array.size_map ..).trans (hp.size_eq.trans (pairsOf_size _)))) ?_
   omega))
  rw [hf]
  simp only [bne_self_eq_false,Bool.false_eq_true,if_false]
  obtain ⟨o1,o2⟩:=out_of hp hU
  have:=h _ o1 o2
  have e : ((arrOf st').toList.map (·.2)).toArray = (arrOf st').map (·.2):=by rw [← Array.toList_map,Array.toArray_toList]
  rw [e] at this
  exact wpAny_pure this
 by_cases h2 : vs.toArray.size < 2
 ·rw [if_pos h2,if_pos h2]
  refine wpAny_bind (wpAny_pure ?_)
  rw [StateT.run_pure]
  refine wpAny_bind (wpAny_pure ?_)
  refine fin (SortSt.mk' general' (vs.toArray.zip vs.toArray) #[] 7 none) (Array.Perm.refl _) rfl ?_
  intro i j q1 q2 q3
  have : i = j:=by
   rw [pairsOf_size] at q3
   simp at h2
   omega
  subst this
  exact KeyOrd.kle_refl _
 ·rw [if_neg h2,if_neg h2]
  have h2' : 2≤vs.length:=by
   simp at h2
   omega
  refine wpAny_bind (hkd _ _ _ hk h2' ?_)
  refine wpAny_bind (wpAny_mono (zj2 keys (hlt _ hk) h2' h64) ?_ fun _ _ e=>e)
  rintro ⟨⟨⟩,st'⟩ s' ⟨rfl,hp,hf,hs⟩
  exact fin st' hp hf hs
theorem zjv {l : Addr} {vs : List Value} {Q : Value→Shared→Prop} (hl : s.heap.IsList l vs.toArray) (hz : vs.length≤sizeLine) (h64 : vs.length < 64) (keys : ∀ v∈vs,∃ k,κ.keyOf v = some k)
  (hlt : ∀ h',(∀ b o,s.heap.get? b = some o→h'.get? b = some o)→LtG prog w A.in1.in1 { s with heap:=h' } κ kd)
  (hkd : ∀ (h' : Heap) (E : Value→Shared→Prop) (Q : SortKind→Shared→Prop),(∀ b o,s.heap.get? b = some o→h'.get? b = some o)→2≤vs.length→Q kd { s with heap:=h' }→wpAny (model prog w) A.in1.in1 (keyKind' vs.toArray) Q E { s with heap:=h' })
  (h : ∀ (out : List Value) (h' : Heap) (c : Nat),out.Perm vs→out.Pairwise (fun x y=>κ.kle (keyV κ x) (keyV κ y))→(∀ b o,s.heap.get? b = some o→h'.get? b = some o)→
   h'.get? (s.heap.objs.size + 1) = some (seqObj "list" out.toArray c)→Q (.ref (s.heap.objs.size + 1)) { s with heap:=h' }) :
  wpAny (model prog w) A (call (.builtin "sorted") [.ref l]) Q E s:=by
 refine Calls.call_function_entry kind_sorted plain_sorted entry_sorted (args_sorted1 _) ?_
 unfold Builtin.«sorted»
 refine wpAny_bind (m:=checkCount "sorted" 1 1 _) (wpAny_pure ?_)
 refine wpAny_bind (collect_list hl ?_ hz)
 refine wpAny_bind (wpAny_newList ?_ (by simpa using hz))
 have z1 : ((s.heap.push (seqObj "list" #[] 0)).update s.heap.objs.size (Obj.mapSeq (· ++ vs.toArray))).objs.size = s.heap.objs.size + 1:=by
  rw [Heap.size_update,size_push']
 have hn : (((s.heap.push (seqObj "list" #[] 0)).update s.heap.objs.size (Obj.mapSeq (· ++ vs.toArray))).push (seqObj "list" vs.toArray 0)).get? (s.heap.objs.size + 1) = some (seqObj "list" vs.toArray 0):=by
  rw [← z1]
  exact Heap.get?_push_size _ rfl
 have hk : ∀ b o,s.heap.get? b = some o→(((s.heap.push (seqObj "list" #[] 0)).update s.heap.objs.size (Obj.mapSeq (· ++ vs.toArray))).push (seqObj "list" vs.toArray 0)).get? b = some o:=fun b o e=>
  Heap.get?_push_of_some _ ((Heap.get?_update_other _ _ (Nat.ne_of_gt (Heap.lt_size e))).trans (Heap.get?_push_of_some _ e))
 show wpAny _ _ _ _ _ { s with heap:=((s.heap.push (seqObj "list" #[] 0)).update s.heap.objs.size (Obj.mapSeq (· ++ vs.toArray))).push (seqObj "list" vs.toArray 0) }
 rw [z1]
 generalize ((s.heap.push (seqObj "list" #[] 0)).update s.heap.objs.size (Obj.mapSeq (· ++ vs.toArray))).push (seqObj "list" vs.toArray 0) = h1 at hn hk ⊢
 have up : ∀ h',zdL (s.heap.objs.size + 1) h1 h'→∀ b o,s.heap.get? b = some o→h'.get? b = some o:=fun h' kb b o e=>kb b o (fun z=>by
  have:=Heap.lt_size e
  rw [z] at this
  exact absurd this (Nat.not_lt.mpr (Nat.le_succ _))) (hk b o e)
 refine wpAny_bind (wpAny_holding (wpAny_call_entry slot_list_sort ⟨_,hn,rfl⟩ entry_list_sort (ziJ (s:={ s with heap:=h1 }) hn hz h64 keys (fun h' kb=>hlt h' (up h' kb)) (fun h' E Q kb h2 q=>hkd h' E Q (up h' kb) h2 q) fun out p1 p2=>⟨_,rfl,?_⟩) (args_list_sort _)))
 obtain ⟨kb,c,hc⟩:=zfo (out:=out) hn
 exact wpAny_pure ⟨_,rfl,h out _ c p1 p2 (up _ kb) hc⟩
end
end Tim
namespace L2
open PySem PySem.Spec PyProof.Rows
def zme (α : Type) [Rep α] [Srt α] (K : PySem.W.Frag) : List V→Hp→VK→Prop:=fun xs H Q=>∃ (p : Addr) (vs : List V) (as : List α),xs = [.ref p]∧SqL K H p vs∧zal K H as vs∧as.length < 64∧
 ∀ l ws,H l = none→zal K H (zbX as) ws→Q (.ref l) (upd H l (.lst ws))
section
variable {X : Cx}
theorem zeC (α : Type) [Rep α] [Srt α] : zeg X (.builtin "sorted") (zme α X.K):=by
 intro pins s σ H xs us Q I r h
 obtain ⟨p,vs,as,rfl,hq,ha,h64,q⟩:=h
 obtain ⟨u,rfl,rx⟩:=zgb r
 cases rx
 obtain ⟨its,rv,pl,hz⟩:=I.list hq
 have hlen:=rv.length
 obtain ⟨km,kk⟩:=zh6 I ha rv
 refine Tim.zjv (κ:=srtKind α X.K H) (kd:=Srt.kd α) pl.isList (by omega) (by have:=ha.length; omega) (fun v hv=>?_) (fun h' k E x y a b Q hx hy q=>?_) (fun h' E Q k h2 q=>Srt.kind (Inv.kept (t':=s.toks) I k) ha rv h2 q) fun out h' c p1 p2 k hc=>?_
 ·obtain ⟨a,_,_,_,e⟩:=kk v hv
  exact ⟨a,e⟩
 ·obtain ⟨x1,r1,e1⟩:=zdq hx
  obtain ⟨y1,r2,e2⟩:=zdq hy
  exact Srt.lt (Inv.kept (t':=s.toks) I k) e1 e2 r1 r2 q
 ·obtain ⟨ws,bs,w1,w2,w3⟩:=zfm (α:=α) (K:=X.K) (H:=H) (out:=out) fun v hv=>kk v (p1.mem_iff.mp hv)
  have eb : bs = zbX as:=by
   refine zgd ?_ ?_
   ·rw [w3,← km]
    exact p1.map _
   ·rw [w3]
    exact List.pairwise_map.mpr p2
  rw [eb] at w2
  have hw : ws.length≤sizeLine:=by
   have:=w1.length
   have:=p1.length_eq
   omega
  exact ⟨.ref (s.heap.objs.size + 1),_,I.laid (a:=s.heap.objs.size + 1) (o:=.lst ws) (t':=s.toks) k (Nat.le_succ _) ⟨hw,out,c,w1,hc⟩,rfl,q _ ws (I.hok.fresh (Nat.le_succ _)) w2⟩
end
end L2
namespace L2
open PySem PySem.Spec PyProof.Rows
section
variable {X : Cx}
theorem op_inK (hu : X.A.units + 1 < cLine) : OpR X (compareOp .In) (fun x y H Q=>∃ a o,y = .ref a∧DGet H a x o∧Q (.bl o.isSome) H):=by
 intro pins s σ H x y v u Q I rx ry h
 obtain ⟨a,o,rfl,g,q⟩:=h
 cases ry
 exact d_in hu I g rx fun s' I'=>⟨.bl _,H,I',rfl,q⟩
end
end L2
namespace L2
open PySem PySem.Spec PyProof.Rows
section
variable {X : Cx}
def rSortK : List V→Hp→VK→Prop:=fun xs H Q=>∃ (p : Addr) (kvs : List (Key×V)) (zs : List Int),xs = [.ref p]∧H p = some (.dK kvs)∧kvs.map (·.1) = zs.map (fun z : Int=>(Sum.inl z : Key))∧zs.length < 64∧∀ l,H l = none→Q (.ref l) (upd H l (.lst ((zbX zs).map V.int)))
theorem zlh {P : Program} {w : World} : ∀ (kvs : List (Key×V)) (vs : List (Key×Value)) (us : List Value),KV kvs vs→us.length = vs.length→(∀ (i : Nat) (v : Value),us[i]? = some v→∃ k x,vs[i]? = some (k,x)∧(zaD P w).is k v = true)→Vals (kvs.map fun kv=>kV kv.1) us:=by
 intro kvs
 induction kvs with
 | nil=>
  intro vs us r hl _
  cases r
  have : us = []:=List.eq_nil_of_length_eq_zero hl
  subst this
  exact .nil
 | cons kv kvs ih=>
  intro vs us r hl hh
  cases r with
  | cons a b=>
   cases us with
   | nil=>cases hl
   | cons v us=>
    refine .cons ?_ (ih _ us b (Nat.succ.inj hl) fun i v e=>?_)
    ·obtain ⟨k,x,e1,e2⟩:=hh 0 v rfl
     cases e1
     have h9:=zg4 e2
     have a1 : kv.1 = k:=a.1
     rw [← a1] at h9
     exact h9
    ·have:=hh (i + 1) v (by simpa using e)
     simpa using this
theorem zjX (hc : X.calm = true) : zeg X (.builtin "sorted") rSortK:=by
 intro pins s σ H xs us Q I r h
 obtain ⟨p,kvs,zs,rfl,hq,hks,h64,q⟩:=h
 obtain ⟨v,rfl,rx⟩:=zgb r
 cases rx
 obtain ⟨hz,hne,vs,rel,o,es,ep,h1,h2,h3,h4,h5,h6⟩:=zmY I.hok hq
 have hlen : kvs.length = vs.length:=rel.length
 refine Calls.call_function_entry kind_sorted plain_sorted entry_sorted (args_sorted1 _) ?_
 unfold Builtin.«sorted»
 refine wpAny_bind (m:=checkCount "sorted" 1 1 _) (wpAny_pure ?_)
 refine wpAny_bind (PySem.W.kdu_collect (PySem.W.kdl_dict (knd:=zaD X.prog X.w) (kvs:=vs) (ep:=ep) hne) (I.ok.hd hc) ⟨o,es,h1,h2,h3,h4,h5,h6⟩ (by omega) fun h1 tk acc k hi=>?_)
 have I1 : Inv X pins σ H { s with heap:=h1,toks:=tk }:=Inv.kept (t':=tk) I k
 obtain ⟨g1,g2⟩:=hi
 have rv : Vals (zs.map V.int) acc.toList:=by
  have:=zlh (P:=X.prog) (w:=X.w) kvs vs acc.toList rel (by rw [Array.length_toList]; exact g1) fun i v e=>g2 i v (by rw [← Array.getElem?_toList]; exact e)
  have e : (kvs.map fun kv=>kV kv.1) = zs.map V.int:=by
   rw [show (kvs.map fun kv=>kV kv.1) = (kvs.map (·.1)).map kV by rw [List.map_map]; rfl,hks,List.map_map]
   rfl
  rw [e] at this
  exact this
 generalize acc.toList = us at rv ⊢
 have hul:=rv.length
 rw [List.length_map] at hul
 have ha : zal X.K H zs (zs.map V.int):=zal.ints
 have hvl : us.length≤sizeLine:=Nat.le_of_lt (Nat.lt_of_lt_of_le (by omega : us.length < 64) (by decide))
 obtain ⟨km,kk⟩:=zh6 I1 ha rv
 refine wpAny_bind (wpAny_newList ?_ (by simpa using hvl))
 have hn : (h1.push (seqObj "list" us.toArray 0)).get? h1.objs.size = some (seqObj "list" us.toArray 0):=Heap.get?_push_size _ rfl
 have k2 : ∀ b o,h1.get? b = some o→(h1.push (seqObj "list" us.toArray 0)).get? b = some o:=fun b o e=>Heap.get?_push_of_some _ e
 show wpAny _ _ _ _ _ { s with heap:=h1.push (seqObj "list" us.toArray 0),toks:=tk }
 generalize h1.push (seqObj "list" us.toArray 0) = h2 at hn k2 ⊢
 have up : ∀ h',Tim.zdL h1.objs.size h2 h'→∀ b o,h1.get? b = some o→h'.get? b = some o:=fun h' kb b o e=>kb b o (Nat.ne_of_lt (Heap.lt_size e)) (k2 b o e)
 have I2 : ∀ h',Tim.zdL h1.objs.size h2 h'→Inv X pins σ H { s with heap:=h',toks:=tk }:=fun h' kb=>Inv.kept (s:={ s with heap:=h1,toks:=tk }) (t':=tk) I1 (up h' kb)
 refine wpAny_bind (wpAny_holding (wpAny_call_entry slot_list_sort ⟨_,hn,rfl⟩ entry_list_sort (Tim.ziJ (κ:=srtKind Int X.K H) (kd:=Srt.kd Int) (s:={ s with heap:=h2,toks:=tk }) hn hvl (by omega) (fun v hv=>?_) (fun h' kb E x y a b Q hx hy q=>?_) (fun h' E Q kb h2 q=>Srt.kind (I2 h' kb) ha rv h2 q) fun out p1 p2=>⟨_,rfl,?_⟩) (args_list_sort _)))
 ·obtain ⟨a,_,_,_,e⟩:=kk v hv
  exact ⟨a,e⟩
 ·obtain ⟨x1,r1,e1⟩:=zdq hx
  obtain ⟨y1,r2,e2⟩:=zdq hy
  exact Srt.lt (I2 h' kb) e1 e2 r1 r2 q
 ·obtain ⟨kb,c,hc'⟩:=Tim.zfo (out:=out) hn
  obtain ⟨ws,bs,w1,w2,w3⟩:=zfm (α:=Int) (K:=X.K) (H:=H) (out:=out) fun v hv=>kk v (p1.mem_iff.mp hv)
  have eb : bs = zbX zs:=by
   refine zgd ?_ ?_
   ·rw [w3,← km]
    exact p1.map _
   ·rw [w3]
    exact List.pairwise_map.mpr p2
  rw [eb] at w2
  have ew:=zal.toInts w2
  have hw : ws.length≤sizeLine:=by
   have:=w1.length
   have:=p1.length_eq
   omega
  refine wpAny_pure ⟨_,rfl,.ref h1.objs.size,_,I1.laid (a:=h1.objs.size) (o:=.lst ws) (t':=tk) (up _ kb) (Nat.le_refl _) ⟨hw,out,c,w1,hc'⟩,rfl,?_⟩
  rw [ew]
  exact q _ (I1.hok.fresh (Nat.le_refl _))
end
end L2
set_option maxHeartbeats 4000000
namespace My
open PySem PySem.Spec PyProof.Rows L2
local macro_rules | `(tactic| walk_at "side")=>`(tactic| first | omega | (dsimp only; omega) | (simp only [CDiv,CDivB,CPow,CMul]; omega) | decide)
local macro_rules | `(tactic| walk_at "rd")=>`(tactic| repeat (first | (refine ⟨_,rfl,?_⟩) | (refine ⟨_,_,rfl,rfl,?_⟩) | (refine ⟨rfl,?_⟩) | (refine ⟨(by walk_at "side"),?_⟩)))
def top (i : Nat) : Stmt:=PySem.Challenge.pw_bridgefind_k73_whole_one_search_down_all.main.body.getD i (.Pass ⟨0,0,0,0⟩)
abbrev zdh : Stmt:=top 5
abbrev ziM : Stmt:=top 6
abbrev zbr : Stmt:=top 7
abbrev zcU : Stmt:=top 8
abbrev zcG : Stmt:=top 9
abbrev zby : Stmt:=top 12
abbrev zeL : Stmt:=top 13
abbrev zeO : Stmt:=top 14
abbrev zce : Stmt:=top 16
abbrev zcf : Stmt:=top 17
abbrev zdW : Stmt:=top 18
abbrev zgg : Stmt:=top 19
abbrev zeU : Stmt:=top 20
abbrev zbj : Stmt:=top 22
abbrev zdi : Stmt:=top 23
abbrev zdY : Stmt:=top 24
abbrev zeT : Stmt:=top 25
abbrev zdg : Stmt:=top 26
abbrev zbS : Stmt:=top 28
abbrev za6 : Stmt:=top 29
abbrev zcH : Stmt:=top 30
abbrev zdR : Stmt:=top 32
abbrev zcE : Stmt:=top 33
abbrev zcg : Stmt:=top 34
abbrev zdX : Stmt:=top 35
abbrev zaS : Stmt:=top 38
abbrev zdf : Stmt:=top 39
abbrev zcd : Stmt:=top 40
abbrev zeM : Stmt:=top 41
abbrev zbq : Stmt:=top 42
abbrev zdQ : Stmt:=top 44
abbrev zeN : Stmt:=top 45
abbrev zdU : Stmt:=top 47
abbrev zdT : Stmt:=top 48
abbrev zeQ : Stmt:=top 49
abbrev zgi : Stmt:=top 50
abbrev zeP : Stmt:=top 51
abbrev zgh : Stmt:=top 52
abbrev zeR : Stmt:=top 53
abbrev zdS : Stmt:=top 54
abbrev zdV : Stmt:=top 55
abbrev zcF : Stmt:=top 56
abbrev zeS : Stmt:=top 57
abbrev zaK : Stmt:=top 58
abbrev zfd : Stmt:=top 59
theorem sc_is_whole : zao ["thing"] ["thing"] (zai zdh):=⟨rfl,rfl,rfl,by decide +kernel,rfl,by decide +kernel,by decide +kernel⟩
theorem sc_code : zao ["entry","key","z"] ["entry"] (zai ziM):=⟨rfl,rfl,rfl,by decide +kernel,rfl,by decide +kernel,by decide +kernel⟩
theorem sc_how_many_below : zao ["length","is_below","low","high","middle"] ["length","is_below"] (zai zbr):=⟨rfl,rfl,rfl,by decide +kernel,rfl,by decide +kernel,by decide +kernel⟩
theorem sc_place : zao ["row","key"] ["row","key"] (zai zcU):=⟨rfl,rfl,rfl,by decide +kernel,rfl,by decide +kernel,by decide +kernel⟩
theorem sc_joined_up : zao ["lists","together","entries"] ["lists"] (zai zcG):=⟨rfl,rfl,rfl,by decide +kernel,rfl,by decide +kernel,by decide +kernel⟩
theorem sc_lowest_unlike : zao ["one","other","unlike"] ["one","other"] (zai zby):=⟨rfl,rfl,rfl,by decide +kernel,rfl,by decide +kernel,by decide +kernel⟩
theorem sc_turned : zao ["numbers","told","at","number","figure"] ["numbers"] (zai zeL):=⟨rfl,rfl,rfl,by decide +kernel,rfl,by decide +kernel,by decide +kernel⟩
theorem sc_labels : zao ["entries","numbers","turn"] ["entries"] (zai zeO):=⟨rfl,rfl,rfl,by decide +kernel,rfl,by decide +kernel,by decide +kernel⟩
theorem sc_neighbours : zao ["things","at"] ["things","at"] (zai zce):=⟨rfl,rfl,rfl,by decide +kernel,rfl,by decide +kernel,by decide +kernel⟩
theorem sc_least_free : zao ["taken"] ["taken"] (zai zcf):=⟨rfl,rfl,rfl,by decide +kernel,rfl,by decide +kernel,by decide +kernel⟩
theorem sc_colours : zao ["numbers","told","label","at"] ["numbers"] (zai zdW):=⟨rfl,rfl,rfl,by decide +kernel,rfl,by decide +kernel,by decide +kernel⟩
theorem sc_marks : zao ["entries","tints","told","colour","at"] ["entries"] (zai zgg):=⟨rfl,rfl,rfl,by decide +kernel,rfl,by decide +kernel,by decide +kernel⟩
theorem sc_handed : zao ["entries"] ["entries"] (zai zeU):=⟨rfl,rfl,rfl,by decide +kernel,rfl,by decide +kernel,by decide +kernel⟩
theorem sc_is_one_of_first : zao ["many","thing"] ["many","thing"] (zai zbj):=⟨rfl,rfl,rfl,by decide +kernel,rfl,by decide +kernel,by decide +kernel⟩
theorem sc_children : zao ["tree","knot"] ["tree","knot"] (zai zdi):=⟨rfl,rfl,rfl,by decide +kernel,rfl,by decide +kernel,by decide +kernel⟩
theorem sc_beneath : zao ["tree","knot","told","other"] ["tree","knot"] (zai zdY):=⟨rfl,rfl,rfl,by decide +kernel,rfl,by decide +kernel,by decide +kernel⟩
theorem sc_is_way : zao ["tree","thing","knot","at"] ["tree","thing"] (zai zeT):=⟨rfl,rfl,rfl,by decide +kernel,rfl,by decide +kernel,by decide +kernel⟩
theorem sc_need_way : zao ["tree","thing"] ["tree","thing"] (zai zdg):=⟨rfl,rfl,rfl,by decide +kernel,rfl,by decide +kernel,by decide +kernel⟩
theorem sc_own_entries : zao ["stand","knot"] ["stand","knot"] (zai zbS):=⟨rfl,rfl,rfl,by decide +kernel,rfl,by decide +kernel,by decide +kernel⟩
theorem sc_full_rows_beneath : zao ["stand","knot","tree","told","at","parts"] ["stand","knot"] (zai za6):=⟨rfl,rfl,rfl,by decide +kernel,rfl,by decide +kernel,by decide +kernel⟩
theorem sc_full_rows : zao ["stand","told"] ["stand"] (zai zcH):=⟨rfl,rfl,rfl,by decide +kernel,rfl,by decide +kernel,by decide +kernel⟩
theorem sc_owns_of : zao ["full","knot","told","entry"] ["full","knot"] (zai zdR):=⟨rfl,rfl,rfl,by decide +kernel,rfl,by decide +kernel,by decide +kernel⟩
theorem sc_starts_of : zao ["full","child_full","behind","at","entry","told"] ["full","child_full"] (zai zcE):=⟨rfl,rfl,rfl,by decide +kernel,rfl,by decide +kernel,by decide +kernel⟩
theorem sc_bridges_of : zao ["tree","fulls","told","knot","full","jumps"] ["tree","fulls"] (zai zcg):=⟨rfl,rfl,rfl,by decide +kernel,rfl,by decide +kernel,by decide +kernel⟩
theorem sc_bridges : zao ["stand"] ["stand"] (zai zdX):=⟨rfl,rfl,rfl,by decide +kernel,rfl,by decide +kernel,by decide +kernel⟩
theorem sc_first_place : zao ["bridges","knot","is_below"] ["bridges","knot","is_below"] (zai zaS):=⟨rfl,rfl,rfl,by decide +kernel,rfl,by decide +kernel,by decide +kernel⟩
theorem sc_start_in : zao ["bridges","knot","at","child"] ["bridges","knot","at","child"] (zai zdf):=⟨rfl,rfl,rfl,by decide +kernel,rfl,by decide +kernel,by decide +kernel⟩
theorem sc_next_place : zao ["bridges","knot","start","is_below","beyond","at"] ["bridges","knot","start","is_below"] (zai zcd):=⟨rfl,rfl,rfl,by decide +kernel,rfl,by decide +kernel,by decide +kernel⟩
theorem sc_search : zao ["bridges","way","is_below","at","told","parent","knot"] ["bridges","way","is_below"] (zai zeM):=⟨rfl,rfl,rfl,by decide +kernel,rfl,by decide +kernel,by decide +kernel⟩
theorem sc_search_beneath : zao ["bridges","knot","is_below","places","told","each","at","jump"] ["bridges","knot","is_below"] (zai zbq):=⟨rfl,rfl,rfl,by decide +kernel,rfl,by decide +kernel,by decide +kernel⟩
theorem sc_rows_on : zao ["stand","way"] ["stand","way"] (zai zdQ):=⟨rfl,rfl,rfl,by decide +kernel,rfl,by decide +kernel,by decide +kernel⟩
theorem sc_places : zao ["stand","way","key"] ["stand","way","key"] (zai zeN):=⟨rfl,rfl,rfl,by decide +kernel,rfl,by decide +kernel,by decide +kernel⟩
theorem sc_l_begin : zao ["_law_script"] ["_law_script"] (zai zdU):=⟨rfl,rfl,rfl,by decide +kernel,rfl,by decide +kernel,by decide +kernel⟩
theorem sc_l_mixed : zao ["_law_cell","_law_k","_law_one","_law_two"] ["_law_cell","_law_k"] (zai zdT):=⟨rfl,rfl,rfl,by decide +kernel,rfl,by decide +kernel,by decide +kernel⟩
theorem sc_l_take : zao ["_law_state","_law_most","_law_k","_law_script","_law_cell","_law_found"] ["_law_state","_law_most"] (zai zeQ):=⟨rfl,rfl,rfl,by decide +kernel,rfl,by decide +kernel,by decide +kernel⟩
theorem sc_l_key : zao ["_law_state","_law_way"] ["_law_state"] (zai zgi):=⟨rfl,rfl,rfl,by decide +kernel,rfl,by decide +kernel,by decide +kernel⟩
theorem sc_l_tree : zao ["_law_state","_law_most","_law_way","_law_parents","_law_k"] ["_law_state","_law_most"] (zai zeP):=⟨rfl,rfl,rfl,by decide +kernel,rfl,by decide +kernel,by decide +kernel⟩
theorem sc_l_row : zao ["_law_state","_law_most","_law_found","_law_k"] ["_law_state","_law_most"] (zai zgh):=⟨rfl,rfl,rfl,by decide +kernel,rfl,by decide +kernel,by decide +kernel⟩
theorem sc_l_rows : zao ["_law_state","_law_many","_law_most","_law_rows_here","_law_k","_law_row_here"] ["_law_state","_law_many","_law_most"] (zai zeR):=⟨rfl,rfl,rfl,by decide +kernel,rfl,by decide +kernel,by decide +kernel⟩
theorem sc_l_stand : zao ["_law_state","_law_most","_law_keys","_law_tree_here"] ["_law_state","_law_most","_law_keys"] (zai zdS):=⟨rfl,rfl,rfl,by decide +kernel,rfl,by decide +kernel,by decide +kernel⟩
theorem sc_l_asked : zao ["_law_asked_here","_law_fulls","_law_key_here","_law_knot","_law_number"] ["_law_asked_here","_law_fulls","_law_key_here","_law_knot","_law_number"] (zai zdV):=⟨rfl,rfl,rfl,by decide +kernel,rfl,by decide +kernel,by decide +kernel⟩
theorem sc_l_figures : zao ["_law_number","_law_found"] ["_law_number"] (zai zcF):=⟨rfl,rfl,rfl,by decide +kernel,rfl,by decide +kernel,by decide +kernel⟩
theorem sc_l_down : zao ["_law_tree_here","_law_knot","_law_found"] ["_law_tree_here","_law_knot"] (zai zeS):=⟨rfl,rfl,rfl,by decide +kernel,rfl,by decide +kernel,by decide +kernel⟩
theorem sc_l_ways_right : zao ["_law_bridged","_law_stand_here","_law_fulls","_law_key_here","_law_told","_law_knot","_law_down_here","_law_at","_law_asked_here","_law_is_less","_law_found","_law_more"] ["_law_bridged","_law_stand_here","_law_fulls","_law_key_here","_law_told"] (zai zaK):=⟨rfl,rfl,rfl,by decide +kernel,rfl,by decide +kernel,by decide +kernel⟩
theorem sc_law : zao ["_law_script","_law_state","_law_stand_here","_law_fulls","_law_bridged","_law_turn","_law_key_here","_law_some","_law_asked_here","_law_is_less","_law_found","_law_told"] ["_law_script"] (zai zfd):=⟨rfl,rfl,rfl,by decide +kernel,rfl,by decide +kernel,by decide +kernel⟩
abbrev zb1 : List Str:=["thing"]
abbrev zfg : List Str:=["entry"]
abbrev zaM : List Str:=["length","is_below"]
abbrev zdk : List Str:=["row","key"]
abbrev zbK : List Str:=["lists"]
abbrev za8 : List Str:=["one","other"]
abbrev zcV : List Str:=["numbers"]
abbrev zcY : List Str:=["entries"]
abbrev zbl : List Str:=["things","at"]
abbrev zbz : List Str:=["taken"]
abbrev zcv : List Str:=["numbers"]
abbrev zd0 : List Str:=["entries"]
abbrev zc3 : List Str:=["entries"]
abbrev zaT : List Str:=["many","thing"]
abbrev zbH : List Str:=["tree","knot"]
abbrev zcx : List Str:=["tree","knot"]
abbrev zc2 : List Str:=["tree","thing"]
abbrev zb0 : List Str:=["tree","thing"]
abbrev zbo : List Str:=["stand","knot"]
abbrev zaI : List Str:=["stand","knot"]
abbrev zbx : List Str:=["stand"]
abbrev zcr : List Str:=["full","knot"]
abbrev zbJ : List Str:=["full","child_full"]
abbrev zbB : List Str:=["tree","fulls"]
abbrev zcw : List Str:=["stand"]
abbrev zaW : List Str:=["bridges","knot","is_below"]
abbrev zbZ : List Str:=["bridges","knot","at","child"]
abbrev zbk : List Str:=["bridges","knot","start","is_below"]
abbrev zcW : List Str:=["bridges","way","is_below"]
abbrev za0 : List Str:=["bridges","knot","is_below"]
abbrev zcq : List Str:=["stand","way"]
abbrev zcX : List Str:=["stand","way","key"]
abbrev zcu : List Str:=["_law_script"]
abbrev zct : List Str:=["_law_cell","_law_k"]
abbrev zbA : List Str:=["_law_state","_law_most"]
abbrev zdl : List Str:=["_law_state"]
abbrev zcZ : List Str:=["_law_state","_law_most"]
abbrev zd1 : List Str:=["_law_state","_law_most"]
abbrev zc0 : List Str:=["_law_state","_law_many","_law_most"]
abbrev zcs : List Str:=["_law_state","_law_most","_law_keys"]
abbrev zbV : List Str:=["_law_asked_here","_law_fulls","_law_key_here","_law_knot","_law_number"]
abbrev zbw : List Str:=["_law_number"]
abbrev zc1 : List Str:=["_law_tree_here","_law_knot"]
abbrev za1 : List Str:=["_law_bridged","_law_stand_here","_law_fulls","_law_key_here","_law_told"]
abbrev zfU : List Str:=["_law_script"]
structure Txt (K : PySem.W.Frag) (mg : Str→Option Value) : Prop where
 m_abs : mg "abs" = none
 m_bool : mg "bool" = none
 m_dict : mg "dict" = none
 m_enumerate : mg "enumerate" = none
 m_int : mg "int" = none
 m_isinstance : mg "isinstance" = none
 m_len : mg "len" = none
 m_list : mg "list" = none
 m_max : mg "max" = none
 m_min : mg "min" = none
 m_range : mg "range" = none
 m_reversed : mg "reversed" = none
 m_sorted : mg "sorted" = none
 m_tuple : mg "tuple" = none
 m_zip : mg "zip" = none
 g_KNOT_NUMBERS : ∃ t,mg "KNOT_NUMBERS" = some (.int 64 t)
 g_TURNS : ∃ t,mg "TURNS" = some (.int 5 t)
 g_MOST_BEHIND_START : ∃ t,mg "MOST_BEHIND_START" = some (.int 2 t)
theorem zh2 (m n i j : Nat) (hi : i < 2) (hj : j < 2) : (2*m+i) &&& (2*n+j) = 2*(m &&& n) + (i &&& j):=by
 apply Nat.eq_of_testBit_eq
 intro k
 cases k with
 | zero=>
  have h1 : i = 0∨i = 1:=by omega
  have h2 : j = 0∨j = 1:=by omega
  rcases h1 with rfl | rfl <;> rcases h2 with rfl | rfl <;> simp [Nat.testBit_zero] <;> omega
 | succ k=>
  have h1 : i = 0∨i = 1:=by omega
  have h2 : j = 0∨j = 1:=by omega
  have e1 : (2*m+i)/2 = m:=by omega
  have e2 : (2*n+j)/2 = n:=by omega
  have e3 : (2*(m &&& n) + (i &&& j))/2 = m &&& n:=by
   rcases h1 with rfl | rfl <;> rcases h2 with rfl | rfl <;> simp <;> omega
  rw [Nat.testBit_and,Nat.testBit_succ,Nat.testBit_succ,Nat.testBit_succ,e1,e2,e3,Nat.testBit_and]
theorem lor_tt (m n i j : Nat) (hi : i < 2) (hj : j < 2) : (2*m+i) ||| (2*n+j) = 2*(m ||| n) + (i ||| j):=by
 apply Nat.eq_of_testBit_eq
 intro k
 cases k with
 | zero=>
  have h1 : i = 0∨i = 1:=by omega
  have h2 : j = 0∨j = 1:=by omega
  rcases h1 with rfl | rfl <;> rcases h2 with rfl | rfl <;> simp [Nat.testBit_zero] <;> omega
 | succ k=>
  have h1 : i = 0∨i = 1:=by omega
  have h2 : j = 0∨j = 1:=by omega
  have e1 : (2*m+i)/2 = m:=by omega
  have e2 : (2*n+j)/2 = n:=by omega
  have e3 : (2*(m ||| n) + (i ||| j))/2 = m ||| n:=by
   rcases h1 with rfl | rfl <;> rcases h2 with rfl | rfl <;> simp <;> omega
  rw [Nat.testBit_or,Nat.testBit_succ,Nat.testBit_succ,Nat.testBit_succ,e1,e2,e3,Nat.testBit_or]
def lu (a b : Nat) : Nat:=if a = b then 0 else if a % 2 = b % 2 then lu (a / 2) (b / 2) + 1 else 0
termination_by a + b
decreasing_by omega
theorem zh1 {a b : Nat} (hab : a≠b) (h : a % 2 = b % 2) : lu a b = lu (a / 2) (b / 2) + 1:=by
 rw [lu,if_neg hab,if_pos h]
theorem zla {a b : Nat} (h : a % 2≠b % 2) : lu a b = 0:=by
 rw [lu]; split
 ·rfl
 ·rfl
def xr (a b : Nat) : Nat:=(a ||| b) - (a &&& b)
def zex (n : Nat) : Nat:=n - (n &&& (n - 1))
theorem zhH (a b : Nat) : a &&& b≤a ||| b:=Nat.le_trans Nat.and_le_left Nat.left_le_or
theorem xr_tt (m n i j : Nat) (hi : i < 2) (hj : j < 2) : xr (2*m+i) (2*n+j) = 2 * xr m n + (if i = j then 0 else 1):=by
 unfold xr
 rw [lor_tt m n i j hi hj,zh2 m n i j hi hj]
 have q:=zhH m n
 have h1 : i = 0∨i = 1:=by omega
 have h2 : j = 0∨j = 1:=by omega
 rcases h1 with rfl | rfl <;> rcases h2 with rfl | rfl <;> simp <;> omega
theorem zj0 (a b : Nat) : xr a b = 2 * xr (a / 2) (b / 2) + (if a % 2 = b % 2 then 0 else 1):=by
 have e1 : 2 * (a / 2) + a % 2 = a:=by omega
 have e2 : 2 * (b / 2) + b % 2 = b:=by omega
 have q:=xr_tt (a / 2) (b / 2) (a % 2) (b % 2) (by omega) (by omega)
 rw [e1,e2] at q
 exact q
theorem zm7 : ∀ (n a b : Nat),a + b≤n→a≠b→0 < xr a b:=by
 intro n
 induction n with
 | zero=>intro a b h1 h2; omega
 | succ n ih=>
  intro a b h1 h2
  rw [zj0]
  by_cases h : a % 2 = b % 2
  ·have:=ih (a / 2) (b / 2) (by omega) (by omega)
   omega
  ·rw [if_neg h]; omega
theorem zof (m : Nat) : zex (2 * m + 1) = 1:=by
 unfold zex
 have q:=zh2 m m 1 0 (by omega) (by omega)
 have e : 2 * m + 1 - 1 = 2 * m + 0:=by omega
 rw [e,q]
 simp
theorem zmF (m : Nat) (h : 0 < m) : zex (2 * m) = 2 * zex m:=by
 unfold zex
 have q:=zh2 m (m - 1) 0 1 (by omega) (by omega)
 have e : 2 * m - 1 = 2 * (m - 1) + 1:=by omega
 have e' : 2 * m = 2 * m + 0:=by omega
 rw [e]
 have : (2 * m &&& 2 * (m - 1) + 1) = 2 * (m &&& m - 1) + (0 &&& 1):=q
 rw [this]
 have z : m &&& (m - 1)≤m:=Nat.and_le_left
 simp
 omega
theorem low_xr : ∀ (n a b : Nat),a + b≤n→a≠b→zex (xr a b) = 2 ^ lu a b:=by
 intro n
 induction n with
 | zero=>intro a b h1 h2; omega
 | succ n ih=>
  intro a b h1 h2
  rw [zj0]
  by_cases h : a % 2 = b % 2
  ·rw [if_pos h,zh1 h2 h,Nat.add_zero,zmF _ (zm7 n _ _ (by omega) (by omega)),ih _ _ (by omega) (by omega),Nat.pow_succ]
   omega
  ·rw [if_neg h,zla h,zof,Nat.pow_zero]
theorem zoe : ∀ (n a b : Nat),a + b≤n→a≠b→a % 2 ^ lu a b = b % 2 ^ lu a b∧a % 2 ^ (lu a b + 1)≠b % 2 ^ (lu a b + 1):=by
 intro n
 induction n with
 | zero=>intro a b h1 h2; omega
 | succ n ih=>
  intro a b h1 h2
  by_cases h : a % 2 = b % 2
  ·rw [zh1 h2 h]
   obtain ⟨q1,q2⟩:=ih (a / 2) (b / 2) (by omega) (by omega)
   have s : ∀ x k : Nat,x % 2 ^ (k + 1) = 2 * (x / 2 % 2 ^ k) + x % 2:=by
    intro x k
    rw [Nat.pow_succ,Nat.mul_comm,Nat.mod_mul]
    omega
   rw [s a,s b,s a,s b]
   constructor
   ·omega
   ·omega
  ·rw [zla h]
   simp [Nat.mod_one]
   omega
theorem lu_lt : ∀ (k a b : Nat),a≠b→a < 2 ^ k→b < 2 ^ k→lu a b < k:=by
 intro k
 induction k with
 | zero=>intro a b h1 h2 h3; simp at h2 h3; omega
 | succ k ih=>
  intro a b h1 h2 h3
  by_cases h : a % 2 = b % 2
  ·rw [zh1 h1 h]
   have:=ih (a / 2) (b / 2) (by omega) (by rw [Nat.pow_succ] at h2; omega) (by rw [Nat.pow_succ] at h3; omega)
   omega
  ·rw [zla h]; omega
def fig (a b : Nat) : Nat:=2 * lu a b + b / 2 ^ lu a b % 2
theorem zgI (a b : Nat) : fig a b / 2 = lu a b:=by
 unfold fig
 have:=Nat.mod_lt (b / 2 ^ lu a b) (by decide : 0 < 2)
 omega
theorem zid (a b : Nat) : fig a b % 2 = b / 2 ^ lu a b % 2:=by
 unfold fig
 have:=Nat.mod_lt (b / 2 ^ lu a b) (by decide : 0 < 2)
 omega
theorem zev (x k : Nat) : x % 2 ^ (k + 1) = x % 2 ^ k + 2 ^ k * (x / 2 ^ k % 2):=by
 rw [Nat.pow_succ,Nat.mod_mul]
theorem znv {a b : Nat} (h : a≠b) : a / 2 ^ lu a b % 2≠b / 2 ^ lu a b % 2:=by
 obtain ⟨h1,h2⟩:=zoe _ a b (Nat.le_refl _) h
 intro e
 apply h2
 rw [zev,zev,h1,e]
theorem fig_ne {a b c : Nat} (h2 : b≠c) : fig a b≠fig b c:=by
 intro e
 have e1 : lu a b = lu b c:=by rw [← zgI,e,zgI]
 have e2 : b / 2 ^ lu a b % 2 = c / 2 ^ lu b c % 2:=by rw [← zid,e,zid]
 rw [e1] at e2
 exact znv h2 e2
theorem zox {a b : Nat} (h : a≠b) : a % 2≠fig a b:=by
 intro e
 have l : a % 2 < 2:=Nat.mod_lt _ (by decide)
 have e1 : lu a b = 0:=by
  have:=zgI a b
  omega
 have e2:=zid a b
 have e3:=znv h
 rw [e1] at e2 e3
 simp at e2 e3
 omega
theorem fig_lt {a b k : Nat} (h : a≠b) (ha : a < 2 ^ k) (hb : b < 2 ^ k) : fig a b < 2 * k:=by
 have:=lu_lt k a b h ha hb
 have:=Nat.mod_lt (b / 2 ^ lu a b) (by decide : 0 < 2)
 unfold fig
 omega
def zdv (xs : List Nat) (i : Nat) : Nat:=if i = 0 then xs.getD 0 0 % 2 else fig (xs.getD (i - 1) 0) (xs.getD i 0)
def zck (xs : List Nat) : List Nat:=(List.range xs.length).map (zdv xs)
theorem zbe (xs : List Nat) : (zck xs).length = xs.length:=by unfold zck; rw [List.length_map,List.length_range]
theorem ze8 {xs : List Nat} {i : Nat} (h : i < xs.length) : (zck xs)[i]? = some (zdv xs i):=by
 unfold zck
 rw [List.getElem?_map,List.getElem?_range h]
 rfl
theorem zeh {xs : List Nat} {i : Nat} (h : i < xs.length) : (zck xs).getD i 0 = zdv xs i:=by
 rw [List.getD_eq_getElem?_getD,ze8 h]; rfl
theorem zjq {xs : List Nat} {i : Nat} (h : i < xs.length) : (zck xs).take (i + 1) = (zck xs).take i ++ [zdv xs i]:=by
 have h' : i < (zck xs).length:=by rw [zbe]; exact h
 rw [List.take_succ_eq_append_getElem h']
 have:=ze8 h
 rw [List.getElem?_eq_getElem h'] at this
 rw [Option.some.inj this]
def Unl (xs : List Nat) : Prop:=∀ i,i + 1 < xs.length→xs.getD i 0≠xs.getD (i + 1) 0
theorem zj8 {xs : List Nat} (h : Unl xs) : Unl (zck xs):=by
 intro i hi
 rw [zbe] at hi
 rw [zeh (by omega),zeh hi]
 unfold zdv
 rw [if_neg (by omega : ¬ i + 1 = 0),Nat.add_sub_cancel]
 by_cases h0 : i = 0
 ·subst h0
  rw [if_pos rfl]
  exact zox (h 0 hi)
 ·rw [if_neg h0]
  exact fig_ne (h i hi)
def zcS (m : Nat) (xs : List Nat) : Prop:=∀ i,i < xs.length→xs.getD i 0 < m
theorem zbW {xs : List Nat} {k : Nat} (hk : 1≤k) (h : Unl xs) (hb : zcS (2 ^ k) xs) : zcS (2 * k) (zck xs):=by
 intro i hi
 rw [zbe] at hi
 rw [zeh hi]
 unfold zdv
 split
 ·have : xs.getD 0 0 % 2 < 2:=Nat.mod_lt _ (by decide)
  omega
 ·have:=h (i - 1) (by omega)
  rw [show i - 1 + 1 = i by omega] at this
  exact fig_lt this (hb _ (by omega)) (hb _ hi)
theorem znG (a b : Nat) : Builtin.bitXor (a : Int) (b : Int) = ((xr a b : Nat) : Int):=by
 have h1 : Builtin.bitAnd (a : Int) (b : Int) = ((a &&& b : Nat) : Int):=by
  unfold Builtin.bitAnd
  rw [decide_eq_true (Int.natCast_nonneg a),decide_eq_true (Int.natCast_nonneg b)]
  rfl
 have n1 : ¬ (0 : Int)≤Builtin.bitNot (a : Int):=by unfold Builtin.bitNot; omega
 have n2 : ¬ (0 : Int)≤Builtin.bitNot (b : Int):=by unfold Builtin.bitNot; omega
 have h2 : Builtin.bitOr (a : Int) (b : Int) = ((a ||| b : Nat) : Int):=by
  unfold Builtin.bitOr Builtin.bitAnd
  rw [decide_eq_false n1,decide_eq_false n2]
  have e : ∀ x : Int,Builtin.bitNot (Builtin.bitNot x) = x:=fun x=>by unfold Builtin.bitNot; omega
  show Builtin.bitNot (Builtin.bitNot _) = _
  rw [e,e,e]
  rfl
 unfold Builtin.bitXor xr
 rw [h1,h2]
 have:=zhH a b
 omega
theorem zoE (n : Nat) (h : 0 < n) : Builtin.bitAnd (n : Int) (-(n : Int)) = ((zex n : Nat) : Int):=by
 have n2 : ¬ (0 : Int)≤-(n : Int):=by omega
 have e : (Builtin.bitNot (-(n : Int))).toNat = n - 1:=by unfold Builtin.bitNot; omega
 unfold Builtin.bitAnd zex
 rw [decide_eq_true (Int.natCast_nonneg n),decide_eq_false n2]
 show (n : Int) - (((n : Int).toNat &&& (Builtin.bitNot (-(n : Int))).toNat : Nat) : Int) = _
 rw [e,Int.toNat_natCast]
 have : n &&& (n - 1)≤n:=Nat.and_le_left
 omega
theorem low_is (a b : Nat) (h : a≠b) : ((Builtin.Int.intBits (Builtin.bitAnd (Builtin.bitXor (a : Int) (b : Int)) (-(Builtin.bitXor (a : Int) (b : Int)))) : Nat) : Int) - 1 = ((lu a b : Nat) : Int):=by
 rw [znG,zoE _ (zm7 _ a b (Nat.le_refl _) h),low_xr _ a b (Nat.le_refl _) h]
 unfold Builtin.Int.intBits
 have p : 0 < 2 ^ lu a b:=Nat.two_pow_pos _
 rw [if_neg (by
  intro z
  have z':=eq_of_beq z
  omega),Int.natAbs_natCast,Nat.log2_two_pow]
 omega
def atZ {α : Type} (l : List α) (i : Int) : Option α:=if 0≤i then l[i.toNat]? else none
theorem zcQ {α : Type} (l : List α) (i : Nat) : atZ l (i : Int) = l[i]?:=by
 unfold atZ
 rw [if_pos (Int.natCast_nonneg i),Int.toNat_natCast]
theorem zgQ {α : Type} {l : List α} {i : Int} (h : i < 0) : atZ l i = none:=by
 unfold atZ
 rw [if_neg (by omega)]
theorem zgP {α : Type} {l : List α} {i : Int} {x : α} (h : atZ l i = some x) : 0≤i∧i < l.length:=by
 unfold atZ at h
 split at h
 ·have:=(List.getElem?_eq_some_iff.mp h).1
  omega
 ·cases h
theorem znE {α : Type} {l : List α} {i : Int} (h0 : 0≤i) (h : i < l.length) : ∃ x,atZ l i = some x:=by
 unfold atZ
 rw [if_pos h0]
 exact ⟨_,List.getElem?_eq_getElem (by omega)⟩
def zjJ {α β : Type} (f : Option α→α→Option α→β) : Option α→List α→List β
 | _,[]=>[]
 | p,x :: l=>f p x l.head? :: zjJ f (some x) l
def mapW {α β : Type} (f : Option α→α→Option α→β) (l : List α) : List β:=zjJ f none l
theorem zcz {α β : Type} (f : Option α→α→Option α→β) : ∀ (l : List α) (p : Option α) (k : Nat),(zjJ f p l)[k]? = l[k]?.map fun x=>f (if k = 0 then p else l[k - 1]?) x l[k + 1]?
 | [],_,_=>rfl
 | x :: l,p,0=>by
  show some (f p x l.head?) = some (f p x l[0]?)
  rw [List.head?_eq_getElem?]
 | x :: l,p,k + 1=>by
  show (zjJ f (some x) l)[k]? = l[k]?.map fun y=>f (x :: l)[k]? y l[k + 1]?
  rw [zcz f l (some x) k]
  cases k with
  | zero=>rfl
  | succ k=>rfl
theorem zew {α β : Type} (f : Option α→α→Option α→β) : ∀ (l : List α) (p : Option α),(zjJ f p l).length = l.length
 | [],_=>rfl
 | x :: l,p=>by
  show (zjJ f (some x) l).length + 1 = l.length + 1
  rw [zew f l]
theorem zbI {α β : Type} (f : Option α→α→Option α→β) (l : List α) : (mapW f l).length = l.length:=zew f l none
theorem zcJ {α β : Type} (f : Option α→α→Option α→β) (l : List α) (i : Int) : atZ (mapW f l) i = (atZ l i).map fun x=>f (atZ l (i - 1)) x (atZ l (i + 1)):=by
 by_cases h : 0≤i
 ·obtain ⟨k,rfl⟩ : ∃ k : Nat,i = (k : Int):=⟨i.toNat,by omega⟩
  rw [zcQ,zcQ,mapW,zcz,show ((k : Int) + 1) = ((k + 1 : Nat) : Int) by omega,zcQ]
  have e : atZ l ((k : Int) - 1) = if k = 0 then none else l[k - 1]?:=by
   split
   ·rw [zgQ (by omega)]
   ·rw [show ((k : Int) - 1) = ((k - 1 : Nat) : Int) by omega,zcQ]
  rw [e]
 ·rw [zgQ (l:=mapW f l) (by omega),zgQ (l:=l) (i:=i) (by omega)]
  rfl
def Near {α : Type} (a b : Int) (l m : List α) (i j : Int) : Prop:=∀ d : Int,a≤d→d≤b→atZ l (i + d) = atZ m (j + d)
theorem Near.mapW {α β : Type} {f : Option α→α→Option α→β} {a b : Int} {l m : List α} {i j : Int} (h : Near (a - 1) (b + 1) l m i j) : Near a b (mapW f l) (mapW f m) i j:=by
 intro d h1 h2
 rw [zcJ,zcJ,h d (by omega) (by omega)]
 have e1:=h (d - 1) (by omega) (by omega)
 have e2:=h (d + 1) (by omega) (by omega)
 rw [show i + d - 1 = i + (d - 1) by omega,show j + d - 1 = j + (d - 1) by omega,show i + d + 1 = i + (d + 1) by omega,show j + d + 1 = j + (d + 1) by omega,e1,e2]
theorem Near.mono {α : Type} {a b a' b' : Int} {l m : List α} {i j : Int} (h : Near a b l m i j) (h1 : a≤a') (h2 : b'≤b) : Near a' b' l m i j:=fun d x y=>h d (by omega) (by omega)
theorem Near.map {α β : Type} {f : α→β} {a b : Int} {l m : List α} {i j : Int} (h : Near a b l m i j) : Near a b (l.map f) (m.map f) i j:=by
 have e : ∀ (l : List α) (i : Int),atZ (l.map f) i = (atZ l i).map f:=fun l i=>by
  unfold atZ
  split
  ·rw [List.getElem?_map]
  ·rfl
 intro d h1 h2
 rw [e,e,h d h1 h2]
def turnF (p : Option Nat) (x : Nat) (_ : Option Nat) : Nat:=match p with
 | none=>x % 2
 | some y=>fig y x
theorem zfM (xs : List Nat) : zck xs = mapW turnF xs:=by
 apply List.ext_getElem?
 intro k
 by_cases h : k < xs.length
 ·rw [ze8 h,mapW,zcz,List.getElem?_eq_getElem h]
  unfold zdv turnF
  cases k with
  | zero=>simp [List.getD_eq_getElem?_getD,List.getElem?_eq_getElem h]
  | succ k=>simp [List.getD_eq_getElem?_getD,List.getElem?_eq_getElem h,List.getElem?_eq_getElem (show k < xs.length by omega)]
 ·rw [List.getElem?_eq_none (by rw [zbe]; omega),List.getElem?_eq_none (by rw [zbI]; omega)]
theorem Near.turn {a b : Int} {l m : List Nat} {i j : Int} (h : Near (a - 1) b l m i j) : Near a b (zck l) (zck m) i j:=by
 rw [zfM,zfM]
 intro d h1 h2
 rw [zcJ,zcJ,h d (by omega) (by omega)]
 have e1:=h (d - 1) (by omega) (by omega)
 rw [show i + d - 1 = i + (d - 1) by omega,show j + d - 1 = j + (d - 1) by omega,e1]
 cases atZ m (j + d) <;> rfl
def UnlZ (xs : List Nat) : Prop:=∀ (i : Int) (x y : Nat),atZ xs i = some x→atZ xs (i + 1) = some y→x≠y
theorem unlZ {xs : List Nat} (h : Unl xs) : UnlZ xs:=by
 intro i x y hx hy
 obtain ⟨a,b⟩:=zgP hx
 obtain ⟨_,c⟩:=zgP hy
 obtain ⟨k,rfl⟩ : ∃ k : Nat,i = (k : Int):=⟨i.toNat,by omega⟩
 rw [zcQ] at hx
 rw [show ((k : Int) + 1) = ((k + 1 : Nat) : Int) by omega,zcQ] at hy
 have:=h k (by omega)
 rw [List.getD_eq_getElem?_getD,List.getD_eq_getElem?_getD,hx,hy] at this
 exact this
theorem zm9 {xs : List Nat} (h : UnlZ xs) : Unl xs:=by
 intro k hk
 have:=h k xs[k] xs[k + 1] (by rw [zcQ]; exact List.getElem?_eq_getElem (by omega)) (by rw [show ((k : Int) + 1) = ((k + 1 : Nat) : Int) by omega,zcQ]; exact List.getElem?_eq_getElem hk)
 rw [List.getD_eq_getElem?_getD,List.getD_eq_getElem?_getD,List.getElem?_eq_getElem (show k < xs.length by omega),List.getElem?_eq_getElem hk]
 exact this
def zeF (p n : Option Nat) : Nat:=if p≠some 0∧n≠some 0 then 0 else if p≠some 1∧n≠some 1 then 1 else 2
theorem zje (p n : Option Nat) : zeF p n≤2:=by
 unfold zeF
 split
 ·omega
 ·split <;> omega
theorem zen {p n : Option Nat} {x : Nat} (h : p = some x) : zeF p n≠x:=by
 subst h
 unfold zeF
 split
 ·rename_i c
  intro z
  exact c.1 (by rw [← z])
 ·split
  ·rename_i c
   intro z
   exact c.1 (by rw [← z])
  ·rename_i c d
   intro z
   subst z
   have c1 : n = some 0:=Decidable.byContradiction fun q=>c ⟨by decide,q⟩
   have d1 : n = some 1:=Decidable.byContradiction fun q=>d ⟨by decide,q⟩
   rw [c1] at d1
   cases d1
theorem zjQ (p n : Option Nat) : zeF p n = zeF n p:=by
 unfold zeF
 simp only [And.comm]
theorem zf2 {p n : Option Nat} {x : Nat} (h : n = some x) : zeF p n≠x:=by
 rw [zjQ]
 exact zen h
def recF (v : Nat) (p : Option Nat) (x : Nat) (n : Option Nat) : Nat:=if x = v then zeF p n else x
def recL (v : Nat) (xs : List Nat) : List Nat:=mapW (recF v) xs
theorem za7 (v : Nat) (xs : List Nat) : (recL v xs).length = xs.length:=zbI _ _
theorem zeW {v : Nat} {xs : List Nat} (h : UnlZ xs) : UnlZ (recL v xs):=by
 intro i x y hx hy
 unfold recL at hx hy
 rw [zcJ] at hx hy
 cases ex : atZ xs i with
 | none=>rw [ex] at hx; cases hx
 | some x0=>
  cases ey : atZ xs (i + 1) with
  | none=>rw [ey] at hy; cases hy
  | some y0=>
   rw [ex] at hx
   rw [ey] at hy
   have hx : x = recF v (atZ xs (i - 1)) x0 (atZ xs (i + 1)):=(Option.some.inj hx).symm
   have hy : y = recF v (atZ xs (i + 1 - 1)) y0 (atZ xs (i + 1 + 1)):=(Option.some.inj hy).symm
   have n0:=h i x0 y0 ex ey
   have e1 : i + 1 - 1 = i:=by omega
   unfold recF at hx hy
   rw [e1,ex] at hy
   rw [ey] at hx
   split at hx
   ·rename_i c
    split at hy
    ·rename_i c'
     omega
    ·rw [hx,hy]
     exact zf2 rfl
   ·split at hy
    ·rw [hx,hy]
     exact (zen rfl).symm
    ·omega
theorem zgl {v : Nat} {P : Nat→Prop} {xs : List Nat} (hP : ∀ x,x≤2→P x) (h : ∀ i x,atZ xs i = some x→x = v∨P x) : ∀ i x,atZ (recL v xs) i = some x→P x:=by
 intro i x hx
 unfold recL at hx
 rw [zcJ] at hx
 cases ex : atZ xs i with
 | none=>rw [ex] at hx; cases hx
 | some x0=>
  rw [ex] at hx
  have hx : x = recF v (atZ xs (i - 1)) x0 (atZ xs (i + 1)):=(Option.some.inj hx).symm
  unfold recF at hx
  split at hx
  ·rw [hx]
   exact hP _ (zje _ _)
  ·rw [hx]
   rcases h i x0 ex with q | q
   ·exact absurd q (by assumption)
   ·exact q
def colL (xs : List Nat) : List Nat:=recL 5 (recL 4 (recL 3 xs))
theorem zfv (xs : List Nat) : (colL xs).length = xs.length:=by
 unfold colL
 rw [za7,za7,za7]
theorem zji {xs : List Nat} (h : UnlZ xs) : UnlZ (colL xs):=zeW (zeW (zeW h))
theorem zoz {xs : List Nat} (h : ∀ i x,atZ xs i = some x→x≤5) : ∀ i x,atZ (colL xs) i = some x→x≤2:=by
 refine zgl (P:=fun x=>x≤2) (fun x h=>h) ?_
 refine zgl (P:=fun x=>x = 5∨x≤2) (fun x h=>.inr h) ?_
 refine zgl (P:=fun x=>x = 4∨x = 5∨x≤2) (fun x h=>.inr (.inr h)) ?_
 intro i x e
 have:=h i x e
 omega
theorem Near.col {a b : Int} {l m : List Nat} {i j : Int} (h : Near (a - 3) (b + 3) l m i j) : Near a b (colL l) (colL m) i j:=
 Near.mapW (Near.mapW (Near.mapW (h.mono (by omega) (by omega))))
def zmE (sh : Nat) (p : Option (Nat×Bool)) (x : Nat×Bool) (n : Option (Nat×Bool)) : Nat×Bool:=
 (x.1,x.2 || (decide (x.1 = sh) && p.isSome && !(p.map (·.2)).getD false && !(n.map (·.2)).getD false))
def zcb (sh : Nat) (l : List (Nat×Bool)) : List (Nat×Bool):=mapW (zmE sh) l
def zcp (c : List Nat) : List (Nat×Bool):=c.map fun x=>(x,false)
def marked (c : List Nat) : List (Nat×Bool):=zcb 0 (zcb 1 (zcb 2 (zcp c)))
def zc8 (c : List Nat) : List Bool:=(marked c).map (·.2)
theorem zgA (c : List Nat) : (marked c).length = c.length:=by
 unfold marked zcb zcp
 rw [zbI,zbI,zbI,List.length_map]
theorem zd8 (c : List Nat) : (zc8 c).length = c.length:=by
 unfold zc8
 rw [List.length_map,zgA]
theorem zdP (c : List Nat) (i : Int) : atZ (zcp c) i = (atZ c i).map fun x=>(x,false):=by
 unfold zcp atZ
 split
 ·rw [List.getElem?_map]
 ·rfl
theorem zg3 (c : List Nat) (i : Int) : atZ (zcb 2 (zcp c)) i = (atZ c i).map fun x=>(x,decide (x = 2) && (atZ c (i - 1)).isSome):=by
 unfold zcb
 rw [zcJ,zdP,zdP,zdP]
 cases atZ c i with
 | none=>rfl
 | some x=>
  show some _ = some _
  unfold zmE
  cases atZ c (i - 1) <;> cases atZ c (i + 1) <;> simp
theorem Near.marks {a b : Int} {l m : List Nat} {i j : Int} (h : Near (a - 2) (b + 2) l m i j) (hs : (atZ l (i + (a - 3))).isSome = (atZ m (j + (a - 3))).isSome) : Near a b (zc8 l) (zc8 m) i j:=by
 refine Near.map ?_
 refine Near.mapW (Near.mapW ?_)
 intro d h1 h2
 have e:=h d (by omega) (by omega)
 rw [zg3,zg3,e]
 have e' : (atZ l (i + d - 1)).isSome = (atZ m (j + d - 1)).isSome:=by
  by_cases c : d = a - 2
  ·subst c
   rw [show i + (a - 2) - 1 = i + (a - 3) by omega,show j + (a - 2) - 1 = j + (a - 3) by omega]
   exact hs
  ·rw [show i + d - 1 = i + (d - 1) by omega,show j + d - 1 = j + (d - 1) by omega,h (d - 1) (by omega) (by omega)]
 rw [e']
def mkZ (l : List (Nat×Bool)) (i : Int) : Bool:=((atZ l i).map (·.2)).getD false
def clZ (l : List (Nat×Bool)) (i : Int) : Option Nat:=(atZ l i).map (·.1)
theorem zod (sh : Nat) (l : List (Nat×Bool)) (i : Int) : clZ (zcb sh l) i = clZ l i:=by
 unfold clZ zcb
 rw [zcJ]
 cases atZ l i <;> rfl
theorem zgB (sh : Nat) (l : List (Nat×Bool)) (i : Int) : mkZ (zcb sh l) i = (mkZ l i || (decide (clZ l i = some sh) && (clZ l (i - 1)).isSome && !mkZ l (i - 1) && !mkZ l (i + 1))):=by
 unfold mkZ clZ zcb
 rw [zcJ]
 cases atZ l i with
 | none=>simp
 | some x=>
  unfold zmE
  cases atZ l (i - 1) <;> cases atZ l (i + 1) <;> simp
structure MkOk (c : List Nat) (l : List (Nat×Bool)) : Prop where
 cl : ∀ i,clZ l i = atZ c i
 ind : ∀ i,mkZ l i = true→mkZ l (i + 1) = true→False
 fst : ∀ i,mkZ l i = true→(atZ c (i - 1)).isSome = true∧(atZ c i).isSome = true
theorem zeJ (c : List Nat) : MkOk c (zcp c):=by
 have e : ∀ i,mkZ (zcp c) i = false:=fun i=>by
  unfold mkZ
  rw [zdP]
  cases atZ c i <;> rfl
 refine ⟨fun i=>?_,fun i h=>?_,fun i h=>?_⟩
 ·unfold clZ
  rw [zdP]
  cases atZ c i <;> rfl
 ·rw [e] at h
  cases h
 ·rw [e] at h
  cases h
theorem zel {c : List Nat} {l : List (Nat×Bool)} {sh : Nat} (hu : UnlZ c) (h : MkOk c l) : MkOk c (zcb sh l):=by
 refine ⟨fun i=>by rw [zod,h.cl],fun i h1 h2=>?_,fun i h1=>?_⟩
 ·rw [zgB] at h1 h2
  simp only [Bool.or_eq_true,Bool.and_eq_true,decide_eq_true_eq,Bool.not_eq_true'] at h1 h2
  rw [show i + 1 - 1 = i by omega] at h2
  rcases h1 with h1 | h1 <;> rcases h2 with h2 | h2
  ·exact h.ind i h1 h2
  ·rw [h1] at h2
   exact absurd h2.1.2 (by decide)
  ·rw [h2] at h1
   exact absurd h1.2 (by decide)
  ·have a:=h1.1.1.1
   have b:=h2.1.1.1
   rw [h.cl] at a b
   exact hu i sh sh a b rfl
 ·rw [zgB] at h1
  simp only [Bool.or_eq_true,Bool.and_eq_true,decide_eq_true_eq,Bool.not_eq_true'] at h1
  rcases h1 with h1 | h1
  ·exact h.fst i h1
  ·refine ⟨?_,?_⟩
   ·rw [← h.cl]
    exact h1.1.1.2
   ·rw [← h.cl,h1.1.1.1]
    rfl
theorem zbg {sh : Nat} {l : List (Nat×Bool)} {i : Int} (h : mkZ l i = true) : mkZ (zcb sh l) i = true:=by
 rw [zgB,h]
 rfl
theorem zgC {c : List Nat} {l : List (Nat×Bool)} {sh : Nat} {i : Int} (h : MkOk c l) (hc : atZ c i = some sh) (hp : (atZ c (i - 1)).isSome = true) : mkZ (zcb sh l) (i - 1) = true∨mkZ (zcb sh l) i = true∨mkZ (zcb sh l) (i + 1) = true:=by
 by_cases a : mkZ l (i - 1) = true
 ·exact .inl (zbg a)
 ·by_cases b : mkZ l (i + 1) = true
  ·exact .inr (.inr (zbg b))
  ·refine .inr (.inl ?_)
   rw [zgB,h.cl,h.cl,hc,hp,Bool.eq_false_iff.mpr a,Bool.eq_false_iff.mpr b]
   simp
theorem zhf {c : List Nat} (hu : UnlZ c) : MkOk c (marked c):=zel hu (zel hu (zel hu (zeJ c)))
theorem zjI {c : List Nat} (hu : UnlZ c) (hc : ∀ i x,atZ c i = some x→x≤2) {i : Int} (h1 : (atZ c (i - 1)).isSome = true) (h2 : (atZ c i).isSome = true) : mkZ (marked c) (i - 1) = true∨mkZ (marked c) i = true∨mkZ (marked c) (i + 1) = true:=by
 obtain ⟨x,hx⟩:=Option.isSome_iff_exists.mp h2
 have hle:=hc i x hx
 have z : x = 2∨x = 1∨x = 0:=by omega
 rcases z with rfl | rfl | rfl
 ·rcases zgC (zeJ c) hx h1 with q | q | q
  ·exact .inl (zbg (zbg q))
  ·exact .inr (.inl (zbg (zbg q)))
  ·exact .inr (.inr (zbg (zbg q)))
 ·rcases zgC (zel (sh:=2) hu (zeJ c)) hx h1 with q | q | q
  ·exact .inl (zbg q)
  ·exact .inr (.inl (zbg q))
  ·exact .inr (.inr (zbg q))
 ·exact zgC (zel (sh:=1) hu (zel (sh:=2) hu (zeJ c))) hx h1
structure zde (ms : List Bool) : Prop where
 fst : ms.getD 0 false = false
 ind : ∀ i,ms.getD i false = true→ms.getD (i + 1) false = true→False
 dom : ∀ i,1≤i→i < ms.length→ms.getD (i - 1) false = true∨ms.getD i false = true∨ms.getD (i + 1) false = true
theorem zb8 (c : List Nat) (i : Nat) : (zc8 c).getD i false = mkZ (marked c) (i : Int):=by
 unfold mkZ zc8
 rw [zcQ,List.getD_eq_getElem?_getD,List.getElem?_map]
theorem zk8 {c : List Nat} (hu : UnlZ c) (hc : ∀ i x,atZ c i = some x→x≤2) : zde (zc8 c):=by
 refine ⟨?_,fun i h1 h2=>?_,fun i h1 h2=>?_⟩
 ·rw [zb8]
  cases e : mkZ (marked c) ((0 : Nat) : Int) with
  | false=>rfl
  | true=>
   have:=((zhf hu).fst _ e).1
   rw [zgQ (by omega)] at this
   cases this
 ·rw [zb8] at h1 h2
  exact (zhf hu).ind i h1 h2
 ·rw [zd8] at h2
  have a : (atZ c ((i : Int) - 1)).isSome = true:=by
   obtain ⟨x,hx⟩:=znE (l:=c) (i:=(i : Int) - 1) (by omega) (by omega)
   rw [hx]
   rfl
  have b : (atZ c (i : Int)).isSome = true:=by
   obtain ⟨x,hx⟩:=znE (l:=c) (i:=(i : Int)) (by omega) (by omega)
   rw [hx]
   rfl
  rcases zjI hu hc a b with q | q | q
  ·refine .inl ?_
   rw [zb8,show ((i - 1 : Nat) : Int) = (i : Int) - 1 by omega]
   exact q
  ·refine .inr (.inl ?_)
   rw [zb8]
   exact q
  ·refine .inr (.inr ?_)
   rw [zb8]
   exact q
theorem zib {p n : Option Nat} {y : Nat} (h : y < zeF p n) : p = some y∨n = some y:=by
 unfold zeF at h
 split at h
 ·omega
 ·rename_i c
  have c0 : p = some 0∨n = some 0:=Decidable.byContradiction fun q=>c ⟨fun z=>q (.inl z),fun z=>q (.inr z)⟩
  split at h
  ·have : y = 0:=by omega
   subst this
   exact c0
  ·rename_i d
   have d0 : p = some 1∨n = some 1:=Decidable.byContradiction fun q=>d ⟨fun z=>q (.inl z),fun z=>q (.inr z)⟩
   have : y = 0∨y = 1:=by omega
   rcases this with rfl | rfl
   ·exact c0
   ·exact d0
def zaY (xs : List Nat) (k : Nat) : List Nat:=(if k = 0 then none else xs[k - 1]?).toList ++ xs[k + 1]?.toList
theorem zfA {xs : List Nat} {k y : Nat} : y∈zaY xs k↔(if k = 0 then none else xs[k - 1]?) = some y∨xs[k + 1]? = some y:=by
 unfold zaY
 rw [List.mem_append,Option.mem_toList,Option.mem_toList]
def zdB (xs : List Nat) (k : Nat) : Nat:=zeF (if k = 0 then none else xs[k - 1]?) xs[k + 1]?
theorem zjP {xs : List Nat} {k : Nat} : zdB xs k∉zaY xs k:=fun h=>by
 rcases zfA.mp h with q | q
 ·exact zen q rfl
 ·exact zf2 q rfl
theorem zho {xs : List Nat} {k y : Nat} (h : y < zdB xs k) : y∈zaY xs k:=zfA.mpr (zib h)
theorem zlz (xs : List Nat) (k : Nat) : zdB xs k≤2:=zje _ _
theorem zgk {v : Nat} {xs : List Nat} {k : Nat} (h : k < xs.length) : (recL v xs)[k]? = some (if xs.getD k 0 = v then zdB xs k else xs.getD k 0):=by
 unfold recL mapW
 rw [zcz,List.getD_eq_getElem?_getD,List.getElem?_eq_getElem h]
 rfl
def mixL (v : Nat) (xs : List Nat) (k : Nat) : List Nat:=(recL v xs).take k ++ xs.drop k
theorem zmD {v : Nat} {xs : List Nat} {k : Nat} (h : xs.length≤k) : mixL v xs k = recL v xs:=by
 unfold mixL
 rw [List.take_of_length_le (by rw [za7]; exact h),List.drop_eq_nil_of_le h,List.append_nil]
theorem zfl (v : Nat) (xs : List Nat) (k : Nat) : (mixL v xs k).length = xs.length:=by
 unfold mixL
 rw [List.length_append,List.length_take,List.length_drop,za7]
 omega
theorem zdo (v : Nat) (xs : List Nat) (k j : Nat) : (mixL v xs k)[j]? = if j < k then (recL v xs)[j]? else xs[j]?:=by
 unfold mixL
 by_cases hk : k≤xs.length
 ·rw [List.getElem?_append,List.length_take,za7,Nat.min_eq_left hk]
  split
  ·rw [List.getElem?_take]
   rw [if_pos (by assumption)]
  ·rw [List.getElem?_drop]
   congr 1
   omega
 ·rw [List.drop_eq_nil_of_le (by omega),List.append_nil,List.take_of_length_le (by rw [za7]; omega)]
  split
  ·rfl
  ·rw [List.getElem?_eq_none (by rw [za7]; omega),List.getElem?_eq_none (by omega)]
theorem zk7 {v : Nat} {xs : List Nat} {k j : Nat} (h : k≤j) : (mixL v xs k)[j]? = xs[j]?:=by
 rw [zdo,if_neg (by omega)]
theorem zk5 {v : Nat} {xs : List Nat} {k : Nat} (h : k < xs.length) (hv : xs.getD k 0≠v) : mixL v xs (k + 1) = mixL v xs k:=by
 apply List.ext_getElem?
 intro j
 rw [zdo,zdo]
 by_cases c : j < k
 ·rw [if_pos c,if_pos (by omega)]
 ·rw [if_neg c]
  split
  ·have : j = k:=by omega
   subst this
   rw [zgk h,if_neg hv,List.getD_eq_getElem?_getD,List.getElem?_eq_getElem h]
   rfl
  ·rfl
theorem zk6 {v : Nat} {xs : List Nat} {k : Nat} (hu : Unl xs) (h : k < xs.length) (hv : xs.getD k 0 = v) : (if k = 0 then none else (mixL v xs k)[k - 1]?) = if k = 0 then none else xs[k - 1]?:=by
 cases k with
 | zero=>rfl
 | succ k=>
  show (mixL v xs (k + 1))[k]? = xs[k]?
  rw [zdo,if_pos (by omega),zgk (by omega)]
  have:=hu k h
  rw [hv] at this
  rw [if_neg this,List.getD_eq_getElem?_getD,List.getElem?_eq_getElem (show k < xs.length by omega)]
  rfl
theorem zhY {v : Nat} {xs : List Nat} {k : Nat} (hu : Unl xs) (h : k < xs.length) (hv : xs.getD k 0 = v) : zaY (mixL v xs k) k = zaY xs k:=by
 unfold zaY
 rw [zk6 hu h hv,zk7 (j:=k + 1) (by omega)]
theorem zmC {v : Nat} {xs : List Nat} {k : Nat} (h : k < xs.length) (hv : xs.getD k 0 = v) : mixL v xs (k + 1) = (mixL v xs k).set k (zdB xs k):=by
 apply List.ext_getElem?
 intro j
 rw [List.getElem?_set,zfl,zdo,zdo]
 by_cases c : k = j
 ·subst c
  rw [if_pos rfl,if_pos h,if_pos (by omega),zgk h,if_pos hv]
 ·rw [if_neg c]
  by_cases c2 : j < k
  ·rw [if_pos c2,if_pos (by omega)]
  ·rw [if_neg c2,if_neg (by omega)]
def zb6 (sh : Nat) (cs : List Nat) (ms : List Bool) : List Bool:=(zcb sh (cs.zip ms)).map (·.2)
theorem zaU {sh : Nat} {cs : List Nat} {ms : List Bool} (h : cs.length = ms.length) : (zb6 sh cs ms).length = ms.length:=by
 unfold zb6 zcb
 rw [List.length_map,zbI,List.length_zip]
 omega
theorem zhL {cs : List Nat} : ∀ {ms : List Bool},cs.length = ms.length→(cs.zip ms).map (·.1) = cs:=by
 induction cs with
 | nil=>intro ms _; rfl
 | cons c cs ih=>
  intro ms h
  cases ms with
  | nil=>cases h
  | cons m ms=>
   show c :: (cs.zip ms).map (·.1) = c :: cs
   rw [ih (Nat.succ.inj h)]
theorem zit : ∀ (l : List (Nat×Bool)),(l.map (·.1)).zip (l.map (·.2)) = l
 | []=>rfl
 | x :: l=>by
  show x :: (l.map (·.1)).zip (l.map (·.2)) = x :: l
  rw [zit l]
theorem zk9 (sh : Nat) (l : List (Nat×Bool)) : (zcb sh l).map (·.1) = l.map (·.1):=by
 apply List.ext_getElem?
 intro k
 unfold zcb mapW
 rw [List.getElem?_map,List.getElem?_map,zcz]
 cases l[k]? <;> rfl
theorem zhg {sh : Nat} {cs : List Nat} {ms : List Bool} (h : cs.length = ms.length) : zcb sh (cs.zip ms) = cs.zip (zb6 sh cs ms):=by
 have e:=zit (zcb sh (cs.zip ms))
 rw [zk9,zhL h] at e
 exact e.symm
theorem zki (cs : List Nat) : zcp cs = cs.zip (cs.map fun _=>false):=by
 unfold zcp
 induction cs with
 | nil=>rfl
 | cons c cs ih=>
  show (c,false) :: cs.map (fun x=>(x,false)) = (c,false) :: cs.zip (cs.map fun _=>false)
  rw [ih]
theorem zhe (cs : List Nat) : zc8 cs = zb6 0 cs (zb6 1 cs (zb6 2 cs (cs.map fun _=>false))):=by
 have l1 : cs.length = (cs.map fun _=>false).length:=by rw [List.length_map]
 have l2 : cs.length = (zb6 2 cs (cs.map fun _=>false)).length:=by rw [zaU l1,← l1]
 unfold zc8 marked
 rw [zki,zhg l1,zhg l2]
 rfl
theorem zdn {sh : Nat} {cs : List Nat} {ms : List Bool} (hl : cs.length = ms.length) {k : Nat} (h : k < cs.length) : (zb6 sh cs ms)[k]? = some (ms.getD k false || (decide (cs.getD k 0 = sh) && decide (1≤k) && !ms.getD (k - 1) false && !ms.getD (k + 1) false)):=by
 unfold zb6 zcb mapW
 have gz : ∀ j,(cs.zip ms)[j]? = if h : j < cs.length then some (cs[j],ms[j]'(by omega)) else none:=fun j=>by
  split
  ·rename_i q
   rw [List.getElem?_eq_getElem (by rw [List.length_zip]; omega),List.getElem_zip]
  ·exact List.getElem?_eq_none (by rw [List.length_zip]; omega)
 have gm : ∀ j,ms.getD j false = (((cs.zip ms)[j]?).map (·.2)).getD false:=fun j=>by
  rw [gz]
  split
  ·rw [List.getD_eq_getElem?_getD,List.getElem?_eq_getElem (by omega)]
   rfl
  ·rw [List.getD_eq_getElem?_getD,List.getElem?_eq_none (by omega)]
   rfl
 rw [List.getElem?_map,zcz,gm k,gm (k + 1),gm (k - 1),List.getD_eq_getElem?_getD,List.getElem?_eq_getElem h]
 have e:=gz k
 rw [dif_pos h] at e
 rw [e]
 show some _ = some _
 unfold zmE
 cases k with
 | zero=>simp
 | succ k=>
  have e2:=gz k
  rw [dif_pos (by omega)] at e2
  simp [e2]
def mixM (sh : Nat) (cs : List Nat) (ms : List Bool) (k : Nat) : List Bool:=(zb6 sh cs ms).take k ++ ms.drop k
theorem zmB {sh : Nat} {cs : List Nat} {ms : List Bool} (hl : cs.length = ms.length) {k : Nat} (h : cs.length≤k) : mixM sh cs ms k = zb6 sh cs ms:=by
 unfold mixM
 rw [List.take_of_length_le (by rw [zaU hl]; omega),List.drop_eq_nil_of_le (by omega),List.append_nil]
theorem zfk {sh : Nat} {cs : List Nat} {ms : List Bool} (hl : cs.length = ms.length) (k : Nat) : (mixM sh cs ms k).length = cs.length:=by
 unfold mixM
 rw [List.length_append,List.length_take,List.length_drop,zaU hl]
 omega
theorem zch {sh : Nat} {cs : List Nat} {ms : List Bool} (hl : cs.length = ms.length) (k j : Nat) : (mixM sh cs ms k)[j]? = if j < k then (zb6 sh cs ms)[j]? else ms[j]?:=by
 unfold mixM
 by_cases hk : k≤ms.length
 ·rw [List.getElem?_append,List.length_take,zaU hl,Nat.min_eq_left hk]
  split
  ·rw [List.getElem?_take]
   rw [if_pos (by assumption)]
  ·rw [List.getElem?_drop]
   congr 1
   omega
 ·rw [List.drop_eq_nil_of_le (by omega),List.append_nil,List.take_of_length_le (by rw [zaU hl]; omega)]
  split
  ·rfl
  ·rw [List.getElem?_eq_none (by rw [zaU hl]; omega),List.getElem?_eq_none (by omega)]
def znD (ms : List Bool) (k : Nat) : Bool:=!ms.getD (k - 1) false && !ms.getD k false && !ms.getD (k + 1) false
theorem zk3 {sh : Nat} {cs : List Nat} {ms : List Bool} (hl : cs.length = ms.length) {k : Nat} (h : k < cs.length) (hn : ¬ (1≤k∧cs.getD k 0 = sh∧znD ms k = true)) : mixM sh cs ms (k + 1) = mixM sh cs ms k:=by
 apply List.ext_getElem?
 intro j
 rw [zch hl,zch hl]
 by_cases c : j < k
 ·rw [if_pos c,if_pos (by omega)]
 ·rw [if_neg c]
  split
  ·have : j = k:=by omega
   subst this
   rw [zdn hl h]
   unfold znD at hn
   rw [List.getElem?_eq_getElem (by omega)]
   have e : ms.getD j false = ms[j]'(by omega):=by
    rw [List.getD_eq_getElem?_getD,List.getElem?_eq_getElem (by omega)]
    rfl
   rw [e] at hn ⊢
   congr 1
   generalize ms[j] = a at hn ⊢
   generalize ms.getD (j - 1) false = b at hn ⊢
   generalize ms.getD (j + 1) false = d at hn ⊢
   cases a <;> cases b <;> cases d <;> simp at hn ⊢
   intro q
   omega
  ·rfl
structure zdd (ms : List Bool) (sp : List Nat) : Prop where
 up : sp.Pairwise (· < ·)
 iff : ∀ j,j∈sp↔ms.getD j false = true
theorem zmc (ms : List Bool) : zdd ms ((List.range ms.length).filter fun k=>ms.getD k false):=by
 refine ⟨List.Pairwise.filter _ List.pairwise_lt_range,fun j=>?_⟩
 rw [List.mem_filter,List.mem_range]
 constructor
 ·exact fun h=>h.2
 ·intro h
  refine ⟨?_,h⟩
  rw [List.getD_eq_getElem?_getD] at h
  cases e : ms[j]? with
  | none=>rw [e] at h; cases h
  | some x=>exact (List.getElem?_eq_some_iff.mp e).1
theorem zdd.lt {ms : List Bool} {sp : List Nat} (S : zdd ms sp) {j : Nat} (h : j∈sp) : j < ms.length:=by
 have h:=(S.iff j).mp h
 rw [List.getD_eq_getElem?_getD] at h
 cases e : ms[j]? with
 | none=>rw [e] at h; cases h
 | some x=>exact (List.getElem?_eq_some_iff.mp e).1
theorem zdd.step {ms : List Bool} {sp : List Nat} (S : zdd ms sp) (M : zde ms) {t : Nat} (h : t + 1 < sp.length) : sp[t] + 2≤sp[t + 1]∧sp[t + 1]≤sp[t] + 3:=by
 have up:=List.pairwise_iff_getElem.mp S.up
 have lt:=up t (t + 1) (by omega) h (by omega)
 have m0:=(S.iff _).mp (List.getElem_mem (show t < sp.length by omega))
 have m1:=(S.iff _).mp (List.getElem_mem h)
 have l1:=S.lt (List.getElem_mem h)
 have no : ∀ j,sp[t] < j→j < sp[t + 1]→ms.getD j false = false:=fun j a b=>by
  cases e : ms.getD j false with
  | false=>rfl
  | true=>
   obtain ⟨u,hu,q⟩:=List.getElem_of_mem ((S.iff j).mpr e)
   have c1 : ¬ u≤t:=fun z=>by
    by_cases z' : u = t
    ·subst z'; omega
    ·have:=up u t hu (by omega) (by omega)
     omega
   have c2 : ¬ t + 1≤u:=fun z=>by
    by_cases z' : u = t + 1
    ·subst z'; omega
    ·have:=up (t + 1) u h hu (by omega)
     omega
   omega
 refine ⟨?_,?_⟩
 ·by_cases c : sp[t + 1] = sp[t] + 1
  ·rw [c] at m1
   exact (M.ind _ m0 m1).elim
  ·omega
 ·refine Nat.le_of_not_lt fun c=>?_
  rcases M.dom (sp[t] + 2) (by omega) (by omega) with q | q | q
  ·rw [no (sp[t] + 2 - 1) (by omega) (by omega)] at q
   cases q
  ·rw [no (sp[t] + 2) (by omega) (by omega)] at q
   cases q
  ·rw [no (sp[t] + 2 + 1) (by omega) (by omega)] at q
   cases q
theorem zdd.first {ms : List Bool} {sp : List Nat} (S : zdd ms sp) (M : zde ms) (h : 2≤ms.length) : ∃ hp : 0 < sp.length,1≤sp[0]∧sp[0]≤2:=by
 have ex : ∃ j,j≤2∧ms.getD j false = true:=by
  rcases M.dom 1 (by omega) (by omega) with q | q | q
  ·exact ⟨0,by omega,q⟩
  ·exact ⟨1,by omega,q⟩
  ·exact ⟨2,by omega,q⟩
 obtain ⟨j,hj,e⟩:=ex
 obtain ⟨u,hu,q⟩:=List.getElem_of_mem ((S.iff j).mpr e)
 refine ⟨by omega,?_,?_⟩
 ·have m0:=(S.iff _).mp (List.getElem_mem (show 0 < sp.length by omega))
  refine Nat.pos_of_ne_zero fun z=>?_
  rw [z,M.fst] at m0
  cases m0
 ·by_cases c : u = 0
  ·subst c; omega
  ·have:=List.pairwise_iff_getElem.mp S.up 0 u (by omega) hu (by omega)
   omega
theorem zdd.last {ms : List Bool} {sp : List Nat} (S : zdd ms sp) (M : zde ms) (h : 2≤ms.length) (hp : 0 < sp.length) : ms.length≤sp[sp.length - 1] + 2:=by
 have ex : ∃ j,ms.length - 2≤j∧ms.getD j false = true:=by
  rcases M.dom (ms.length - 1) (by omega) (by omega) with q | q | q
  ·exact ⟨_,by omega,q⟩
  ·exact ⟨_,by omega,q⟩
  ·exact ⟨_,by omega,q⟩
 obtain ⟨j,hj,e⟩:=ex
 obtain ⟨u,hu,q⟩:=List.getElem_of_mem ((S.iff j).mpr e)
 by_cases c : u = sp.length - 1
 ·subst c; omega
 ·have:=List.pairwise_iff_getElem.mp S.up u (sp.length - 1) hu (by omega) (by omega)
  omega
theorem zdd.low {ms : List Bool} {sp : List Nat} (S : zdd ms sp) (M : zde ms) : ∀ (t : Nat) (h : t < sp.length),2 * t + 1≤sp[t]
 | 0,h=>by
  have m0:=(S.iff _).mp (List.getElem_mem h)
  refine Nat.pos_of_ne_zero fun z=>?_
  rw [z,M.fst] at m0
  cases m0
 | t + 1,h=>by
  have a:=zdd.low S M t (by omega)
  have b:=(S.step M h).1
  omega
theorem zdd.half {ms : List Bool} {sp : List Nat} (S : zdd ms sp) (M : zde ms) : 2 * sp.length≤ms.length:=by
 by_cases c : sp.length = 0
 ·omega
 ·have a:=S.low M (sp.length - 1) (by omega)
  have b:=S.lt (List.getElem_mem (show sp.length - 1 < sp.length by omega))
  omega
theorem zdd.none {ms : List Bool} {sp : List Nat} (S : zdd ms sp) (M : zde ms) (h : ms.length < 2) : sp = []:=by
 have:=S.half M
 exact List.eq_nil_of_length_eq_zero (by omega)
def zcM {α : Type} (es : List α) (ms : List Bool) : List α:=((es.zip ms).filter (·.2)).map (·.1)
structure Ats (P : Nat→Bool) (n : Nat) (l : List Nat) : Prop where
 up : l.Pairwise (· < ·)
 iff : ∀ j,j∈l↔j < n∧P j = true
theorem Ats.get {P : Nat→Bool} {n : Nat} {l : List Nat} (A : Ats P n l) {j : Nat} (h : j < l.length) : l[j] < n∧P l[j] = true:=(A.iff _).mp (List.getElem_mem h)
theorem Ats.first {P : Nat→Bool} {n : Nat} {l : List Nat} (A : Ats P n l) {i : Nat} (h : i < l.getD 0 n) (hn : i < n) : P i = false:=by
 cases e : P i with
 | false=>rfl
 | true=>
  obtain ⟨u,hu,q⟩:=List.getElem_of_mem ((A.iff i).mpr ⟨hn,e⟩)
  have h0 : l.getD 0 n = l[0]'(by omega):=by
   rw [List.getD_eq_getElem?_getD,List.getElem?_eq_getElem (by omega)]
   rfl
  rw [h0] at h
  by_cases c : u = 0
  ·subst c; omega
  ·have:=List.pairwise_iff_getElem.mp A.up 0 u (by omega) hu (by omega)
   omega
theorem Ats.next {P : Nat→Bool} {n : Nat} {l : List Nat} (A : Ats P n l) {j : Nat} (hj : j < l.length) {i : Nat} (h1 : l[j] < i) (h : i < l.getD (j + 1) n) (hn : i < n) : P i = false:=by
 cases e : P i with
 | false=>rfl
 | true=>
  obtain ⟨u,hu,q⟩:=List.getElem_of_mem ((A.iff i).mpr ⟨hn,e⟩)
  have up:=List.pairwise_iff_getElem.mp A.up
  have c1 : j < u:=by
   refine Nat.lt_of_not_le fun z=>?_
   by_cases c : u = j
   ·subst c; omega
   ·have:=up u j hu hj (by omega)
    omega
  have h0 : l.getD (j + 1) n = l[j + 1]'(by omega):=by
   rw [List.getD_eq_getElem?_getD,List.getElem?_eq_getElem (by omega)]
   rfl
  rw [h0] at h
  by_cases c : u = j + 1
  ·subst c; omega
  ·have:=up (j + 1) u (by omega) hu (by omega)
   omega
theorem Ats.le {P : Nat→Bool} {n : Nat} {l : List Nat} (A : Ats P n l) (j : Nat) : l.getD j n≤n:=by
 rw [List.getD_eq_getElem?_getD]
 by_cases h : j < l.length
 ·rw [List.getElem?_eq_getElem h]
  exact Nat.le_of_lt (A.get h).1
 ·rw [List.getElem?_eq_none (by omega)]
  exact Nat.le_refl _
def atsL (v : Nat) (xs : List Nat) : List Nat:=(List.range xs.length).filter fun k=>decide (xs.getD k 0 = v)
def colN (xs : List Nat) : Nat→List Nat
 | 0=>xs
 | i + 1=>recL (3 + i) (colN xs i)
theorem zii (xs : List Nat) (i : Nat) : (colN xs i).length = xs.length:=by
 induction i with
 | zero=>rfl
 | succ i ih=>rw [colN,za7,ih]
theorem zm1 {xs : List Nat} (h : Unl xs) (i : Nat) : Unl (colN xs i):=by
 induction i with
 | zero=>exact h
 | succ i ih=>exact zm9 (zeW (unlZ ih))
def mkN (cs : List Nat) : Nat→List Bool
 | 0=>cs.map fun _=>false
 | i + 1=>zb6 (2 - i) cs (mkN cs i)
theorem zk2 (cs : List Nat) : mkN cs 3 = zc8 cs:=(zhe cs).symm
theorem zjG (cs : List Nat) (i : Nat) : cs.length = (mkN cs i).length:=by
 induction i with
 | zero=>rw [mkN,List.length_map]
 | succ i ih=>rw [mkN,zaU ih,ih]
theorem zmA {sh : Nat} {cs : List Nat} {ms : List Bool} (hl : cs.length = ms.length) : mixM sh cs ms 1 = ms:=by
 by_cases h : 0 < cs.length
 ·rw [zk3 hl h (fun z=>by omega)]
  rfl
 ·have : ms = []:=List.eq_nil_of_length_eq_zero (by omega)
  subst this
  unfold mixM
  rw [List.eq_nil_of_length_eq_zero (show (zb6 sh cs []).length = 0 by rw [zaU hl]; rfl)]
  rfl
def zaA (ps : List Nat) : Prop:=∀ i (h : i < ps.length),ps[i]≤i
def par (ps : List Nat) : Nat→Option Nat
 | 0=>none
 | k + 1=>ps[k]?
theorem zaO {ps : List Nat} (T : zaA ps) {k p : Nat} (h : par ps k = some p) : p < k∧k < ps.length + 1:=by
 cases k with
 | zero=>cases h
 | succ k=>
  obtain ⟨h1,rfl⟩:=List.getElem?_eq_some_iff.mp (show ps[k]? = some p from h)
  have:=T k h1
  omega
theorem zgr {ps : List Nat} {k : Nat} (h1 : 1≤k) (h2 : k < ps.length + 1) : ∃ p,par ps k = some p:=by
 cases k with
 | zero=>omega
 | succ k=>exact ⟨_,List.getElem?_eq_getElem (show k < ps.length by omega)⟩
theorem zmj {ps : List Nat} {k : Nat} (h2 : k < ps.length + 1) (h : par ps k = none) : k = 0:=by
 cases k with
 | zero=>rfl
 | succ k=>
  have:=List.getElem?_eq_none_iff.mp (show ps[k]? = none from h)
  omega
def wayF (ps : List Nat) (one : Nat) : Nat→Nat→Option (List Nat)
 | 0,_=>none
 | f + 1,o=>if o = one then some [o] else match par ps o with
  | none=>none
  | some p=>(wayF ps one f p).map (· ++ [o])
theorem zgU {ps : List Nat} (T : zaA ps) {one : Nat} : ∀ f g o,o < f→o < g→wayF ps one f o = wayF ps one g o
 | 0,_,_,h,_=>absurd h (Nat.not_lt_zero _)
 | _,0,_,_,h=>absurd h (Nat.not_lt_zero _)
 | f + 1,g + 1,o,hf,hg=>by
  unfold wayF
  split
  ·rfl
  ·cases e : par ps o with
   | none=>rfl
   | some p=>
    have:=(zaO T e).1
    show (wayF ps one f p).map _ = (wayF ps one g p).map _
    rw [zgU T f g p (by omega) (by omega)]
def wayL (ps : List Nat) (one o : Nat) : Option (List Nat):=wayF ps one (o + 1) o
theorem zj4 {ps : List Nat} {o : Nat} : wayL ps o o = some [o]:=by
 unfold wayL wayF
 rw [if_pos rfl]
theorem zdM {ps : List Nat} (T : zaA ps) {one o : Nat} (h : o≠one) : wayL ps one o = match par ps o with
  | none=>none
  | some p=>(wayL ps one p).map (· ++ [o]):=by
 unfold wayL
 rw [wayF,if_neg h]
 cases e : par ps o with
 | none=>rfl
 | some p=>
  show (wayF ps one o p).map _ = (wayF ps one (p + 1) p).map _
  rw [zgU T o (p + 1) p (zaO T e).1 (by omega)]
theorem zj5 {ps : List Nat} (T : zaA ps) {one : Nat} : ∀ n o,o≤n→o < one→wayL ps one o = none
 | n,o,hn,h=>by
  rw [zdM T (by omega)]
  cases e : par ps o with
  | none=>rfl
  | some p=>
   have hp:=(zaO T e).1
   show (wayL ps one p).map _ = none
   cases n with
   | zero=>omega
   | succ n=>rw [zj5 T n p (by omega) (by omega)]; rfl
def zis (ps : List Nat) (w : List Nat) : Prop:=∀ t,t + 1 < w.length→par ps (w.getD (t + 1) 0) = some (w.getD t 0)
theorem zlO {ps : List Nat} {w : List Nat} (h : zis ps w) (i m : Nat) : zis ps ((w.drop i).take m):=fun t ht=>by
 rw [List.length_take,List.length_drop] at ht
 rw [List.getD_eq_getElem?_getD,List.getD_eq_getElem?_getD,List.getElem?_take,List.getElem?_take,if_pos (by omega),if_pos (by omega),List.getElem?_drop,List.getElem?_drop,← List.getD_eq_getElem?_getD,← List.getD_eq_getElem?_getD]
 exact h (i + t) (by omega)
def isB (ps : List Nat) (k j : Nat) : Bool:=(wayL ps k j).isSome
def benL (ps : List Nat) (k n : Nat) : List Nat:=(List.range n).filter (isB ps k)
theorem zci {ps : List Nat} {k : Nat} : isB ps k k = true:=by
 unfold isB
 rw [zj4]
 rfl
theorem zda {ps : List Nat} (T : zaA ps) {k j : Nat} (h : j < k) : isB ps k j = false:=by
 unfold isB
 rw [zj5 T j j (Nat.le_refl _) h]
 rfl
theorem zbs {ps : List Nat} (T : zaA ps) {k j p : Nat} (h : j≠k) (e : par ps j = some p) : isB ps k j = isB ps k p:=by
 unfold isB
 rw [zdM T h,e]
 show ((wayL ps k p).map _).isSome = _
 cases wayL ps k p <;> rfl
theorem zm4 {ps : List Nat} (T : zaA ps) (k : Nat) : benL ps k (k + 1) = [k]:=by
 unfold benL
 rw [List.range_succ,List.filter_append]
 have e1 : (List.range k).filter (isB ps k) = []:=by
  rw [List.filter_eq_nil_iff]
  intro j hj z
  rw [zda T (List.mem_range.mp hj)] at z
  cases z
 rw [e1,List.nil_append,List.filter_cons_of_pos zci]
 rfl
theorem zbT {ps : List Nat} {k n j : Nat} : j∈benL ps k n↔j < n∧isB ps k j = true:=by
 unfold benL
 rw [List.mem_filter,List.mem_range]
theorem zfB {ps : List Nat} {k n : Nat} : benL ps k (n + 1) = benL ps k n ++ (if isB ps k n = true then [n] else []):=by
 unfold benL
 rw [List.range_succ,List.filter_append]
 congr 1
 by_cases h : isB ps k n = true
 ·rw [if_pos h,List.filter_cons_of_pos h]
  rfl
 ·rw [if_neg h,List.filter_cons_of_neg h]
  rfl
theorem zgM (ps : List Nat) (k n : Nat) : (benL ps k n).length≤n:=by
 have:=List.length_filter_le (isB ps k) (List.range n)
 rw [List.length_range] at this
 exact this
theorem zim (ps : List Nat) (k n : Nat) : (benL ps k n).Pairwise (· < ·):=List.Pairwise.filter _ List.pairwise_lt_range
theorem zja {ps : List Nat} (T : zaA ps) : ∀ n j,j≤n→j < ps.length + 1→isB ps 0 j = true
 | n,j,hn,h=>by
  by_cases c : j = 0
  ·rw [c]
   exact zci
  ·obtain ⟨p,e⟩:=zgr (by omega) h
   have:=(zaO T e).1
   rw [zbs T c e]
   cases n with
   | zero=>omega
   | succ n=>exact zja T n p (by omega) (by omega)
theorem zhD {ps : List Nat} (T : zaA ps) : benL ps 0 (ps.length + 1) = List.range (ps.length + 1):=by
 unfold benL
 rw [List.filter_eq_self]
 exact fun j hj=>zja T j j (Nat.le_refl _) (List.mem_range.mp hj)
def zaF (ps : List Nat) (k n : Nat) : List Nat:=(List.range n).filter fun j=>decide (par ps j = some k)
theorem zay {ps : List Nat} {k n j : Nat} : j∈zaF ps k n↔j < n∧par ps j = some k:=by
 unfold zaF
 rw [List.mem_filter,List.mem_range,decide_eq_true_eq]
theorem zfz {ps : List Nat} {k n : Nat} : zaF ps k (n + 1) = zaF ps k n ++ (if par ps n = some k then [n] else []):=by
 unfold zaF
 rw [List.range_succ,List.filter_append]
 congr 1
 by_cases h : par ps n = some k
 ·rw [if_pos h,List.filter_cons_of_pos (by exact decide_eq_true h)]
  rfl
 ·rw [if_neg h,List.filter_cons_of_neg (by rw [decide_eq_false h]; decide)]
  rfl
theorem zdr (ps : List Nat) (k n : Nat) : (zaF ps k n).length≤n:=by
 have:=List.length_filter_le (fun j=>decide (par ps j = some k)) (List.range n)
 rw [List.length_range] at this
 exact this
theorem zhx (ps : List Nat) (k n : Nat) : (zaF ps k n).Pairwise (· < ·):=List.Pairwise.filter _ List.pairwise_lt_range
theorem zea {ps : List Nat} (T : zaA ps) {k : Nat} : ∀ n j,j≤n→j < ps.length + 1→(isB ps k j = true↔j = k∨∃ c,par ps c = some k∧isB ps c j = true)
 | n,j,hn,h=>by
  by_cases c : j = k
  ·constructor
   ·exact fun _=>.inl c
   ·intro _
    rw [c]
    exact zci
  ·cases e : par ps j with
   | none=>
    have j0:=zmj h e
    have no : ∀ m,j≠m→isB ps m j = false:=fun m hm=>by
     unfold isB
     rw [zdM T hm,e]
     rfl
    constructor
    ·intro z
     rw [no k c] at z
     cases z
    ·rintro (z | ⟨d,hd,z⟩)
     ·exact absurd z c
     ·by_cases y : j = d
      ·rw [← y,e] at hd
       cases hd
      ·rw [no d y] at z
       cases z
   | some p=>
    have hp:=(zaO T e).1
    cases n with
    | zero=>omega
    | succ n=>
     have ih:=zea T (k:=k) n p (by omega) (by omega)
     rw [zbs T c e,ih]
     constructor
     ·rintro (z | ⟨d,hd,z⟩)
      ·refine .inr ⟨j,?_,zci⟩
       rw [e,z]
      ·by_cases y : j = d
       ·rw [← y] at z
        rw [zda T hp] at z
        cases z
       ·exact .inr ⟨d,hd,by rw [zbs T y e]; exact z⟩
     ·rintro (z | ⟨d,hd,z⟩)
      ·exact absurd z c
      ·by_cases y : j = d
       ·subst y
        rw [e] at hd
        exact .inl (Option.some.inj hd)
       ·rw [zbs T y e] at z
        exact .inr ⟨d,hd,z⟩
theorem zeb {ps : List Nat} (T : zaA ps) {k c d : Nat} (hc : par ps c = some k) (hd : par ps d = some k) (hcd : c≠d) : ∀ n j,j≤n→isB ps c j = true→isB ps d j = true→False
 | n,j,hn,h1,h2=>by
  by_cases e1 : j = c
  ·subst e1
   rw [zbs T hcd hc,zda T (zaO T hd).1] at h2
   cases h2
  ·by_cases e2 : j = d
   ·subst e2
    rw [zbs T e1 hd,zda T (zaO T hc).1] at h1
    cases h1
   ·cases e : par ps j with
    | none=>
     unfold isB at h1
     rw [zdM T e1,e] at h1
     cases h1
    | some p=>
     have hp:=(zaO T e).1
     rw [zbs T e1 e] at h1
     rw [zbs T e2 e] at h2
     cases n with
     | zero=>omega
     | succ n=>exact zeb T hc hd hcd n p (by omega) h1 h2
theorem zjy {ps : List Nat} (T : zaA ps) {k : Nat} (hk : k < ps.length + 1) : (k :: ((zaF ps k (ps.length + 1)).map fun c=>benL ps c (ps.length + 1)).flatten).Perm (benL ps k (ps.length + 1)):=by
 have lt : ∀ {l : List Nat},l.Pairwise (· < ·)→l.Nodup:=fun h=>List.Pairwise.imp (fun {a b} (q : a < b)=>Nat.ne_of_lt q) h
 refine (List.perm_ext_iff_of_nodup ?_ (lt (zim ps k _))).mpr fun j=>?_
 ·rw [List.nodup_cons]
  refine ⟨fun h=>?_,?_⟩
  ·obtain ⟨l,hl,hj⟩:=List.mem_flatten.mp h
   obtain ⟨c,hc,rfl⟩:=List.mem_map.mp hl
   have h1:=(zay.mp hc).2
   have h2:=(zbT.mp hj).2
   rw [zda T (zaO T h1).1] at h2
   cases h2
  ·show List.Pairwise _ _
   rw [List.pairwise_flatten]
   refine ⟨fun l hl=>?_,?_⟩
   ·obtain ⟨c,hc,rfl⟩:=List.mem_map.mp hl
    exact lt (zim ps c _)
   ·rw [List.pairwise_map]
    refine List.Pairwise.imp_of_mem (fun {c d} hc hd hcd=>?_) (zhx ps k _)
    intro x hx y hy z
    subst z
    exact zeb T (zay.mp hc).2 (zay.mp hd).2 (Nat.ne_of_lt hcd) x x (Nat.le_refl _) (zbT.mp hx).2 (zbT.mp hy).2
 ·rw [List.mem_cons,List.mem_flatten,zbT]
  constructor
  ·rintro (rfl | ⟨l,hl,hj⟩)
   ·exact ⟨hk,zci⟩
   ·obtain ⟨c,hc,rfl⟩:=List.mem_map.mp hl
    obtain ⟨h1,h2⟩:=zbT.mp hj
    exact ⟨h1,(zea T j j (Nat.le_refl _) h1).mpr (.inr ⟨c,(zay.mp hc).2,h2⟩)⟩
  ·rintro ⟨h1,h2⟩
   rcases (zea T j j (Nat.le_refl _) h1).mp h2 with q | ⟨c,hc,q⟩
   ·exact .inl q
   ·exact .inr ⟨_,List.mem_map.mpr ⟨c,zay.mpr ⟨(zaO T hc).2,hc⟩,rfl⟩,zbT.mpr ⟨h1,q⟩⟩
seal PSs PS PE PT PW PA PI PG PO
section
variable {P : Program} {w : World} {K : PySem.W.Frag} {mg : Str→Option Value} {base : Heap}
theorem zmq (T : Txt K mg) (D_l_mixed : DF K mg "_law_mixed" zdT zct) : FC P w K mg base 1 "_law_mixed" zct zkp:=by
 refine D_l_mixed.ok sc_l_mixed (fun vs H Q E h=>?_) (fun f cdv A outer s H vs Q E hr h=>?_)
 ·obtain ⟨c,k,rfl,_⟩:=h
  rfl
 obtain ⟨c,k,rfl,q⟩:=h
 refine ⟨_,(zaf (zaq (i:=2) sc_l_mixed.nd rfl (Or.inl rfl) (zax zeu (zax zb5 (zax zbf (zax zbf (zax zeu (pv 0) zae) (zax zb5 zae (pv 1))) zae) zae) zae))
   (zaf (zaq (i:=3) sc_l_mixed.nd rfl (Or.inl rfl) (zax zeu (zax zbf (zax zbf (zax zb5 (pv 2) (pv 2)) (zax zb5 zae (pv 2))) (pv 1)) zae))
   (zah (zat (zax zgw (zax zeu (zax zbf (zax zbf (zax zb5 (pv 3) (pv 3)) (zax zb5 zae (pv 3))) (zax zb5 zae (pv 1))) zae) zae))))),?_⟩
 walk_at "rd"
 exact q _
theorem zmy (T : Txt K mg) (D_l_begin : DF K mg "_law_begin" zdU zcu) : FC P w K mg base 1 "_law_begin" zcu (zku K):=by
 refine D_l_begin.ok sc_l_begin (fun vs H Q E h=>?_) (fun f cdv A outer s H vs Q E hr h=>?_)
 ·obtain ⟨L,ns,rfl,_⟩:=h
  rfl
 obtain ⟨L,ns,rfl,hS,q⟩:=h
 refine ⟨_,(zah (zat (zkH (zeY zc6 (pv 0) (zeY zc6 zae (zeY zc6 zae zkB))) rfl rfl (by simp) (by decide)))),?_⟩
 intro p hp
 refine ⟨_,rfl,zac,[(.inr "script",.ref L),(.inr "at",.int 0),(.inr "left",.int 0)],rfl,(by show 3≤15; decide),?_⟩
 have e : upd (upd H p (.dK [])) p (.dK (zc7 [] [(.inr "script",.ref L),(.inr "at",.int 0),(.inr "left",.int 0)])) = upd H p (zcL L 0 0):=by
  rw [znI]
  have : zc7 [] [((.inr "script" : Key),V.ref L),(.inr "at",.int 0),(.inr "left",.int 0)] = [(.inr "script",.ref L),(.inr "at",.int 0),(.inr "left",.int 0)]:=by
   have a1 : putK [] (.inr "script" : Key) (V.ref L) = [(.inr "script",.ref L)]:=zcI (kvs:=[]) _ rfl
   have a2 : putK [((.inr "script" : Key),V.ref L)] (.inr "at") (.int 0) = [(.inr "script",.ref L),(.inr "at",.int 0)]:=by
    rw [zcI _ (by rw [zaH (zdz (show ("script" : Str) ≠ "at" by decide +kernel))]; rfl)]
    rfl
   have a3 : putK [((.inr "script" : Key),V.ref L),(.inr "at",.int 0)] (.inr "left") (.int 0) = [(.inr "script",.ref L),(.inr "at",.int 0),(.inr "left",.int 0)]:=by
    rw [zcI _ (by rw [zaH (zdz (show ("script" : Str) ≠ "left" by decide +kernel)),zaH (zdz (show ("at" : Str) ≠ "left" by decide +kernel))]; rfl)]
    rfl
   unfold zc7
   simp only [List.foldl_cons,List.foldl_nil]
   rw [a1,a2,a3]
  rw [this]
  rfl
 rw [e]
 exact q p _ hp (zak hp _) ⟨ns,0,0,zac,(zak hp _).seq hS⟩
theorem zn5 (T : Txt K mg) (D_l_take : DF K mg "_law_take" zeQ zbA) (F_l_mixed : FC P w K mg base 1 "_law_mixed" zct zkp) : FC P w K mg base 2 "_law_take" zbA (zfQ K):=by
 refine D_l_take.ok sc_l_take (fun vs H Q E h=>?_) (fun f cdv A outer s H vs Q E hr h=>?_)
 ·obtain ⟨d,L,m,rfl,_⟩:=h
  rfl
 obtain ⟨d,L,m,rfl,⟨hm,hm'⟩,⟨ns,a,l,hd,hS⟩,q⟩:=h
 refine ⟨_,(zaf (zaq (i:=2) sc_l_take.nd rfl (Or.inl rfl) (zb3 (zcB hr) (pv 0) zc6 (fun _ _=>rfl)))
   (zaf (zaq (i:=3) sc_l_take.nd rfl (Or.inl rfl) (zb3 (zcB hr) (pv 0) zc6 (fun _ _=>rfl)))
   (zbc (zbO (zaC zfF (zb3 (zcB hr) (pv 0) zc6 (fun _ _=>rfl)) zae (zaP _)) (zaf (zdF (zcB hr) (pv 0) zc6 (zax zbf (pv 2) zae) rfl)
   (zaf (zaq (i:=4) sc_l_take.nd rfl (Or.inl rfl) zae)
   (zbc (zbO (zaC zjC (zap zam rfl T.m_len boot_len (zaa (pv 3) zad)) zae (zaP _)) (zah (zaq (i:=4) sc_l_take.nd rfl (Or.inl rfl) (zaB zaz (pv 3) (zax zeu (pv 2) (zap zam rfl T.m_len boot_len (zaa (pv 3) zad))) (fun _ _=>rfl)))) zaN)
   (zbc (zbO (PW.pt (pw_or (zaC op_ge (pv 2) (zap zam rfl T.m_len boot_len (zaa (pv 3) zad)) (zaP _)) (znn (zaC zgv (zap zjk rfl T.m_abs boot_abs (zaa (pv 4) zad)) (zax zg9 zae zae) (zaP _))))) (zah (zat (zax zeu (zaE F_l_mixed hr (zaa (pv 4) (zaa (pv 2) zad))) (pv 1)))) zaN)
   (zah (zdF (zcB hr) (pv 0) zc6 (zap zjk rfl T.m_abs boot_abs (zaa (pv 4) zad)) rfl)))))) zaN)
   (zaf (zaq (i:=5) sc_l_take.nd rfl (Or.inl rfl) (zax zeu (zb3 (zcB hr) (pv 0) zc6 (fun _ _=>rfl)) (pv 1)))
   (zaf (zdF (zcB hr) (pv 0) zc6 (zax zgw (zb3 (zcB hr) (pv 0) zc6 (fun _ _=>rfl)) (pv 1)) rfl)
   (zah (zat (pv 5)))))))),?_⟩
 refine ⟨_,rfl,_,_,rfl,get_at hd,_,rfl,_,_,rfl,zjN hd,?_⟩
 refine ⟨fun σ' H'=>∃ (x2 x3 x4 x5 : Option V) (a' l' : Int),σ' = [some (.ref d),some (.int m),x2,x3,x4,x5]∧H' d = some (zcL L a' l')∧Keep d H H',?_,?_⟩
 ·refine ⟨_,rfl,_,_,rfl,zgF hd,rfl,_,rfl,?_⟩
  refine ite2 (fun _=>?_) (fun _=>?_)
  ·refine ⟨_,rfl,_,_,rfl,rfl,_,rfl,_,_,rfl,put_at hd,?_⟩
   have hd1 : upd H d (zcL L (a + 1) l) d = some (zcL L (a + 1) l):=zac
   obtain ⟨-,k1⟩:=LS.set (a':=a + 1) (l':=l) hd hS
   have hS1:=zgf hd k1 hS
   generalize upd H d (zcL L (a + 1) l) = H1 at hd1 k1 hS1 ⊢
   refine ⟨fun σ' H'=>∃ c : Int,σ' = [some (.ref d),some (.int m),some (.int a),some (.ref L),some (.int c),none]∧H1 = H',?_,?_⟩
   ·refine ⟨_,rfl,_,_,rfl,.inl hS1,_,_,rfl,rfl,_,rfl,?_⟩
    refine ite2 (fun c=>?_) (fun c=>?_)
    ·have c' : (0 : Int) < (((ns.map V.int).length : Nat) : Int):=of_decide_eq_true c
     obtain ⟨v,hv⟩:=at_mod (ns:=ns) (k:=a) (by rw [List.length_map] at c'; omega)
     refine ⟨_,rfl,_,rfl,_,rfl,_,_,rfl,.inl hS1,_,_,rfl,rfl,c',_,_,_,_,rfl,rfl,hS1,hv,?_⟩
     exact ⟨v,rfl,rfl⟩
    ·exact ⟨0,rfl,rfl⟩
   rintro σ' H' ⟨c,rfl,rfl⟩
   refine ⟨fun σ' H'=>σ' = [some (.ref d),some (.int m),some (.int a),some (.ref L),some (.int c),none]∧H1 = H',?_,?_⟩
   ·refine ⟨_,rfl,_,rfl,_,_,rfl,.inl hS1,_,_,rfl,rfl,_,rfl,?_⟩
    refine ite2 (fun _=>?_) (fun _=>?_)
    ·refine iteT ?_
     refine ⟨_,rfl,_,rfl,c,a,rfl,fun v=>⟨_,rfl,_,_,rfl,rfl,hm,?_⟩⟩
     exact q _ _ (Int.emod_nonneg _ (by omega)) (Int.emod_lt_of_pos _ hm) k1 ⟨ns,a + 1,l,hd1,hS1⟩
    ·refine ⟨_,rfl,_,rfl,_,_,rfl,rfl,⟨by decide,by decide,by decide⟩,_,_,rfl,rfl,_,rfl,?_⟩
     refine ite2 (fun _=>?_) (fun _=>?_)
     ·refine ⟨_,rfl,_,rfl,c,a,rfl,fun v=>⟨_,rfl,_,_,rfl,rfl,hm,?_⟩⟩
      exact q _ _ (Int.emod_nonneg _ (by omega)) (Int.emod_lt_of_pos _ hm) k1 ⟨ns,a + 1,l,hd1,hS1⟩
     ·exact ⟨rfl,rfl⟩
   rintro σ' H' ⟨rfl,rfl⟩
   refine ⟨_,rfl,_,rfl,_,rfl,_,_,rfl,ziQ hd1,?_⟩
   obtain ⟨-,k2⟩:=LS.set (a':=a + 1) (l':=if c < 0 then -c else c) hd1 hS1
   exact ⟨_,_,_,_,_,_,rfl,zac,k1.trans k2⟩
  ·exact ⟨_,_,_,_,a,l,rfl,hd,Keep.refl _ _⟩
 rintro σ' H' ⟨x2,x3,x4,x5,a',l',rfl,hd',k'⟩
 have hS':=zgf hd k' hS
 refine ⟨_,rfl,_,_,rfl,zgF hd',_,rfl,_,_,rfl,rfl,hm,?_⟩
 refine ⟨_,rfl,_,_,rfl,zgF hd',_,rfl,_,_,rfl,rfl,⟨hm,hm'⟩,_,rfl,_,_,rfl,ziQ hd',?_⟩
 obtain ⟨s1,k1⟩:=LS.set (a':=a') (l':=l' / m) hd' hS'
 refine ⟨_,rfl,?_⟩
 exact q _ _ (Int.emod_nonneg _ (by omega)) (Int.emod_lt_of_pos _ hm) (k'.trans k1) s1
def spLow : Sp:=fun vs H Q _=>∃ a b : Nat,vs = [.int a,.int b]∧a≠b∧Q (.int (lu a b : Nat)) H
theorem ok_low (T : Txt K mg) (D_lowest_unlike : DF K mg "lowest_unlike" zby za8) : FC P w K mg base 1 "lowest_unlike" za8 spLow:=by
 refine D_lowest_unlike.ok sc_lowest_unlike (fun vs H Q E h=>?_) (fun f cdv A outer s H vs Q E hr h=>?_)
 ·obtain ⟨a,b,rfl,_⟩:=h
  rfl
 obtain ⟨a,b,rfl,hab,q⟩:=h
 refine ⟨_,(zaf (zaq (i:=2) sc_lowest_unlike.nd rfl (Or.inl rfl) (zax op_xor (pv 0) (pv 1)))
   (zah (zat (zax zbR (pe_bm0 F.plainAttrs_int F.slot_int_bit_length F.type_int_bit_length zgz (zax zns (pv 2) (zjw zfL (pv 2)))) zae)))),?_⟩
 refine ⟨_,rfl,_,rfl,_,_,rfl,rfl,_,rfl,_,rfl,_,rfl,_,_,rfl,rfl,rfl,_,rfl,rfl,_,_,rfl,rfl,?_⟩
 rw [← low_is a b hab] at q
 exact q
def znV (K : PySem.W.Frag) : Sp:=fun vs H Q _=>∃ d L : Addr,vs = [.ref d]∧LS K L d H∧∀ (v : Int) (H' : Hp),-(10 ^ 60) < v→v < 10 ^ 60→Keep d H H'→LS K L d H'→Q (.int v) H'
theorem zmI {x m : Int} (h1 : -999≤x) (h2 : x≤999) (h3 : 0 < m) (h4 : m≤10 ^ 57) : -(10 ^ 60) < x * m∧x * m < 10 ^ 60:=by
 have a:=Int.mul_le_mul_of_nonneg_right h2 (Int.le_of_lt h3)
 have b:=Int.mul_le_mul_of_nonneg_right h1 (Int.le_of_lt h3)
 omega
theorem ok_key (T : Txt K mg) (D_l_key : DF K mg "_law_key" zgi zdl) (F_l_take : FC P w K mg base 2 "_law_take" zbA (zfQ K)) : FC P w K mg base 3 "_law_key" zdl (znV K):=by
 refine D_l_key.ok sc_l_key (fun vs H Q E h=>?_) (fun f cdv A outer s H vs Q E hr h=>?_)
 ·obtain ⟨d,L,rfl,_⟩:=h
  rfl
 obtain ⟨d,L,rfl,hs,q⟩:=h
 refine ⟨_,(zaf (zaq (i:=1) sc_l_key.nd rfl (Or.inl rfl) (zaE F_l_take hr (zaa (pv 0) (zaa zae zad))))
   (zbc (zbO (zaC zgv (pv 1) zae (zaP _)) (zah (zat (zaE F_l_take hr (zaa (pv 0) (zaa zae zad))))) zaN)
   (zbc (zbO (zaC zgv (pv 1) zae (zaP _)) (zah (zat (zax zbR (zaE F_l_take hr (zaa (pv 0) (zaa zae zad))) zae))) zaN)
   (zbc (zbO (zaC zfF (pv 1) zae (zaP _)) (zah (zat (zax zb5 (zax zbR (zaE F_l_take hr (zaa (pv 0) (zaa zae zad))) zae) (zaB zaz (zbQ (zaa zae (zaa (zax zg9 zae zae) (zaa (zax zg9 zae zae) (zaa (zax zg9 zae zae) zad))))) (zaE F_l_take hr (zaa (pv 0) (zaa zae zad))) (fun _ _=>rfl))))) zaN)
   (zah (zat (zax zb5 (zaB zaz (zbQ (zaa zae (zaa (zjw zfL zae) zad))) (zaE F_l_take hr (zaa (pv 0) (zaa zae zad))) (fun _ _=>rfl)) (zax zbR (zax zbR (zax zg9 zae zae) zae) (zaE F_l_take hr (zaa (pv 0) (zaa zae zad))))))))))),?_⟩
 refine ⟨_,rfl,d,L,8,rfl,by decide,hs,fun w1 H1 w0 w8 k1 s1=>?_⟩
 have nd : ∀ {H' : Hp} {p : Addr},LS K L d H'→H' p = none→p≠d:=fun s hp z=>by
  obtain ⟨_,_,_,e,_⟩:=s.ex
  rw [← z,hp] at e
  cases e
 refine ⟨fun σ' H'=>σ' = [some (.ref d),some (.int w1)]∧H1 = H',?_,?_⟩
 ·refine ⟨_,rfl,_,_,rfl,rfl,_,rfl,?_⟩
  refine ite2 (fun c=>?_) (fun c=>?_)
  ·refine ⟨_,rfl,d,L,10,rfl,by decide,s1,fun u H2 u0 u1 k2 s2=>?_⟩
   exact q u H2 (by omega) (by omega) (k1.trans k2) s2
  ·exact ⟨rfl,rfl⟩
 rintro σ' H' ⟨rfl,rfl⟩
 refine ⟨fun σ' H'=>σ' = [some (.ref d),some (.int w1)]∧H1 = H',?_,?_⟩
 ·refine ⟨_,rfl,_,_,rfl,rfl,_,rfl,?_⟩
  refine ite2 (fun c=>?_) (fun c=>?_)
  ·refine ⟨_,rfl,d,L,60,rfl,by decide,s1,fun u H2 u0 u1 k2 s2=>⟨_,_,rfl,rfl,?_⟩⟩
   exact q (u - 30) H2 (by omega) (by omega) (k1.trans k2) s2
  ·exact ⟨rfl,rfl⟩
 rintro σ' H' ⟨rfl,rfl⟩
 refine ⟨fun σ' H'=>σ' = [some (.ref d),some (.int w1)]∧H1 = H',?_,?_⟩
 ·refine ⟨_,rfl,rfl,_,rfl,?_⟩
  refine ite2 (fun c=>?_) (fun c=>?_)
  ·refine ⟨_,rfl,d,L,1999,rfl,by decide,s1,fun u H2 u0 u1 k2 s2=>⟨_,_,rfl,rfl,?_⟩⟩
   refine ⟨_,_,rfl,rfl,⟨by decide,by decide,by decide⟩,_,_,rfl,rfl,⟨by decide,by decide,by decide⟩,_,_,rfl,rfl,⟨by decide,by decide,by decide⟩,(by show 4≤sizeLine; decide),fun p hp=>?_⟩
   refine ⟨_,rfl,d,L,4,rfl,by decide,s2.of_new hp _,fun b H3 b0 b1 k3 s3=>?_⟩
   obtain ⟨m,hat,m0,m1⟩ : ∃ m : Int,atI [V.int 1,V.int (10 ^ (19 : Int).toNat),V.int (10 ^ (38 : Int).toNat),V.int (10 ^ (57 : Int).toNat)] b = some (.int m)∧0 < m∧m≤10 ^ 57:=by
    have z : b = 0∨b = 1∨b = 2∨b = 3:=by omega
    rcases z with rfl | rfl | rfl | rfl
    ·exact ⟨_,rfl,by decide +kernel,by decide +kernel⟩
    ·exact ⟨_,rfl,by decide +kernel,by decide +kernel⟩
    ·exact ⟨_,rfl,by decide +kernel,by decide +kernel⟩
    ·exact ⟨_,rfl,by decide +kernel,by decide +kernel⟩
   refine ⟨_,_,_,_,rfl,rfl,SqL.of (k3 p _ (nd s2 hp) zac),hat,_,_,rfl,rfl,.inl ⟨by omega,by omega⟩,?_⟩
   obtain ⟨f1,f2⟩:=zmI (x:=u - 999) (m:=m) (by omega) (by omega) m0 m1
   exact q _ H3 f1 f2 ((k1.trans k2).trans ((zak hp _).keep.trans k3)) s3
  ·exact ⟨rfl,rfl⟩
 rintro σ' H' ⟨rfl,rfl⟩
 refine ⟨_,rfl,(by show 2≤sizeLine; decide),fun p hp=>?_⟩
 refine ⟨_,rfl,d,L,2,rfl,by decide,s1.of_new hp _,fun b H2 b0 b1 k2 s2=>?_⟩
 obtain ⟨m,hat,hm⟩ : ∃ m : Int,atI [V.int 1,V.int (-1)] b = some (.int m)∧(m = 1∨m = -1):=by
  have z : b = 0∨b = 1:=by omega
  rcases z with rfl | rfl
  ·exact ⟨_,rfl,.inl rfl⟩
  ·exact ⟨_,rfl,.inr rfl⟩
 refine ⟨_,_,_,_,rfl,rfl,SqL.of (k2 p _ (nd s1 hp) zac),hat,_,_,rfl,rfl,⟨by decide,by decide,by decide⟩,_,_,rfl,rfl,_,rfl,d,L,3,rfl,by decide,s2,fun u H3 u0 u1 k3 s3=>⟨_,_,rfl,rfl,_,_,rfl,rfl,.inl ⟨by omega,by omega⟩,?_⟩⟩
 have e60 : (10 : Int) ^ (60 : Int).toNat = 10 ^ 60:=rfl
 rw [e60]
 have kk:=k1.trans ((zak hp _).keep.trans (k2.trans k3))
 rcases hm with rfl | rfl
 ·exact q _ H3 (by omega) (by omega) kk s3
 ·exact q _ H3 (by omega) (by omega) kk s3
def Rise (es : List (Int×Int)) : Prop:=es.Pairwise fun a b=>pLt a b = true
def zdu (k : Int) (e : Int×Int) : Prop:=-(10 ^ 60) < e.1∧e.1 < 10 ^ 60∧0≤e.2∧e.2 < k
def toPair : List Key→Int×Int
 | [.inl a,.inl b]=>(a,b)
 | _=>(0,0)
def KeyOk (k : Int) (x : List Key) : Prop:=∃ a b : Int,x = [.inl a,.inl b]∧zdu k (a,b)
theorem zkA {κ : Type} [DecidableEq κ] (kvs : List (κ×V)) (k : κ) (v : V) : (putK kvs k v).map (·.1) = if (kvs.any fun kv=>decide (kv.1 = k)) = true then kvs.map (·.1) else kvs.map (·.1) ++ [k]:=by
 unfold putK
 split
 ·rw [List.map_map]
  apply List.map_congr_left
  intro a ha
  show (if a.1 = k then (a.1,v) else a).1 = a.1
  split <;> rfl
 ·rw [List.map_append]
  rfl
def zhw (e : Int×Int) : Int:=64 * (if 0≤e.1 then 2 * e.1 else -2 * e.1 - 1) + e.2
def zfI (e : Int×Int) : Nat:=(zhw e).toNat
theorem ze6 {e : Int×Int} (h : zdu 64 e) : ((zfI e : Nat) : Int) = zhw e:=by
 obtain ⟨h1,h2,h3,h4⟩:=h
 unfold zfI zhw
 split <;> omega
theorem zm2 {e : Int×Int} (h : zdu 64 e) : zfI e < 2 ^ 207:=by
 have z:=ze6 h
 obtain ⟨h1,h2,h3,h4⟩:=h
 unfold zhw at z
 split at z <;> omega
theorem zlM {e f : Int×Int} (h : zdu 64 e) (g : zdu 64 f) (z : zfI e = zfI f) : e = f:=by
 have z1:=ze6 h
 have z2:=ze6 g
 obtain ⟨h1,h2,h3,h4⟩:=h
 obtain ⟨g1,g2,g3,g4⟩:=g
 obtain ⟨a,b⟩:=e
 obtain ⟨c,d⟩:=f
 rw [z,z2] at z1
 unfold zhw at z1
 dsimp only at *
 have : a = c∧b = d:=by
  split at z1 <;> split at z1 <;> omega
 rw [this.1,this.2]
def znk (K : PySem.W.Frag) : Sp:=fun vs H Q _=>∃ (v : V) (e : Int×Int),vs = [v]∧Rep.has K H e v∧Q (.int (zhw e)) H
theorem zoa (T : Txt K mg) (D_code : DF K mg "code" ziM zfg) : FC P w K mg base 1 "code" zfg (znk K):=by
 refine D_code.ok sc_code (fun vs H Q E h=>?_) (fun f cdv A outer s H vs Q E hr h=>?_)
 ·obtain ⟨v,e,rfl,_⟩:=h
  rfl
 obtain ⟨v,e,rfl,he,q⟩:=h
 obtain ⟨p,x1,x2,rfl,hT,e1,e2⟩:=(show hasP K H e v from he)
 have hT:=SqT.of (K:=K) hT
 have e1 : x1 = .int e.1:=e1
 have e2 : x2 = .int e.2:=e2
 subst e1 e2
 refine ⟨_,(zaf (zaq (i:=1) sc_code.nd rfl (Or.inl rfl) (zaB zaL (pv 0) zae (fun _ _=>rfl)))
   (zaf (zaq (i:=2) sc_code.nd rfl (Or.inl rfl) (ziT (zaC op_ge (pv 1) zae (zaP _)) (zax zb5 zae (pv 1)) (zax zbR (zax zb5 (zjw zfL zae) (pv 1)) zae)))
   (zah (zat (zax zbf (zax zb5 (zgp rfl T.g_KNOT_NUMBERS) (pv 2)) (zaB zaL (pv 0) zae (fun _ _=>rfl))))))),?_⟩
 refine ⟨_,rfl,_,_,_,_,rfl,rfl,hT,rfl,?_⟩
 refine ⟨_,rfl,_,_,rfl,rfl,_,rfl,?_⟩
 refine ite2 (fun c=>?_) (fun c=>?_)
 ·have c' : 0≤e.1:=of_decide_eq_true c
  refine ⟨_,rfl,_,_,rfl,rfl,.inl ⟨by decide,by decide⟩,?_⟩
  refine ⟨_,rfl,_,_,rfl,rfl,.inl ⟨by decide,by decide⟩,_,rfl,_,_,_,_,rfl,rfl,hT,rfl,_,_,rfl,rfl,?_⟩
  unfold zhw at q
  rw [if_pos c'] at q
  exact q
 ·have c' : ¬ 0≤e.1:=of_decide_eq_false (Bool.eq_false_iff.mpr c)
  refine ⟨_,rfl,_,rfl,_,_,rfl,rfl,.inl ⟨by decide,by decide⟩,_,_,rfl,rfl,?_⟩
  refine ⟨_,rfl,_,_,rfl,rfl,.inl ⟨by decide,by decide⟩,_,rfl,_,_,_,_,rfl,rfl,hT,rfl,_,_,rfl,rfl,?_⟩
  unfold zhw at q
  rw [if_neg c'] at q
  exact q
abbrev nV (n : Nat) : V:=.int (n : Int)
theorem zkZ {v : Int} (h : 0≤v) : ∃ n : Nat,v = (n : Int):=⟨v.toNat,by omega⟩
theorem zhG {xs : List Nat} {i : Nat} (h : i < xs.length) : atI (xs.map nV) (i : Int) = some (nV (xs.getD i 0)):=
 zaJ (by rw [List.getElem?_map,List.getElem?_eq_getElem h,List.getD_eq_getElem?_getD,List.getElem?_eq_getElem h]; rfl)
theorem zoC {xs : List Nat} {i : Nat} (h0 : i≠0) (h : i < xs.length) : atI (xs.map nV) ((i : Int) - 1) = some (nV (xs.getD (i - 1) 0)):=by
 have e : (i : Int) - 1 = ((i - 1 : Nat) : Int):=by omega
 rw [e]
 exact zhG (by omega)
theorem zfY {xs : List Nat} {i : Nat} {x : V} (h : (xs.map nV)[i]? = some x) : i < xs.length∧x = nV (xs.getD i 0):=by
 rw [List.getElem?_map] at h
 cases e : xs[i]? with
 | none=>rw [e] at h; cases h
 | some y=>
  rw [e] at h
  refine ⟨(List.getElem?_eq_some_iff.mp e).1,?_⟩
  rw [List.getD_eq_getElem?_getD,e]
  exact (Option.some.inj h).symm
theorem zoD (n : Nat) : Builtin.bitAnd (n : Int) 1 = ((n % 2 : Nat) : Int):=by
 unfold Builtin.bitAnd
 rw [decide_eq_true (Int.natCast_nonneg n),decide_eq_true (by decide : (0 : Int)≤1)]
 show ((n &&& 1 : Nat) : Int) = _
 rw [Nat.and_one_is_mod]
theorem fig_is (a b : Nat) : 2 * ((lu a b : Nat) : Int) + Builtin.bitAnd ((b : Int) / 2 ^ ((lu a b : Nat) : Int).toNat) 1 = ((fig a b : Nat) : Int):=by
 have e : (b : Int) / 2 ^ ((lu a b : Nat) : Int).toNat = ((b / 2 ^ lu a b : Nat) : Int):=by
  rw [Int.toNat_natCast,Int.natCast_ediv,Int.natCast_pow]
  rfl
 rw [e,zoD]
 unfold fig
 omega
def But (p : Addr) (H H' : Hp) : Prop:=∀ b o,b≠p→H b = some o→H' b = some o
theorem But.sq {K : PySem.W.Frag} {p : Addr} {H H' : Hp} {a : Addr} {xs : List V} (k : But p H H') (h : SqL K H a xs) (n : H p = none) : SqL K H' a xs:=by
 rcases h with (h | ⟨o,h⟩) | h
 ·exact .inl (.inl (k _ _ (zab h n) h))
 ·exact .inl (.inr ⟨o,k _ _ (zab h n) h⟩)
 ·exact .inr h
theorem zlB (xs : List Nat) : (xs.map nV).all zfH = true:=by
 rw [List.all_eq_true]
 intro x hx
 obtain ⟨n,_,rfl⟩:=List.mem_map.mp hx
 rfl
theorem znx (n : Nat) (xs : List Nat) : inV (.int (n : Int)) (xs.map nV) = decide (n∈xs):=by
 unfold inV
 induction xs with
 | nil=>rfl
 | cons x xs ih=>
  rw [List.map_cons,List.any_cons,ih]
  show ((x : Int) == (n : Int) || decide (n∈xs)) = decide (n∈x :: xs)
  by_cases h : x = n
  ·subst h
   simp
  ·have : ((x : Int) == (n : Int)) = false:=by
    rw [beq_eq_false_iff_ne]
    omega
   rw [this,Bool.false_or]
   have e : (n∈x :: xs) = (n∈xs):=propext (by simp [Ne.symm h])
   simp [Ne.symm h]
def ziB (K : PySem.W.Frag) : Sp:=fun vs H Q _=>∃ (a : Addr) (xs : List Nat),vs = [.ref a]∧SqL K H a (xs.map nV)∧Unl xs∧xs.length≤1000∧
 ∀ (p : Addr) (H' : Hp),H p = none→Same H H'→H' p = some (.lst ((zck xs).map nV))→Q (.ref p) H'
theorem zkN (T : Txt K mg) (D_turned : DF K mg "turned" zeL zcV) (F_lowest_unlike : FC P w K mg base 1 "lowest_unlike" za8 spLow) : FC P w K mg base 2 "turned" zcV (ziB K):=by
 refine D_turned.ok sc_turned (fun vs H Q E h=>?_) (fun f cdv A outer s H vs Q E hr h=>?_)
 ·obtain ⟨a,xs,rfl,_⟩:=h
  rfl
 obtain ⟨a,xs,rfl,hS,hu,hz,q⟩:=h
 refine ⟨_,(zaf (zaq (i:=1) sc_turned.nd rfl (Or.inl rfl) (zbQ zad))
   (zaf (zbd PassesOwn.never rfl (zc5 rfl T.m_enumerate (zaa (pv 0) zad)) (zg6 rfl (zbm (zas (i:=2) sc_turned.nd rfl (Or.inl rfl)) (zbm (zas (i:=3) sc_turned.nd rfl (Or.inl rfl)) zek))) (zah (zbO (zaC zfF (pv 2) zae (zaP _)) (zah (zbu (zd4 F.plainAttrs_list F.slot_list_append F.type_list_append za2 (pv 1) (zaa (zax zeu (pv 3) zae) zad)))) (zaf (zaq (i:=4) sc_turned.nd rfl (Or.inl rfl) (zaE F_lowest_unlike hr (zaa (zaB zaz (pv 0) (zax zbR (pv 2) zae) (fun _ _=>rfl)) (zaa (pv 3) zad))))
   (zah (zbu (zd4 F.plainAttrs_list F.slot_list_append F.type_list_append za2 (pv 1) (zaa (zax zbf (zax zb5 zae (pv 4)) (zax zns (zax op_shr (pv 3) (pv 4)) zae)) zad))))))))
   (zah (zat (pv 1))))),?_⟩
 refine ⟨(by show 0≤sizeLine; decide),fun p hp=>?_⟩
 have k0 : But p H (upd H p (.lst [])):=fun b o n e=>by rw [zag n]; exact e
 refine ⟨_,rfl,a,rfl,⟨_,k0.sq hS hp⟩,?_⟩
 refine zgG (xs:=xs.map nV) (fun i σ H2=>∃ x2 x3 x4 : Option V,σ = [some (.ref a),some (.ref p),x2,x3,x4]∧H2 p = some (.lst (((zck xs).take i).map nV))∧But p H H2) ?_ ?_ ?_ ?_
 ·exact ⟨_,_,_,rfl,zac,k0⟩
 ·rintro i σ H2 _ ⟨x2,x3,x4,rfl,_,k2⟩
  exact k2.sq hS hp
 ·rintro i x σ H2 r hx ⟨x2,x3,x4,rfl,h2,k2⟩ hr
  obtain ⟨hi,rfl⟩:=zfY hx
  have hS2:=k2.sq hS hp
  have np : p≠r:=zab h2 hr
  have h3 : upd H2 r (.tup [.int i,nV (xs.getD i 0)]) p = some (.lst (((zck xs).take i).map nV)):=by rw [zag np]; exact h2
  have k3 : But p H (upd H2 r (.tup [.int i,nV (xs.getD i 0)])):=fun b o n e=>(zak hr _) b o (k2 b o n e)
  have hS3:=k3.sq hS hp
  have hlen : (((zck xs).take i).map nV).length < sizeLine:=zar (by rw [List.length_map,List.length_take,zbe]; omega)
  refine ⟨r,_,rfl,SqT.of zac,rfl,_,_,rfl,_,_,rfl,rfl,?_⟩
  generalize upd H2 r (.tup [.int i,nV (xs.getD i 0)]) = H3 at h3 k3 hS3 ⊢
  have fin : ∀ v : V,v = nV (zdv xs i)→∃ y2 y3 y4 : Option V,[some (V.ref a),some (V.ref p),y2,y3,y4] = [some (V.ref a),some (V.ref p),y2,y3,y4]∧upd H3 p (.lst (((zck xs).take i).map nV ++ [v])) p = some (.lst (((zck xs).take (i + 1)).map nV))∧But p H (upd H3 p (.lst (((zck xs).take i).map nV ++ [v]))):=by
   rintro v rfl
   refine ⟨none,none,none,rfl,?_,fun b o n e=>by rw [zag n]; exact k3 b o n e⟩
   rw [zac,zjq hi,List.map_append]
   rfl
  refine ⟨_,rfl,rfl,_,rfl,?_⟩
  refine ite2 (fun c=>?_) (fun c=>?_)
  ·have c' : i = 0:=by
    have:=V.int.inj (of_decide_eq_true c)
    omega
   refine ⟨_,rfl,.inl ⟨rfl,_,SqL.of h3⟩,_,rfl,_,_,rfl,rfl,(by show (0 : Int) < 2; decide),_,_,_,rfl,rfl,h3,hlen,?_⟩
   obtain ⟨_,_,_,_,g2,g3⟩:=fin (.int (((xs.getD i 0 : Nat) : Int) % 2)) (by
    unfold zdv
    rw [if_pos c',c']
    show V.int _ = V.int _
    rw [Int.natCast_emod]
    rfl)
   exact ⟨_,_,_,rfl,g2,g3⟩
  ·have c' : i≠0:=fun z=>c (by subst z; decide)
   have hne : xs.getD (i - 1) 0≠xs.getD i 0:=by
    have:=hu (i - 1) (by omega)
    rw [show i - 1 + 1 = i by omega] at this
    exact this
   refine ⟨_,rfl,_,rfl,_,_,rfl,rfl,_,_,_,_,rfl,rfl,hS3,zoC c' hi,_,rfl,_,_,rfl,hne,?_⟩
   refine ⟨_,rfl,.inl ⟨rfl,_,SqL.of h3⟩,_,rfl,_,_,rfl,rfl,.inl ⟨by decide,by decide⟩,_,rfl,_,rfl,_,_,rfl,rfl,Int.natCast_nonneg _,_,_,rfl,rfl,_,_,rfl,rfl,_,_,_,rfl,rfl,h3,hlen,?_⟩
   obtain ⟨_,_,_,_,g2,g3⟩:=fin (.int (2 * ((lu (xs.getD (i - 1) 0) (xs.getD i 0) : Nat) : Int) + Builtin.bitAnd (((xs.getD i 0 : Nat) : Int) / 2 ^ ((lu (xs.getD (i - 1) 0) (xs.getD i 0) : Nat) : Int).toNat) 1)) (by
    unfold zdv
    rw [if_neg c',fig_is])
   exact ⟨_,_,_,rfl,g2,g3⟩
 ·rintro σ H2 ⟨x2,x3,x4,rfl,h2,k2⟩
  refine ⟨_,rfl,?_⟩
  refine q p H2 hp (fun b o e=>k2 b o (zab e hp) e) ?_
  rw [h2,List.take_of_length_le (by rw [zbe,List.length_map]; exact Nat.le_refl _)]
def zcR : Nat→List Nat→List Nat
 | 0,xs=>xs
 | n + 1,xs=>zck (zcR n xs)
theorem zcc (n : Nat) (xs : List Nat) : (zcR n xs).length = xs.length:=by
 induction n with
 | zero=>rfl
 | succ n ih=>rw [zcR,zbe,ih]
theorem zcn {xs : List Nat} (h : Unl xs) (n : Nat) : Unl (zcR n xs):=by
 induction n with
 | zero=>exact h
 | succ n ih=>exact zj8 ih
theorem zds {m k : Nat} {xs : List Nat} (h : zcS m xs) (hk : m≤k) : zcS k xs:=fun i hi=>Nat.lt_of_lt_of_le (h i hi) hk
theorem znO {xs : List Nat} (h : Unl xs) (hb : zcS (2 ^ 207) xs) : zcS 414 (zcR 1 xs):=zbW (k:=207) (by decide) h hb
theorem znN {xs : List Nat} (h : Unl xs) (hb : zcS (2 ^ 207) xs) : zcS 18 (zcR 2 xs):=zbW (k:=9) (by decide) (zcn h 1) (zds (znO h hb) (by decide))
theorem znM {xs : List Nat} (h : Unl xs) (hb : zcS (2 ^ 207) xs) : zcS 10 (zcR 3 xs):=zbW (k:=5) (by decide) (zcn h 2) (zds (znN h hb) (by decide))
theorem znL {xs : List Nat} (h : Unl xs) (hb : zcS (2 ^ 207) xs) : zcS 8 (zcR 4 xs):=zbW (k:=4) (by decide) (zcn h 3) (zds (znM h hb) (by decide))
theorem znK {xs : List Nat} (h : Unl xs) (hb : zcS (2 ^ 207) xs) : zcS 6 (zcR 5 xs):=zbW (k:=3) (by decide) (zcn h 4) (zds (znL h hb) (by decide))
def zcC (es : List (Int×Int)) : List Nat:=es.map zfI
theorem zaV (es : List (Int×Int)) : (zcC es).length = es.length:=List.length_map _
theorem zeo {es : List (Int×Int)} {i : Nat} (h : i < es.length) : (zcC es).getD i 0 = zfI es[i]:=by
 unfold zcC
 rw [List.getD_eq_getElem?_getD,List.getElem?_map,List.getElem?_eq_getElem h]
 rfl
theorem zij {es : List (Int×Int)} (h : ∀ e∈es,zdu 64 e) : zcS (2 ^ 207) (zcC es):=fun i hi=>by
 rw [zaV] at hi
 rw [zeo hi]
 exact zm2 (h _ (List.getElem_mem hi))
theorem zfw {es : List (Int×Int)} (h : ∀ e∈es,zdu 64 e) (hr : Rise es) : Unl (zcC es):=fun i hi=>by
 rw [zaV] at hi
 rw [zeo (by omega),zeo hi]
 intro z
 have e:=zlM (h _ (List.getElem_mem (by omega))) (h _ (List.getElem_mem hi)) z
 have:=List.pairwise_iff_getElem.mp hr i (i + 1) (by omega) hi (by omega)
 rw [e] at this
 have q:=zcm.mp this
 omega
theorem zjU {es : List (Int×Int)} {i : Nat} (h : i < es.length) : (zcC es).take (i + 1) = (zcC es).take i ++ [zfI es[i]]:=by
 have h' : i < (zcC es).length:=by rw [zaV]; exact h
 have z : (zcC es)[i]'h' = zfI es[i]:=List.getElem_map zfI
 rw [List.take_succ_eq_append_getElem h',z]
def ziG (K : PySem.W.Frag) : Sp:=fun vs H Q _=>∃ (a : Addr) (ws : List V) (es : List (Int×Int)),vs = [.ref a]∧SqL K H a ws∧zal K H es ws∧es.length≤1000∧(∀ e∈es,zdu 64 e)∧Rise es∧
 ∀ (p : Addr) (H' : Hp),H p = none→Same H H'→H' p = some (.lst ((zcR 5 (zcC es)).map nV))→Q (.ref p) H'
theorem zjV {K : PySem.W.Frag} {H0 H2 : Hp} {D : Addr} {es : List (Int×Int)} {ws : List V} {i : Nat} {x : V} (hD : H0 D = none) (hw : zal K H0 es ws) (hx : ws[i]? = some x) (k : But D H0 H2) : ∃ h : i < es.length,Rep.has K H2 es[i] x:=by
 obtain ⟨e,h1,h2⟩:=hw.get hx
 have hi:=(List.getElem?_eq_some_iff.mp h1).1
 refine ⟨hi,?_⟩
 have z : es[i] = e:=(List.getElem?_eq_some_iff.mp h1).2
 rw [z]
 obtain ⟨a,x1,x2,rfl,q,e1,e2⟩:=(show hasP K H0 e x from h2)
 exact ⟨a,x1,x2,rfl,k _ _ (zab q hD) q,e1,e2⟩
theorem zkU (T : Txt K mg) (D_labels : DF K mg "labels" zeO zcY) (F_code : FC P w K mg base 1 "code" zfg (znk K)) (F_turned : FC P w K mg base 2 "turned" zcV (ziB K)) : FC P w K mg base 3 "labels" zcY (ziG K):=by
 refine D_labels.ok sc_labels (fun vs H Q E h=>?_) (fun f cdv A outer s H vs Q E hr h=>?_)
 ·obtain ⟨a,ws,es,rfl,_⟩:=h
  rfl
 obtain ⟨a,ws,es,rfl,hS,hw,hz,he,hri,q⟩:=h
 have hlen:=hw.length
 refine ⟨_,(zaf (zgo (i:=1) (N:=["entry"]) (own:=1) (cap:=[]) sc_labels.nd rfl rfl rfl (zbD (pv 0)) ⟨rfl,rfl,rfl,rfl,rfl,rfl⟩ (fun _ _ _ _ _=>(zas (i:=0) (show List.Nodup (["entry"] : List Str) by decide +kernel) rfl (Or.inl rfl))) (fun _ _ _ _ _=>zbY) (fun _ _ _ _ _=>(zaE F_code hr (zaa (pv 0) zad))))
   (zaf (zbd PassesOwn.never rfl (zbC rfl T.m_range (zaa (zgp rfl T.g_TURNS) zad)) (zas (i:=2) sc_labels.nd rfl (Or.inl rfl)) (zah (zaq (i:=1) sc_labels.nd rfl (Or.inl rfl) (zaE F_turned hr (zaa (pv 1) zad)))))
   (zah (zat (pv 1))))),?_⟩
 refine ⟨_,rfl,a,rfl,⟨_,hS⟩,fun D hD=>?_⟩
 have k0 : But D H (upd H D (.lst [])):=fun b o n e=>by rw [zag n]; exact e
 refine zbG (xs:=ws) (fun i σ H2=>∃ x0 : Option V,σ = [x0]∧H2 D = some (.lst (((zcC es).take i).map nV))∧But D H H2) ?_ ?_ ?_ ?_
 ·exact ⟨_,rfl,zac,k0⟩
 ·rintro i σ H2 _ ⟨x0,rfl,_,k2⟩
  exact k2.sq hS hD
 ·rintro i m x σ H2 hx hm ⟨x0,rfl,h2,k2⟩
  obtain ⟨hi,hhas⟩:=zjV hD hw hx k2
  refine zdA ?_
  refine ⟨_,rfl,x,es[i],rfl,hhas,?_⟩
  refine ⟨_,h2,zar (by rw [List.length_map,List.length_take,zaV]; omega),m - 1,by omega,by omega,_,rfl,?_,fun b o n e=>by rw [zag n]; exact k2 b o n e⟩
  rw [zac,zjU hi,List.map_append,← ze6 (he _ (List.getElem_mem hi))]
  rfl
 ·rintro σ H2 ⟨x0,rfl,h2,k2⟩
  have e0 : H2 D = some (.lst ((zcC es).map nV)):=by
   rw [h2,List.take_of_length_le (by rw [zaV]; omega)]
  have same0 : Same H H2:=fun b o e=>k2 b o (zab e hD) e
  refine ⟨5,rfl,by decide,by decide,?_⟩
  refine za9 (n:=5) (fun i σ H3=>∃ (p : Addr) (x2 x3 : Option V),σ = [some (.ref a),some (.ref p),x2]∧H p = none∧Same H H3∧H3 p = some (.lst ((zcR i (zcC es)).map nV))) ?_ ?_ ?_
  ·exact ⟨D,_,none,rfl,hD,same0,e0⟩
  ·rintro i σ H3 hi ⟨p,x2,x3,rfl,hp,s3,h3⟩
   refine ⟨_,rfl,p,_,rfl,SqL.of h3,zcn (zfw he hri) i,by rw [zcc,zaV]; exact hz,fun p4 H4 hp4 s4 h4=>?_⟩
   exact ⟨p4,_,none,rfl,s3.free hp4,s3.trans s4,h4⟩
  ·rintro σ H3 ⟨p,x2,x3,rfl,hp,s3,h3⟩
   refine ⟨_,rfl,?_⟩
   exact q p H3 hp s3 h3
theorem zgj {n d i : Nat} : HT.sIx n d (some (i : Int)) = min i n:=by
 unfold HT.sIx
 simp
 try omega
theorem zjg (xs : List V) (a b : Nat) : cutV xs (some (a : Int)) (some (b : Int)) = (xs.drop a).take (b - a):=by
 unfold cutV
 rw [zgj,zgj]
 by_cases h : a≤xs.length
 ·rw [Nat.min_eq_left h]
  by_cases h2 : b≤xs.length
  ·rw [Nat.min_eq_left h2]
  ·rw [Nat.min_eq_right (by omega),List.take_of_length_le (by rw [List.length_drop]; exact Nat.le_refl _),List.take_of_length_le (by rw [List.length_drop]; omega)]
 ·rw [Nat.min_eq_right (show xs.length≤a by omega),List.drop_eq_nil_of_le (Nat.le_refl _),List.drop_eq_nil_of_le (show xs.length≤a by omega)]
  simp
theorem zfO {α : Type} (xs : List α) (k : Nat) : (xs.drop k).take 1 = xs[k]?.toList:=by
 by_cases h : k < xs.length
 ·rw [List.drop_eq_getElem_cons h,List.getElem?_eq_getElem h]
  rfl
 ·rw [List.drop_eq_nil_of_le (by omega),List.getElem?_eq_none (by omega)]
  rfl
theorem zlJ {xs : List V} {k : Nat} {i j : Int} (hi : i = if (k : Int) - 1 > 0 then (k : Int) - 1 else 0) (hj : j = (k : Int)) : cutV xs (some i) (some j) = (if k = 0 then none else xs[k - 1]?).toList:=by
 subst hj
 have e : i = ((k - 1 : Nat) : Int):=by
  rw [hi]
  split <;> omega
 subst e
 rw [zjg]
 split
 ·rename_i h
  subst h
  simp
 ·rw [show k - (k - 1) = 1 by omega,zfO]
theorem zjT {xs : List V} {k : Nat} {i j : Int} (hi : i = (k : Int) + 1) (hj : j = (k : Int) + 2) : cutV xs (some i) (some j) = xs[k + 1]?.toList:=by
 subst hi hj
 rw [show (k : Int) + 1 = ((k + 1 : Nat) : Int) by omega,show (k : Int) + 2 = ((k + 2 : Nat) : Int) by omega,zjg,show k + 2 - (k + 1) = 1 by omega,zfO]
theorem zlU (xs : List Nat) (k : Nat) : (if k = 0 then none else (xs.map nV)[k - 1]?).toList ++ (xs.map nV)[k + 1]?.toList = (zaY xs k).map nV:=by
 unfold zaY
 rw [List.map_append,List.getElem?_map,List.getElem?_map]
 congr 1
 ·split
  ·rfl
  ·cases xs[k - 1]? <;> rfl
 ·cases xs[k + 1]? <;> rfl
theorem But.new {p b : Addr} {H H2 : Hp} (k : But p H H2) (hb : H2 b = none) (o : HO) : But p H (upd H2 b o):=fun x o' n e=>(zak hb o) x o' (k x o' n e)
def zg0 (K : PySem.W.Frag) : Sp:=fun vs H Q _=>∃ (a : Addr) (xs : List Nat),vs = [.ref a]∧SqL K H a (xs.map nV)∧Unl xs∧zcS 6 xs∧xs.length≤1000∧
 ∀ (p : Addr) (H' : Hp),H p = none→Same H H'→H' p = some (.lst ((colL xs).map nV))→Q (.ref p) H'
def zb7 (es : List (Int×Int)) : List Bool:=zc8 (colL (zcR 5 (zcC es)))
theorem zbn (es : List (Int×Int)) : (zb7 es).length = es.length:=by
 unfold zb7
 rw [zd8,zfv,zcc,zaV]
theorem zh3 {es : List (Int×Int)} (he : ∀ e∈es,zdu 64 e) (hri : Rise es) : Unl (zcR 5 (zcC es)):=zcn (zfw he hri) 5
theorem zhi {es : List (Int×Int)} (he : ∀ e∈es,zdu 64 e) (hri : Rise es) : zcS 6 (zcR 5 (zcC es)):=znK (zfw he hri) (zij he)
theorem zlV {xs : List Nat} (h : zcS 6 xs) : ∀ i x,atZ xs i = some x→x≤5:=fun i x e=>by
 obtain ⟨h0,h1⟩:=zgP e
 have:=h i.toNat (by omega)
 unfold atZ at e
 rw [if_pos h0] at e
 rw [List.getD_eq_getElem?_getD,e] at this
 exact Nat.lt_succ_iff.mp this
theorem zhd {es : List (Int×Int)} (he : ∀ e∈es,zdu 64 e) (hri : Rise es) : zde (zb7 es):=zk8 (zji (unlZ (zh3 he hri))) (zoz (zlV (zhi he hri)))
def zkq (K : PySem.W.Frag) : Sp:=fun vs H Q _=>∃ (a : Addr) (ws : List V) (es : List (Int×Int)),vs = [.ref a]∧H a = some (.lst ws)∧zal K H es ws∧es.length≤1000∧(∀ e∈es,zdu 64 e)∧Rise es∧
 ∀ (p : Addr) (H' : Hp),H p = none→Same H H'→H' p = some (.lst ((zb7 es).map V.bl))→Q (.ref p) H'
def ziI (K : PySem.W.Frag) : Sp:=fun vs H Q _=>∃ (a : Addr) (ws : List V) (es : List (Int×Int)),vs = [.ref a]∧H a = some (.lst ws)∧zal K H es ws∧es.length≤1000∧(∀ e∈es,zdu 64 e)∧Rise es∧
 ∀ (p : Addr) (H' : Hp),H p = none→Same H H'→H' p = some (.lst (zcM ws (zb7 es)))→Q (.ref p) H'
theorem zfN (o : Option Bool) : o.toList.any id = o.getD false:=by
 cases o with
 | none=>rfl
 | some b=>cases b <;> rfl
theorem zmO (ms : List Bool) : inV (.bl true) (ms.map V.bl) = ms.any id:=by
 unfold inV
 induction ms with
 | nil=>rfl
 | cons m ms ih=>
  rw [List.map_cons,List.any_cons,ih,List.any_cons]
  cases m <;> rfl
theorem zow (ms : List Bool) : (ms.map V.bl).all zfH = true:=by
 rw [List.all_eq_true]
 intro x hx
 obtain ⟨n,_,rfl⟩:=List.mem_map.mp hx
 rfl
theorem zhl {α : Type} {as : List α} {bs : List Bool} {a : α} {b : Bool} (h : as.length = bs.length) : zcM (as ++ [a]) (bs ++ [b]) = zcM as bs ++ (if b = true then [a] else []):=by
 unfold zcM
 rw [List.zip_append h,List.filter_append,List.map_append]
 congr 1
 cases b <;> rfl
theorem zia {α : Type} (as : List α) (bs : List Bool) : (zcM as bs).length≤as.length:=by
 unfold zcM
 rw [List.length_map]
 refine Nat.le_trans (List.length_filter_le _ _) ?_
 rw [List.length_zip]
 omega
theorem zjd {α : Type} [Rep α] {K : PySem.W.Frag} {H : Hp} : ∀ {es : List α} {ws : List V} {ms : List Bool},zal K H es ws→zal K H (zcM es ms) (zcM ws ms)
 | _,_,_,.nil=>by
  unfold zcM
  exact .nil
 | e :: es,w :: ws,[],.cons h t=>by
  unfold zcM
  exact .nil
 | e :: es,w :: ws,m :: ms,.cons h t=>by
  have:=zjd (ms:=ms) t
  unfold zcM at this ⊢
  cases m with
  | false=>exact this
  | true=>exact .cons h this
theorem zdC (bs : List Nat) (c : Nat) : ((List.range (c + 1)).filter fun c=>!decide (c∈bs)) = ((List.range c).filter fun c=>!decide (c∈bs)) ++ (if c∈bs then [] else [c]):=by
 rw [List.range_succ,List.filter_append]
 congr 1
 by_cases h : c∈bs
 ·rw [if_pos h]
  simp [List.filter,h]
 ·rw [if_neg h]
  simp [List.filter,h]
theorem zdx {H : Hp} {p t : Addr} {xs ys : List V} (h1 : H p = some (.lst xs)) (h2 : H t = some (.tup ys)) : p≠t:=fun z=>by
 rw [z,h2] at h1
 cases h1
theorem zlo {n k : Nat} (h : k < n) : ixN n (k : Int) = some k:=by
 unfold ixN
 simp
 omega
def besV (xs : List V) (k : Nat) : List V:=(if k = 0 then none else xs[k - 1]?).toList ++ xs[k + 1]?.toList
theorem zik (xs : List V) (k : Nat) : (besV xs k).length≤2:=by
 have e : ∀ o : Option V,o.toList.length≤1:=fun o=>by cases o <;> simp
 unfold besV
 rw [List.length_append]
 have:=e (if k = 0 then none else xs[k - 1]?)
 have:=e xs[k + 1]?
 omega
def spNb (K : PySem.W.Frag) : Sp:=fun vs H Q _=>∃ (a : Addr) (xs : List V) (k : Nat),vs = [.ref a,.int k]∧H a = some (.lst xs)∧
 ∀ (g : Addr) (H' : Hp),H g = none→Same H H'→H' g = some (.lst (besV xs k))→Q (.ref g) H'
theorem zgx (T : Txt K mg) (D_neighbours : DF K mg "neighbours" zce zbl) : FC P w K mg base 1 "neighbours" zbl (spNb K):=by
 refine D_neighbours.ok sc_neighbours (fun vs H Q E h=>?_) (fun f cdv A outer s H vs Q E hr h=>?_)
 ·obtain ⟨a,xs,k,rfl,_⟩:=h
  rfl
 obtain ⟨a,xs,k,rfl,ha,q⟩:=h
 refine ⟨_,(zah (zat (zax op_cat (zd3 zfc (pv 0) (zdG (zap (zhy rfl) rfl T.m_max boot_max (zaa (zax zbR (pv 1) zae) (zaa zae zad)))) (zdG (pv 1))) (zd3 zfc (pv 0) (zdG (zax zbf (pv 1) zae)) (zdG (zax zbf (pv 1) zae)))))),?_⟩
 refine ⟨_,rfl,_,rfl,_,_,rfl,rfl,_,_,rfl,_,rfl,_,rfl,_,rfl,_,_,rfl,SqL.of ha,fun b hb=>?_⟩
 have kb:=zak hb (.lst (cutV xs (some (if 0 > (k : Int) - 1 then 0 else (k : Int) - 1)) (some (k : Int))))
 have hbb : upd H b (.lst (cutV xs (some (if 0 > (k : Int) - 1 then 0 else (k : Int) - 1)) (some (k : Int)))) b = some (.lst (if k = 0 then none else xs[k - 1]?).toList):=by
  rw [zac,zlJ (k:=k) (by split <;> split <;> omega) rfl]
 generalize upd H b (.lst (cutV xs (some (if 0 > (k : Int) - 1 then 0 else (k : Int) - 1)) (some (k : Int)))) = H3 at kb hbb ⊢
 refine ⟨_,rfl,_,rfl,_,_,rfl,rfl,_,rfl,_,rfl,_,_,rfl,rfl,_,rfl,_,_,rfl,SqL.of (kb _ _ ha),fun c hc=>?_⟩
 have kc:=zak hc (.lst (cutV xs (some ((k : Int) + 1)) (some ((k : Int) + 2))))
 have hcb:=kc _ _ hbb
 have hcc : upd H3 c (.lst (cutV xs (some ((k : Int) + 1)) (some ((k : Int) + 2)))) c = some (.lst xs[k + 1]?.toList):=by
  rw [zac,zjT (k:=k) rfl rfl]
 generalize upd H3 c (.lst (cutV xs (some ((k : Int) + 1)) (some ((k : Int) + 2)))) = H4 at kc hcb hcc ⊢
 refine ⟨b,c,_,_,rfl,rfl,hcb,hcc,?_,fun g hg=>?_⟩
 ·rw [← List.length_append]
  exact Nat.le_trans (zik xs k) (by decide)
 exact q g _ (kb.free (kc.free hg)) (kb.trans (kc.trans (zak hg _))) zac
def zni (K : PySem.W.Frag) : Sp:=fun vs H Q _=>∃ (a : Addr) (xs : List Nat) (k : Nat),vs = [.ref a]∧H a = some (.lst ((zaY xs k).map nV))∧
 ∀ H' : Hp,Same H H'→Q (.int (zdB xs k : Nat)) H'
theorem zgy (T : Txt K mg) (D_least_free : DF K mg "least_free" zcf zbz) : FC P w K mg base 1 "least_free" zbz (zni K):=by
 refine D_least_free.ok sc_least_free (fun vs H Q E h=>?_) (fun f cdv A outer s H vs Q E hr h=>?_)
 ·obtain ⟨a,xs,k,rfl,_⟩:=h
  rfl
 obtain ⟨a,xs,k,rfl,ha,q⟩:=h
 refine ⟨_,(zah (zat (zap (zlP rfl) rfl T.m_min boot_min (zaa (zcl (N:=["colour","taken"]) (own:=1) (cap:=[0]) rfl (ziS (zb2 (zaa zae (zaa zae (zaa zae zad))))) ⟨rfl,rfl,rfl,rfl,rfl,rfl⟩ (fun _ _ _ _ _=>(zas (i:=0) (show List.Nodup (["colour","taken"] : List Str) by decide +kernel) rfl (Or.inl rfl))) (fun _ _ _ _ _=>(zhP (zaC (zgu (K:=K)) (pv 0) (pv 1) (by with_unfolding_all rfl)))) (fun _ _ _ _ _=>(pv 0))) zad)))),?_⟩
 refine ⟨(by show 3≤sizeLine; decide),fun t ht=>?_⟩
 have st:=zak ht (.tup [V.int 0,V.int 1,V.int 2])
 have ht1 : upd H t (.tup [V.int 0,V.int 1,V.int 2]) t = some (.tup [V.int 0,V.int 1,V.int 2]):=zac
 generalize upd H t (.tup [V.int 0,V.int 1,V.int 2]) = H1 at st ht1 ⊢
 have h1a:=st _ _ ha
 refine ⟨t,rfl,⟨_,SqT.of ht1⟩,fun D hD=>?_⟩
 refine zjh (xs:=[V.int 0,V.int 1,V.int 2]) (fun c σ H6=>∃ x0 : Option V,σ = [x0,some (.ref a)]∧H6 D = some (.lst (((List.range c).filter fun c=>!decide (c∈zaY xs k)).map nV))∧But D H1 H6) ?_ ?_ ?_ ?_
 ·exact ⟨_,rfl,zac,fun b o n e=>by rw [zag n]; exact e⟩
 ·rintro i σ H6 _ ⟨x0,rfl,_,k6⟩
  exact SqT.of (k6 _ _ (zab ht1 hD) ht1)
 ·rintro c m x σ H6 hx hm ⟨x0,rfl,h6,k6⟩
  obtain ⟨hi,rfl⟩ : c < 3∧x = V.int (c : Int):=by
   rcases c with _ | _ | _ | c
   ·exact ⟨by decide,(Option.some.inj hx).symm⟩
   ·exact ⟨by decide,(Option.some.inj hx).symm⟩
   ·exact ⟨by decide,(Option.some.inj hx).symm⟩
   ·cases hx
  have h6g:=k6 _ _ (zab h1a hD) h1a
  have hlen:=List.length_filter_le (fun c=>!decide (c∈zaY xs k)) (List.range c)
  rw [List.length_range] at hlen
  refine ⟨_,rfl,_,rfl,_,_,rfl,.inl (SqL.of h6g),rfl,zlB _,_,rfl,?_⟩
  show if (!inV (.int (c : Int)) ((zaY xs k).map nV)) = true then _ else _
  rw [znx]
  have hm3 : c + m = 3:=hm
  refine ite2 (fun e=>?_) (fun e=>?_)
  ·have e' : c∉zaY xs k:=fun z=>by
    rw [decide_eq_true z] at e
    cases e
   refine ⟨_,rfl,_,h6,zar (by rw [List.length_map]; omega),m - 1,by omega,(by show c + 1 + (m - 1) = 3; omega),_,rfl,?_,fun b o n e=>by rw [zag n]; exact k6 b o n e⟩
   rw [zac,zdC,if_neg e',List.map_append]
   rfl
  ·have e' : c∈zaY xs k:=Decidable.byContradiction fun z=>e (by rw [decide_eq_false z]; rfl)
   refine ⟨m - 1,by omega,(by show c + 1 + (m - 1) = 3; omega),_,rfl,?_,k6⟩
   rw [h6,zdC,if_pos e',List.append_nil]
 ·rintro σ H6 ⟨x0,rfl,h6,k6⟩
  have h6 : H6 D = some (.lst (((List.range 3).filter fun c=>!decide (c∈zaY xs k)).map nV)):=h6
  have s6 : Same H1 H6:=fun b o e=>k6 b o (zab e hD) e
  have mem : ∀ c,c∈((List.range 3).filter fun c=>!decide (c∈zaY xs k))↔c < 3∧c∉zaY xs k:=fun c=>by
   rw [List.mem_filter,List.mem_range]
   constructor
   ·rintro ⟨h1,h2⟩
    refine ⟨h1,fun z=>?_⟩
    rw [decide_eq_true z] at h2
    cases h2
   ·rintro ⟨h1,h2⟩
    exact ⟨h1,by rw [decide_eq_false h2]; rfl⟩
  have hf : zdB xs k∈((List.range 3).filter fun c=>!decide (c∈zaY xs k)):=(mem _).mpr ⟨Nat.lt_succ_of_le (zlz xs k),zjP⟩
  refine ⟨D,((List.range 3).filter fun c=>!decide (c∈zaY xs k)).map fun n : Nat=>(n : Int),rfl,?_,?_,fun M hM hL=>?_⟩
  ·rw [List.map_map]
   exact SqL.of h6
  ·rw [List.length_map]
   exact List.length_pos_of_mem hf
  have eM : M = (zdB xs k : Int):=by
   have h1:=hL _ (List.mem_map.mpr ⟨_,hf,rfl⟩)
   obtain ⟨c,hc,rfl⟩:=List.mem_map.mp hM
   have h2 : ¬ c < zdB xs k:=fun z=>((mem c).mp hc).2 (zho z)
   omega
  rw [eM]
  exact q _ (st.trans s6)
theorem zoA (xs : List Nat) (k : Nat) : besV (xs.map nV) k = (zaY xs k).map nV:=zlU xs k
theorem zjD (T : Txt K mg) (D_colours : DF K mg "colours" zdW zcv) (F_neighbours : FC P w K mg base 1 "neighbours" zbl (spNb K)) (F_least_free : FC P w K mg base 1 "least_free" zbz (zni K)) : FC P w K mg base 3 "colours" zcv (zg0 K):=by
 refine D_colours.ok sc_colours (fun vs H Q E h=>?_) (fun f cdv A outer s H vs Q E hr h=>?_)
 ·obtain ⟨a,xs,rfl,_⟩:=h
  rfl
 obtain ⟨a,xs,rfl,hS,hu,hb,hz,q⟩:=h
 refine ⟨_,(zaf (zaq (i:=1) sc_colours.nd rfl (Or.inl rfl) (zbL zeD rfl T.m_list boot_list (zaa (pv 0) zad)))
   (zaf (zbd PassesOwn.never rfl (ziS (zb2 (zaa zae (zaa zae (zaa zae zad))))) (zas (i:=2) sc_colours.nd rfl (Or.inl rfl)) (zah (zbd PassesOwn.never rfl (zbC rfl T.m_range (zaa (zap zam rfl T.m_len boot_len (zaa (pv 0) zad)) zad)) (zas (i:=3) sc_colours.nd rfl (Or.inl rfl)) (zah (zbO (zaC zfF (zaB zaz (pv 1) (pv 3) (fun _ _=>rfl)) (pv 2) (zaP _)) (zah (znp (zaE F_least_free hr (zaa (zaE F_neighbours hr (zaa (pv 1) (zaa (pv 3) zad))) zad)) (znr (pv 1) (pv 3) ziL))) zaN)))))
   (zah (zat (pv 1))))),?_⟩
 refine ⟨_,rfl,a,_,rfl,.inl hS,fun p hp=>?_⟩
 have k0 : But p H (upd H p (.lst (xs.map nV))):=fun b o n e=>by rw [zag n]; exact e
 refine ⟨(by show 3≤sizeLine; decide),fun t ht=>?_⟩
 have npt : p≠t:=zab zac ht
 refine ⟨t,rfl,⟨_,SqT.of zac⟩,?_⟩
 refine zlA (xs:=[V.int 3,V.int 4,V.int 5]) (fun i σ H2=>∃ x2 x3 : Option V,σ = [some (.ref a),some (.ref p),x2,x3]∧H2 p = some (.lst ((colN xs i).map nV))∧H2 t = some (.tup [V.int 3,V.int 4,V.int 5])∧But p H H2) ?_ ?_ ?_ ?_
 ·exact ⟨_,_,rfl,by rw [zag npt]; exact zac,zac,k0.new ht _⟩
 ·rintro i σ H2 _ ⟨x2,x3,rfl,_,h2t,_⟩
  exact SqT.of h2t
 ·rintro i x σ H2 hx ⟨x2,x3,rfl,h2,h2t,k2⟩
  obtain ⟨hi,rfl⟩ : i < 3∧x = V.int ((3 + i : Nat) : Int):=by
   rcases i with _ | _ | _ | i
   ·exact ⟨by decide,(Option.some.inj hx).symm⟩
   ·exact ⟨by decide,(Option.some.inj hx).symm⟩
   ·exact ⟨by decide,(Option.some.inj hx).symm⟩
   ·cases hx
  have hyl:=zii xs i
  have hyu:=zm1 hu i
  have hnx : colN xs (i + 1) = recL (3 + i) (colN xs i):=rfl
  rw [hnx]
  generalize colN xs i = ys at h2 hyl hyu ⊢
  generalize 3 + i = v
  have hSa : SqL K H2 a (xs.map nV):=k2.sq hS hp
  refine ⟨_,rfl,_,_,rfl,.inl hSa,_,rfl,by rw [List.length_map]; omega,by rw [List.length_map]; omega,?_⟩
  have el : ((((xs.map nV).length : Nat) : Int)).toNat = ys.length:=by rw [List.length_map,Int.toNat_natCast,hyl]
  rw [el]
  refine za9 (n:=ys.length) (fun k σ H3=>∃ x3 : Option V,σ = [some (.ref a),some (.ref p),some (.int v),x3]∧H3 p = some (.lst ((mixL v ys k).map nV))∧H3 t = some (.tup [V.int 3,V.int 4,V.int 5])∧But p H H3) ?_ ?_ ?_
  ·exact ⟨_,rfl,h2,h2t,k2⟩
  ·rintro k σ H3 hk ⟨x3,rfl,h3,h3t,k3⟩
   rw [Int.zero_add]
   have ml:=zfl v ys k
   have eg : (mixL v ys k).getD k 0 = ys.getD k 0:=by
    rw [List.getD_eq_getElem?_getD,zk7 (Nat.le_refl k),← List.getD_eq_getElem?_getD]
   have hat : atI ((mixL v ys k).map nV) (k : Int) = some (nV (ys.getD k 0)):=by
    rw [← eg]
    exact zhG (by omega)
   refine ⟨_,rfl,_,rfl,_,_,_,_,rfl,rfl,SqL.of h3,hat,_,rfl,rfl,_,rfl,?_⟩
   refine ite2 (fun c=>?_) (fun c=>?_)
   ·have c' : ys.getD k 0 = v:=by
     have:=V.int.inj (of_decide_eq_true c)
     omega
    refine ⟨_,rfl,_,rfl,p,_,k,rfl,h3,fun g H4 hg s4 h4=>?_⟩
    rw [zoA,zhY hyu hk c'] at h4
    refine ⟨g,ys,k,rfl,h4,fun H5 s5=>?_⟩
    have s35:=s4.trans s5
    have same : ∀ b o,b≠p→H3 b = some o→upd H5 p (.lst (((mixL v ys k).map nV).set k (nV (zdB ys k)))) b = some o:=fun b o n e=>by
     rw [zag n]
     exact s35 _ _ e
    refine ⟨_,rfl,_,rfl,_,_,_,k,rfl,rfl,s35 _ _ h3,zlo (by rw [List.length_map,ml]; exact hk),?_⟩
    refine ⟨_,rfl,?_,same _ _ (Ne.symm (zdx h3 h3t)) h3t,fun b o n e=>same _ _ n (k3 b o n e)⟩
    rw [zac,zmC hk c',List.map_set]
   ·have c' : ys.getD k 0≠v:=fun z=>c (by rw [z]; exact decide_eq_true rfl)
    exact ⟨_,rfl,by rw [zk5 hk c']; exact h3,h3t,k3⟩
  ·rintro σ H3 ⟨x3,rfl,h3,h3t,k3⟩
   rw [zmD (Nat.le_refl _)] at h3
   exact ⟨_,_,rfl,h3,h3t,k3⟩
 ·rintro σ H2 ⟨x2,x3,rfl,h2,_,k2⟩
  refine ⟨_,rfl,?_⟩
  exact q p H2 hp (fun b o e=>k2 b o (zab e hp) e) h2
def zdc (ms : List Bool) (k : Nat) : Bool:=!ms.getD (k - 1) false && !ms.getD (k + 1) false
def besB (ms : List Bool) (k : Nat) : List Bool:=(if k = 0 then none else ms[k - 1]?).toList ++ ms[k + 1]?.toList
theorem zoB (ms : List Bool) (k : Nat) : besV (ms.map V.bl) k = (besB ms k).map V.bl:=by
 unfold besV besB
 rw [List.map_append,List.getElem?_map,List.getElem?_map]
 congr 1
 ·split
  ·rfl
  ·cases ms[k - 1]? <;> rfl
 ·cases ms[k + 1]? <;> rfl
theorem zm3 {ms : List Bool} {k : Nat} (h : 1≤k) : (besB ms k).any id = !zdc ms k:=by
 unfold besB zdc
 rw [if_neg (by omega),List.any_append,zfN,zfN,List.getD_eq_getElem?_getD,List.getD_eq_getElem?_getD]
 generalize ms[k - 1]?.getD false = x
 generalize ms[k + 1]?.getD false = z
 cases x <;> cases z <;> rfl
theorem zhX {sh : Nat} {cs : List Nat} {ms : List Bool} (hu : Unl cs) (hl : cs.length = ms.length) {k : Nat} (h : k < cs.length) (h1 : 1≤k) (hs : cs.getD k 0 = sh) : zdc (mixM sh cs ms k) k = zdc ms k:=by
 unfold zdc
 have e : ∀ j,k≤j→(mixM sh cs ms k).getD j false = ms.getD j false:=fun j hj=>by
  rw [List.getD_eq_getElem?_getD,List.getD_eq_getElem?_getD,zch hl,if_neg (by omega)]
 rw [e (k + 1) (by omega)]
 have e2 : (mixM sh cs ms k).getD (k - 1) false = ms.getD (k - 1) false:=by
  rw [List.getD_eq_getElem?_getD,zch hl,if_pos (by omega),zdn hl (by omega)]
  have:=hu (k - 1) (by omega)
  rw [show k - 1 + 1 = k by omega,hs] at this
  rw [decide_eq_false this]
  simp
 rw [e2]
theorem zfV {sh : Nat} {cs : List Nat} {ms : List Bool} (hl : cs.length = ms.length) {k : Nat} (h : k < cs.length) (hn : ¬ (cs.getD k 0 = sh∧zdc ms k = true)) : mixM sh cs ms (k + 1) = mixM sh cs ms k:=by
 apply List.ext_getElem?
 intro j
 rw [zch hl,zch hl]
 by_cases c : j < k
 ·rw [if_pos c,if_pos (by omega)]
 ·rw [if_neg c]
  split
  ·have : j = k:=by omega
   subst this
   rw [zdn hl h]
   unfold zdc at hn
   rw [List.getElem?_eq_getElem (by omega)]
   have e : ms.getD j false = ms[j]'(by omega):=by
    rw [List.getD_eq_getElem?_getD,List.getElem?_eq_getElem (by omega)]
    rfl
   rw [e]
   congr 1
   generalize ms[j] = a
   generalize ms.getD (j - 1) false = b at hn ⊢
   generalize ms.getD (j + 1) false = d at hn ⊢
   by_cases z : cs.getD j 0 = sh
   ·have hn' : ¬ ((!b && !d) = true):=fun y=>hn ⟨z,y⟩
    cases b with
    | true=>simp
    | false=>
     cases d with
     | true=>simp
     | false=>exact absurd rfl hn'
   ·rw [decide_eq_false z]
    simp
  ·rfl
theorem zk4 {sh : Nat} {cs : List Nat} {ms : List Bool} (hl : cs.length = ms.length) {k : Nat} (h : k < cs.length) (hp : 1≤k∧cs.getD k 0 = sh∧zdc ms k = true) : mixM sh cs ms (k + 1) = (mixM sh cs ms k).set k true:=by
 apply List.ext_getElem?
 intro j
 rw [List.getElem?_set,zfk hl,zch hl,zch hl]
 by_cases c : k = j
 ·subst c
  rw [if_pos rfl,if_pos h,if_pos (by omega),zdn hl h]
  obtain ⟨p1,p2,p3⟩:=hp
  unfold zdc at p3
  simp only [Bool.and_eq_true,Bool.not_eq_true'] at p3
  rw [p2,p3.1,p3.2,decide_eq_true p1]
  simp
 ·rw [if_neg c]
  by_cases c2 : j < k
  ·rw [if_pos c2,if_pos (by omega)]
  ·rw [if_neg c2,if_neg (by omega)]
theorem zmr (T : Txt K mg) (D_marks : DF K mg "marks" zgg zd0) (F_labels : FC P w K mg base 3 "labels" zcY (ziG K)) (F_colours : FC P w K mg base 3 "colours" zcv (zg0 K)) (F_neighbours : FC P w K mg base 1 "neighbours" zbl (spNb K)) : FC P w K mg base 5 "marks" zd0 (zkq K):=by
 refine D_marks.ok sc_marks (fun vs H Q E h=>?_) (fun f cdv A outer s H vs Q E hr h=>?_)
 ·obtain ⟨a,ws,es,rfl,_⟩:=h
  rfl
 obtain ⟨a,ws,es,rfl,ha,hw,hz,he,hri,q⟩:=h
 refine ⟨_,(zaf (zaq (i:=1) sc_marks.nd rfl (Or.inl rfl) (zaE F_colours hr (zaa (zaE F_labels hr (zaa (pv 0) zad)) zad)))
   (zaf (zgo (i:=2) (N:=["tint"]) (own:=1) (cap:=[]) sc_marks.nd rfl rfl rfl (zbD (pv 1)) ⟨rfl,rfl,rfl,rfl,rfl,rfl⟩ (fun _ _ _ _ _=>(zas (i:=0) (show List.Nodup (["tint"] : List Str) by decide +kernel) rfl (Or.inl rfl))) (fun _ _ _ _ _=>zbY) (fun _ _ _ _ _=>zdt))
   (zaf (zbd PassesOwn.never rfl (ziS (zb2 (zaa zae (zaa zae (zaa zae zad))))) (zas (i:=3) sc_marks.nd rfl (Or.inl rfl)) (zah (zbd PassesOwn.never rfl (zc4 rfl T.m_range (zaa zae (zaa (zap zam rfl T.m_len boot_len (zaa (pv 1) zad)) zad))) (zas (i:=4) sc_marks.nd rfl (Or.inl rfl)) (zah (zbO (PW.pt (ziP (zaC zfF (zaB zaz (pv 1) (pv 4) (fun _ _=>rfl)) (pv 3) (zaP _)) (zgn (zaC zet zdt (zaE F_neighbours hr (zaa (pv 2) (zaa (pv 4) zad))) (by with_unfolding_all rfl))))) (zah (znp zdt (znr (pv 2) (pv 4) ziL))) zaN)))))
   (zah (zat (pv 2)))))),?_⟩
 refine ⟨_,rfl,a,ws,es,rfl,SqL.of ha,hw,hz,he,hri,fun p H3 hp s3 h3=>?_⟩
 refine ⟨p,_,rfl,SqL.of h3,zh3 he hri,zhi he hri,by rw [zcc,zaV]; exact hz,fun c H4 hc s4 h4=>?_⟩
 have cu : Unl (colL (zcR 5 (zcC es))):=zm9 (zji (unlZ (zh3 he hri)))
 have cl : (colL (zcR 5 (zcC es))).length = es.length:=by rw [zfv,zcc,zaV]
 have fin : zb7 es = mkN (colL (zcR 5 (zcC es))) 3:=(zk2 _).symm
 generalize colL (zcR 5 (zcC es)) = cs at h4 cu cl fin
 have s04:=s3.trans s4
 refine ⟨_,rfl,c,rfl,⟨_,SqL.of h4⟩,fun F hF=>?_⟩
 refine zbG (xs:=cs.map nV) (fun i σ H5=>∃ x0 : Option V,σ = [x0]∧H5 F = some (.lst ((List.replicate i false).map V.bl))∧But F H4 H5) ?_ ?_ ?_ ?_
 ·exact ⟨_,rfl,zac,fun b o n e=>by rw [zag n]; exact e⟩
 ·rintro i σ H5 _ ⟨x0,rfl,_,k5⟩
  exact k5.sq (SqL.of h4) hF
 ·rintro i m x σ H5 hx hm ⟨x0,rfl,h5,k5⟩
  have hi:=(List.getElem?_eq_some_iff.mp hx).1
  rw [List.length_map] at hi hm
  refine zdA ?_
  refine ⟨_,h5,zar (by rw [List.length_map,List.length_replicate]; omega),m - 1,by omega,by rw [List.length_map]; omega,_,rfl,?_,fun b o n e=>by rw [zag n]; exact k5 b o n e⟩
  rw [zac,List.replicate_succ',List.map_append]
  rfl
 rintro σ H5 ⟨x0,rfl,h5,k5⟩
 have s45 : Same H4 H5:=fun b o e=>k5 b o (zab e hF) e
 have h5c:=s45 _ _ h4
 have nFc : c≠F:=zab h4 hF
 have hF0 : H F = none:=s04.free hF
 have k05 : But F H H5:=fun b o _ e=>s45 _ _ (s04 _ _ e)
 have e5 : H5 F = some (.lst ((mkN cs 0).map V.bl)):=by
  rw [h5,mkN,List.length_map,show List.replicate cs.length false = cs.map (fun _=>false) from by rw [List.map_const']]
 refine ⟨(by show 3≤sizeLine; decide),fun t ht=>?_⟩
 have st:=zak ht (.tup [V.int 2,V.int 1,V.int 0])
 refine ⟨t,rfl,⟨_,SqT.of zac⟩,?_⟩
 refine zlA (xs:=[V.int 2,V.int 1,V.int 0]) (fun i σ H6=>∃ (x3 x4 : Option V),σ = [some (.ref a),some (.ref c),some (.ref F),x3,x4]∧H6 F = some (.lst ((mkN cs i).map V.bl))∧H6 c = some (.lst (cs.map nV))∧H6 t = some (.tup [V.int 2,V.int 1,V.int 0])∧But F H H6) ?_ ?_ ?_ ?_
 ·exact ⟨_,_,rfl,st _ _ e5,st _ _ h5c,zac,k05.new ht _⟩
 ·rintro i σ H6 _ ⟨x3,x4,rfl,_,_,h6t,_⟩
  exact SqT.of h6t
 ·rintro i x σ H6 hx ⟨x3,x4,rfl,h6,h6c,h6t,k6⟩
  obtain ⟨hi,rfl⟩ : i < 3∧x = V.int ((2 - i : Nat) : Int):=by
   rcases i with _ | _ | _ | i
   ·exact ⟨by decide,(Option.some.inj hx).symm⟩
   ·exact ⟨by decide,(Option.some.inj hx).symm⟩
   ·exact ⟨by decide,(Option.some.inj hx).symm⟩
   ·cases hx
  have hml:=zjG cs i
  have hnx : mkN cs (i + 1) = zb6 (2 - i) cs (mkN cs i):=rfl
  rw [hnx]
  generalize mkN cs i = ms at h6 hml ⊢
  generalize 2 - i = sh
  refine ⟨_,rfl,_,_,rfl,.inl (SqL.of h6c),1,_,rfl,⟨by omega,by omega,by rw [List.length_map]; omega,by rw [List.length_map]; omega⟩,?_⟩
  have en : ((((cs.map nV).length : Nat) : Int) - 1).toNat = cs.length - 1:=by rw [List.length_map]; omega
  rw [en]
  have km : ∀ k,(mixM sh cs ms k).length = cs.length:=zfk hml
  refine za9 (n:=cs.length - 1) (fun j σ H7=>∃ (x4 : Option V),σ = [some (.ref a),some (.ref c),some (.ref F),some (.int sh),x4]∧H7 F = some (.lst ((mixM sh cs ms (1 + j)).map V.bl))∧H7 c = some (.lst (cs.map nV))∧H7 t = some (.tup [V.int 2,V.int 1,V.int 0])∧But F H H7) ?_ ?_ ?_
  ·exact ⟨_,rfl,by rw [zmA hml]; exact h6,h6c,h6t,k6⟩
  ·rintro j σ H7 hj ⟨x4,rfl,h7,h7c,h7t,k7⟩
   have ek : (1 : Int) + (j : Int) = ((1 + j : Nat) : Int):=by omega
   have hk1 : 1≤1 + j:=by omega
   have hkl : 1 + j < cs.length:=by omega
   rw [ek]
   have es1 : 1 + (j + 1) = 1 + j + 1:=by omega
   rw [es1]
   generalize 1 + j = k at h7 hk1 hkl ⊢
   have hat:=zhG (xs:=cs) hkl
   have mc : cs.getD k 0 = sh→zdc (mixM sh cs ms k) k = zdc ms k:=fun z=>zhX cu hml hkl hk1 z
   refine ⟨_,rfl,_,rfl,_,_,_,_,rfl,rfl,SqL.of h7c,hat,_,rfl,rfl,_,rfl,?_⟩
   refine ite2 (fun e=>?_) (fun e=>?_)
   ·have e' : cs.getD k 0 = sh:=by
     have:=V.int.inj (of_decide_eq_true e)
     omega
    refine ⟨_,rfl,_,rfl,F,_,k,rfl,h7,fun b H8 hb sb hbb=>?_⟩
    rw [zoB] at hbb
    have kb : But F H H8:=fun x o n e=>sb _ _ (k7 x o n e)
    refine ⟨_,_,rfl,.inl (SqL.of hbb),rfl,zow _,_,rfl,?_⟩
    show if (!inV (.bl true) ((besB (mixM sh cs ms k) k).map V.bl)) = true then _ else _
    rw [zmO,zm3 hk1,mc e',Bool.not_not]
    refine ite2 (fun y=>?_) (fun y=>?_)
    ·refine ⟨_,rfl,_,rfl,_,_,_,k,rfl,rfl,sb _ _ h7,zlo (by rw [List.length_map,km]; exact hkl),?_⟩
     have same : ∀ b o,b≠F→H8 b = some o→upd H8 F (.lst (((mixM sh cs ms k).map V.bl).set k (.bl true))) b = some o:=fun b o n e=>by
      rw [zag n]
      exact e
     refine ⟨_,rfl,?_,same _ _ (fun z=>?_) (sb _ _ h7c),same _ _ (Ne.symm (zdx (sb _ _ h7) (sb _ _ h7t))) (sb _ _ h7t),fun b o n e=>same _ _ n (kb b o n e)⟩
     ·rw [zac,zk4 hml hkl ⟨hk1,e',y⟩,List.map_set]
     ·exact nFc z
    ·exact ⟨_,rfl,by rw [zfV hml hkl (fun z=>y z.2)]; exact sb _ _ h7,sb _ _ h7c,sb _ _ h7t,kb⟩
   ·have e' : cs.getD k 0≠sh:=fun z=>e (by rw [z]; exact decide_eq_true rfl)
    refine iteF ?_
    exact ⟨_,rfl,by rw [zfV hml hkl (fun z=>e' z.1)]; exact h7,h7c,h7t,k7⟩
  ·rintro σ H7 ⟨x4,rfl,h7,h7c,h7t,k7⟩
   rw [zmB hml (by omega)] at h7
   exact ⟨_,_,rfl,h7,h7c,h7t,k7⟩
 ·rintro σ H6 ⟨x3,x4,rfl,h6,_,_,k6⟩
  refine ⟨_,rfl,?_⟩
  refine q F H6 hF0 (fun b o e=>k6 b o (zab e hF0) e) ?_
  rw [fin]
  exact h6
theorem zmS {α : Type} : zcM ([] : List α) [] = []:=rfl
theorem get_bl {ms : List Bool} {i : Nat} {x : V} (h : (ms.map V.bl)[i]? = some x) : ∃ hi : i < ms.length,x = .bl ms[i]:=by
 rw [List.getElem?_map] at h
 cases e : ms[i]? with
 | none=>rw [e] at h; cases h
 | some y=>
  rw [e] at h
  obtain ⟨hi,rfl⟩:=List.getElem?_eq_some_iff.mp e
  exact ⟨hi,(Option.some.inj h).symm⟩
theorem zdO {α : Type} {l : List α} {i : Nat} (h : i < l.length) : l.take (i + 1) = l.take i ++ [l[i]]:=List.take_succ_eq_append_getElem h
theorem zkW (T : Txt K mg) (D_handed : DF K mg "handed" zeU zc3) (F_marks : FC P w K mg base 5 "marks" zd0 (zkq K)) : FC P w K mg base 6 "handed" zc3 (ziI K):=by
 refine D_handed.ok sc_handed (fun vs H Q E h=>?_) (fun f cdv A outer s H vs Q E hr h=>?_)
 ·obtain ⟨a,ws,es,rfl,_⟩:=h
  rfl
 obtain ⟨a,ws,es,rfl,ha,hw,hz,he,hri,q⟩:=h
 have hwl:=hw.length
 have hml:=zbn es
 refine ⟨_,(zah (zat (zcl (N:=["entry","mark"]) (own:=2) (cap:=[]) rfl (znq rfl T.m_zip (zaa (pv 0) (zaa (zaE F_marks hr (zaa (pv 0) zad)) zad))) ⟨rfl,rfl,rfl,rfl,rfl,rfl⟩ (fun _ _ _ _ _=>(zkF (K:=K) (n:=2) rfl (zbm (zas (i:=0) (show List.Nodup (["entry","mark"] : List Str) by decide +kernel) rfl (Or.inl rfl)) (zbm (zas (i:=1) (show List.Nodup (["entry","mark"] : List Str) by decide +kernel) rfl (Or.inl rfl)) zek)))) (fun _ _ _ _ _=>(zhP (zfe (pv 1)))) (fun _ _ _ _ _=>(pv 0))))),?_⟩
 refine ⟨_,rfl,_,rfl,a,ws,es,rfl,ha,hw,hz,he,hri,fun u H6 hu g6 h6u=>?_⟩
 have h6p:=g6 _ _ ha
 generalize zb7 es = ms at hml h6u q
 refine ⟨a,u,rfl,⟨_,SqL.of h6p⟩,⟨_,SqL.of h6u⟩,fun D hD=>?_⟩
 refine zmZ (xs:=ws) (ys:=ms.map V.bl) (by rw [List.length_map,hml]; exact hwl.symm) (fun j σ H7=>∃ x0 x1 : Option V,σ = [x0,x1]∧H7 D = some (.lst (zcM (ws.take j) (ms.take j)))∧But D H6 H7) ?_ ?_ ?_ ?_
 ·exact ⟨_,_,rfl,by rw [List.take_zero,List.take_zero,zmS]; exact zac,fun b o n e=>by rw [zag n]; exact e⟩
 ·rintro j σ H7 _ ⟨x0,x1,rfl,_,k7⟩
  exact ⟨k7.sq (SqL.of h6p) hD,k7.sq (SqL.of h6u) hD⟩
 ·rintro j m' x y σ H7 r' hx hy hm' ⟨x0,x1,rfl,h7,k7⟩ hr'
  obtain ⟨hj,rfl⟩:=get_bl hy
  obtain ⟨hjw,rfl⟩:=List.getElem?_eq_some_iff.mp hx
  have hsn:=zhl (a:=ws[j]) (b:=ms[j]) (show (ws.take j).length = (ms.take j).length by rw [List.length_take,List.length_take]; omega)
  rw [← zdO hjw,← zdO hj] at hsn
  refine ⟨r',_,rfl,SqT.of zac,rfl,_,_,rfl,_,_,rfl,rfl,?_⟩
  have s7:=zak hr' (.tup [ws[j],.bl ms[j]])
  have h8:=s7 _ _ h7
  have k8:=k7.new hr' (.tup [ws[j],.bl ms[j]])
  generalize upd H7 r' (.tup [ws[j],.bl ms[j]]) = H8 at h8 k8 ⊢
  refine ⟨_,rfl,_,rfl,?_⟩
  have hl8:=zia (ws.take j) (ms.take j)
  rw [List.length_take] at hl8
  refine ite2 (fun e=>?_) (fun e=>?_)
  ·refine ⟨_,rfl,_,h8,zar (by omega),m' - 1,by omega,by omega,_,_,rfl,?_,fun b o n e=>by rw [zag n]; exact k8 b o n e⟩
   rw [zac,hsn,if_pos e]
  ·refine ⟨m' - 1,by omega,by omega,_,_,rfl,?_,k8⟩
   rw [h8,hsn,if_neg e,List.append_nil]
 ·rintro σ H7 ⟨x0,x1,rfl,h7,k7⟩
  rw [List.take_of_length_le (Nat.le_refl _),List.take_of_length_le (by omega)] at h7
  have s7 : Same H6 H7:=fun b o e=>k7 b o (zab e hD) e
  exact q D H7 (g6.free hD) (g6.trans s7) h7
theorem zbE {K : PySem.W.Frag} {H : Hp} {q : Addr} {zs : List V} {o : HO} (hq : H q = some (.lst zs)) : ∀ {es : List (Int×Int)} {ws : List V},zal K H es ws→zal K (upd H q o) es ws
 | _,_,.nil=>.nil
 | _,_,.cons h t=>by
  refine .cons ?_ (zbE hq t)
  obtain ⟨a,x1,x2,rfl,hT,e1,e2⟩:=(show hasP K H _ _ from h)
  exact ⟨a,x1,x2,rfl,by rw [zag (ne_of hT hq (by intro z; cases z))]; exact hT,e1,e2⟩
def Own (K : PySem.W.Frag) (H : Hp) : List Addr→List (List (Int×Int))→Prop:=Paired fun q l=>∃ ws,H q = some (.lst ws)∧zal K H l ws
section
variable {K : PySem.W.Frag} {H H' : Hp}
theorem Own.length {qs : List Addr} {ls : List (List (Int×Int))} (h : Own K H qs ls) : qs.length = ls.length:=Paired.length h
theorem Own.ext (e : Ext H H') : ∀ {qs : List Addr} {ls : List (List (Int×Int))},Own K H qs ls→Own K H' qs ls
 | _,_,.nil=>.nil
 | _,_,.cons ⟨ws,h1,h2⟩ t=>.cons ⟨ws,e _ _ h1 (fun _ z=>nomatch z),zal.mono e h2⟩ (Own.ext e t)
theorem Own.all : ∀ {qs : List Addr} {ls : List (List (Int×Int))},Own K H qs ls→zal K H ls (qs.map V.ref)
 | _,_,.nil=>.nil
 | _,_,.cons ⟨ws,h1,h2⟩ t=>.cons ⟨_,ws,rfl,SqL.of h1,h2⟩ (Own.all t)
theorem Own.has {qs : List Addr} {ls : List (List (Int×Int))} {p : Addr} (h : Own K H qs ls) (hp : H p = some (.lst (qs.map V.ref))) : Rep.has K H ls (.ref p):=⟨p,_,rfl,SqL.of hp,h.all⟩
theorem Own.get : ∀ {qs : List Addr} {ls : List (List (Int×Int))} {i : Nat} {x : V},Own K H qs ls→(qs.map V.ref)[i]? = some x→∃ q l ws,qs[i]? = some q∧x = .ref q∧ls[i]? = some l∧H q = some (.lst ws)∧zal K H l ws
 | _,_,_,_,.nil,e=>by simp at e
 | _,_,0,_,.cons ⟨ws,h1,h2⟩ _,e=>by
  simp at e
  exact ⟨_,_,ws,rfl,e.symm,rfl,h1,h2⟩
 | _,_,i + 1,x,.cons _ t,e=>by
  obtain ⟨q,l,ws,h1,h2,h3,h4,h5⟩:=Own.get (i:=i) (x:=x) t (by simpa using e)
  exact ⟨q,l,ws,by simpa using h1,h2,by simpa using h3,h4,h5⟩
theorem Own.append : ∀ {qs qs' : List Addr} {ls ls' : List (List (Int×Int))},Own K H qs ls→Own K H qs' ls'→Own K H (qs ++ qs') (ls ++ ls')
 | _,_,_,_,.nil,s=>s
 | _,_,_,_,.cons r t,s=>.cons r (Own.append t s)
theorem Own.rev : ∀ {qs : List Addr} {ls : List (List (Int×Int))},Own K H qs ls→Own K H qs.reverse ls.reverse
 | _,_,.nil=>.nil
 | _,_,.cons r t=>by
  rw [List.reverse_cons,List.reverse_cons]
  exact Own.append (Own.rev t) (.cons r .nil)
theorem Own.other {q : Addr} {o : HO} {zs : List V} (hq : H q = some (.lst zs)) : ∀ {qs : List Addr} {ls : List (List (Int×Int))},Own K H qs ls→q∉qs→Own K (upd H q o) qs ls
 | _,_,.nil,_=>.nil
 | _,_,.cons ⟨ws,h1,h2⟩ t,hn=>by
  rw [List.mem_cons,not_or] at hn
  exact .cons ⟨ws,by rw [zag (Ne.symm hn.1)]; exact h1,zbE hq h2⟩ (Own.other hq t hn.2)
theorem Own.put {e : Int×Int} {x : V} (hx : Rep.has K H e x) : ∀ {qs : List Addr} {ls : List (List (Int×Int))} {i : Nat} {q : Addr} {ws : List V},Own K H qs ls→qs.Nodup→qs[i]? = some q→H q = some (.lst ws)→
  ∃ ls',Own K (upd H q (.lst (ws ++ [x]))) qs ls'∧ls'.length = ls.length∧ls'.flatten.length = ls.flatten.length + 1
 | _,_,_,_,_,.nil,_,e,_=>by simp at e
 | q' :: qs,l :: ls,0,q,ws,.cons ⟨ws',h1,h2⟩ t,hn,e,hq=>by
  have e : q' = q:=by simpa using e
  subst e
  rw [h1] at hq
  cases hq
  rw [List.nodup_cons] at hn
  refine ⟨(l ++ [_]) :: ls,.cons ⟨_,zac,(zbE h1 h2).append (zbE h1 (.one hx))⟩ (Own.other h1 t hn.1),rfl,?_⟩
  rw [List.flatten_cons,List.flatten_cons,List.length_append,List.length_append,List.length_append,List.length_singleton]
  omega
 | q' :: qs,l :: ls,i + 1,q,ws,.cons ⟨ws',h1,h2⟩ t,hn,e,hq=>by
  have e : qs[i]? = some q:=by simpa using e
  rw [List.nodup_cons] at hn
  obtain ⟨ls',g1,g2,g3⟩:=Own.put hx t hn.2 e hq
  have hne : q'≠q:=fun z=>hn.1 (by rw [z]; exact List.mem_of_getElem? e)
  refine ⟨l :: ls',.cons ⟨ws',by rw [zag hne]; exact h1,zbE hq h2⟩ g1,by rw [List.length_cons,List.length_cons,g2],?_⟩
  rw [List.flatten_cons,List.flatten_cons,List.length_append,List.length_append,g3]
  omega
end
theorem zhp {ls : List (List (Int×Int))} {i : Nat} {l : List (Int×Int)} (h : ls[i]? = some l) : (ls.take (i + 1)).flatten = (ls.take i).flatten ++ l:=by
 have hi:=(List.getElem?_eq_some_iff.mp h).1
 rw [List.take_succ_eq_append_getElem hi,List.flatten_append,(List.getElem?_eq_some_iff.mp h).2]
 simp
theorem zov {ls : List (List (Int×Int))} (i : Nat) : (ls.take i).flatten.length≤ls.flatten.length:=by
 have e : ls.flatten = (ls.take i).flatten ++ (ls.drop i).flatten:=by rw [← List.flatten_append,List.take_append_drop]
 rw [e,List.length_append]
 omega
def znh (K : PySem.W.Frag) : Sp:=fun vs H Q _=>∃ (a : Addr) (qs : List Addr) (ls : List (List (Int×Int))),vs = [.ref a]∧H a = some (.lst (qs.map V.ref))∧Own K H qs ls∧ls.flatten.length≤63∧
 ∀ (p : Addr) (ws : List V) (H' : Hp),H p = none→Same H H'→H' p = some (.lst ws)→zal K H' (zbX ls.flatten) ws→Q (.ref p) H'
theorem zkV (T : Txt K mg) (D_joined_up : DF K mg "joined_up" zcG zbK) : FC P w K mg base 1 "joined_up" zbK (znh K):=by
 refine D_joined_up.ok sc_joined_up (fun vs H Q E h=>?_) (fun f cdv A outer s H vs Q E hr h=>?_)
 ·obtain ⟨a,qs,ls,rfl,_⟩:=h
  rfl
 obtain ⟨a,qs,ls,rfl,ha,ho,hz,q⟩:=h
 have hll:=ho.length
 refine ⟨_,(zaf (zaq (i:=1) sc_joined_up.nd rfl (Or.inl rfl) (zbQ zad))
   (zaf (zbd PassesOwn.never rfl (zbD (pv 0)) (zas (i:=2) sc_joined_up.nd rfl (Or.inl rfl)) (zah (zbu (zd4 F.plainAttrs_list F.slot_list_extend F.type_list_extend zk1 (pv 1) (zaa (pv 2) zad)))))
   (zah (zat (zap (zeC (Int×Int)) rfl T.m_sorted boot_sorted (zaa (pv 1) zad)))))),?_⟩
 refine ⟨(by show 0≤sizeLine; decide),fun t ht=>?_⟩
 have k0 : But t H (upd H t (.lst [])):=fun b o n e=>by rw [zag n]; exact e
 refine ⟨_,rfl,a,rfl,⟨_,SqL.of (k0 _ _ (zab ha ht) ha)⟩,?_⟩
 refine zed (xs:=qs.map V.ref) (fun i σ H2=>∃ (zs : List V) (x2 : Option V),σ = [some (.ref a),some (.ref t),x2]∧H2 t = some (.lst zs)∧zal K H2 (ls.take i).flatten zs∧But t H H2∧Own K H2 qs ls) ?_ ?_ ?_ ?_
 ·exact ⟨[],_,rfl,zac,.nil,k0,ho.ext (zak ht _).ext⟩
 ·rintro i σ H2 _ ⟨zs,x2,rfl,h2,_,k2,_⟩
  exact SqL.of (k2 _ _ (zab ha ht) ha)
 ·rintro i x σ H2 hx ⟨zs,x2,rfl,h2,hw,k2,o2⟩
  obtain ⟨g,l,ws,e1,rfl,e3,e4,e5⟩:=o2.get hx
  have hlen : zs.length + ws.length≤1000:=by
   have z1:=hw.length
   have z2:=e5.length
   have z3:=zov (ls:=ls) (i + 1)
   rw [zhp e3,List.length_append] at z3
   omega
  have hgo : ∀ b∈qs,b≠t:=fun b hb z=>by
   obtain ⟨j,hj,rfl⟩:=List.getElem_of_mem hb
   obtain ⟨_,_,ws0,f1,f2,_,f4,_⟩:=ho.get (i:=j) (x:=.ref qs[j]) (by rw [List.getElem?_map,List.getElem?_eq_getElem hj]; rfl)
   cases f2
   rw [z,ht] at f4
   cases f4
  refine ⟨_,rfl,.inl ⟨rfl,_,SqL.of h2⟩,_,rfl,t,g,zs,ws,rfl,rfl,h2,e4,Nat.le_of_lt (zar hlen),?_⟩
  refine ⟨_,_,rfl,zac,?_,fun b o n e=>by rw [zag n]; exact k2 b o n e,o2.other h2 (fun z=>hgo t z rfl)⟩
  rw [zhp e3]
  exact (zbE h2 hw).append (zbE h2 e5)
 ·rintro σ H2 ⟨zs,x2,rfl,h2,hw,k2,o2⟩
  rw [List.take_of_length_le (by rw [List.length_map]; omega)] at hw
  refine ⟨_,rfl,t,zs,_,rfl,SqL.of h2,hw,by omega,fun l ws hl hs=>?_⟩
  have e2:=zak hl (.lst ws)
  have s2 : Same H H2:=fun b o e=>k2 b o (zab e ht) e
  exact q l ws _ (s2.free hl) (s2.trans e2) zac (zal.mono e2.ext hs)
def zco (ps : List Nat) : List V:=.non :: ps.map nV
def parV (ps : List Nat) (k : Nat) : V:=match par ps k with
 | none=>.non
 | some p=>nV p
theorem zav (ps : List Nat) : (zco ps).length = ps.length + 1:=by
 unfold zco
 rw [List.length_cons,List.length_map]
theorem zgO {ps : List Nat} {k : Nat} (h : k < ps.length + 1) : atI (zco ps) (k : Int) = some (parV ps k):=by
 refine zaJ ?_
 unfold zco parV
 cases k with
 | zero=>rfl
 | succ k=>
  show (ps.map nV)[k]? = some (match ps[k]? with | none=>_ | some p=>nV p)
  rw [List.getElem?_map,List.getElem?_eq_getElem (show k < ps.length by omega)]
  rfl
theorem zd5 {ps : List Nat} {k p : Nat} (h : par ps k = some p) : parV ps k = nV p:=by
 unfold parV
 rw [h]
theorem zg8 {ps : List Nat} {k : Nat} (h : par ps k = none) : parV ps k = .non:=by
 unfold parV
 rw [h]
theorem zhU {ps : List Nat} {k m : Nat} : parV ps k = .int (m : Int)↔par ps k = some m:=by
 cases e : par ps k with
 | none=>
  rw [zg8 e]
  exact ⟨(fun z=>nomatch z),(fun z=>nomatch z)⟩
 | some p=>
  rw [zd5 e]
  constructor
  ·intro z
   have:=Int.ofNat.inj (V.int.inj z)
   rw [this]
  ·intro z
   rw [Option.some.inj z]
theorem zkx (ps : List Nat) (k : Nat) (i : Int) : scal (parV ps k) (.int i) = true:=by
 cases e : par ps k with
 | none=>rw [zg8 e]; rfl
 | some p=>rw [zd5 e]; rfl
theorem But.new' {p b : Addr} {H H2 : Hp} (k : But p H H2) (hb : H2 b = none) (o : HO) : But p H (upd H2 b o):=fun x o' n e=>(zak hb o) x o' (k x o' n e)
def znd (K : PySem.W.Frag) : Sp:=fun vs H Q _=>∃ (d L : Addr) (m : Int),vs = [.ref d,.int m]∧(0 < m∧m≤40)∧LS K L d H∧
 ∀ (t : Addr) (ps : List Nat) (H' : Hp),H t = none→zaA ps→(ps.length : Int) < m→H' t = some (.tup (zco ps))→Keep d H H'→LS K L d H'→Q (.ref t) H'
theorem zkb {ps : List Nat} {u : Nat} (T : zaA ps) (h : u≤ps.length) : zaA (ps ++ [u]):=by
 intro i hi
 rw [List.length_append,List.length_singleton] at hi
 by_cases c : i < ps.length
 ·rw [List.getElem_append_left c]
  exact T i c
 ·have : i = ps.length:=by omega
  subst this
  rw [List.getElem_append_right (Nat.le_refl _)]
  simp
  exact h
theorem zms (T : Txt K mg) (D_l_tree : DF K mg "_law_tree" zeP zcZ) (F_l_take : FC P w K mg base 2 "_law_take" zbA (zfQ K)) : FC P w K mg base 3 "_law_tree" zcZ (znd K):=by
 refine D_l_tree.ok sc_l_tree (fun vs H Q E h=>?_) (fun f cdv A outer s H vs Q E hr h=>?_)
 ·obtain ⟨d,L,m,rfl,_⟩:=h
  rfl
 obtain ⟨d,L,m,rfl,⟨hm0,hm1⟩,hs,q⟩:=h
 refine ⟨_,(zaf (zaq (i:=2) sc_l_tree.nd rfl (Or.inl rfl) (zaE F_l_take hr (zaa (pv 0) (zaa zae zad))))
   (zaf (zaq (i:=3) sc_l_tree.nd rfl (Or.inl rfl) (zbQ (zaa pe_non zad)))
   (zaf (zbd PassesOwn.never rfl (zc4 rfl T.m_range (zaa zae (zaa (zax zbf zae (zaE F_l_take hr (zaa (pv 0) (zaa (pv 1) zad)))) zad))) (zas (i:=4) sc_l_tree.nd rfl (Or.inl rfl)) (zah (zbu (zd4 F.plainAttrs_list F.slot_list_append F.type_list_append za2 (pv 3) (zaa (zaB zaz (zbQ (zaa (zax zbR (pv 4) zae) (zaa zae (zaa (zaE F_l_take hr (zaa (pv 0) (zaa (pv 4) zad))) (zaa (zap (zhy rfl) rfl T.m_max boot_max (zaa zae (zaa (zax zbR (zax zbR (pv 4) zae) (zaE F_l_take hr (zaa (pv 0) (zaa zae zad)))) zad))) zad))))) (pv 2) (fun _ _=>rfl)) zad)))))
   (zah (zat (zbL zcO rfl T.m_tuple boot_tuple (zaa (pv 3) zad))))))),?_⟩
 refine ⟨_,rfl,d,L,4,rfl,by decide,hs,fun w1 H1 w0 w4 k1 s1=>?_⟩
 refine ⟨(by show 1≤sizeLine; decide),fun p hp=>?_⟩
 have g0:=zak hp (.lst [V.non])
 have hpd : p≠d:=by
  obtain ⟨ns,a,l,e,_⟩:=s1.ex
  exact Ne.symm (zab e hp)
 have hp0 : H p = none:=by
  cases e : H p with
  | none=>rfl
  | some o=>
   have:=k1 p o hpd e
   rw [hp] at this
   cases this
 refine ⟨_,rfl,_,rfl,d,L,m,rfl,⟨hm0,by omega⟩,s1.same g0,fun n H2 n0 n1 k2 s2=>⟨_,_,rfl,rfl,1,_,rfl,⟨by omega,by omega,by omega,by omega⟩,?_⟩⟩
 have en : ((1 : Int) + n - 1).toNat = n.toNat:=by omega
 rw [en]
 refine za9 (n:=n.toNat) (fun i σ H3=>∃ (ps : List Nat) (x4 : Option V),σ = [some (.ref d),some (.int m),some (.int w1),some (.ref p),x4]∧H3 p = some (.lst (zco ps))∧ps.length = i∧zaA ps∧(∀ b o,b≠d→b≠p→H b = some o→H3 b = some o)∧LS K L d H3) ?_ ?_ ?_
 ·exact ⟨[],_,rfl,k2 p _ hpd zac,rfl,fun i hi=>absurd hi (by simp),fun b o n1 n2 e=>k2 b o n1 (g0 b o (k1 b o n1 e)),s2⟩
 ·rintro i σ H3 hi ⟨ps,x4,rfl,h3,rfl,hT,k3,s3⟩
  have ek : (1 : Int) + ((ps.length : Nat) : Int) = ((ps.length + 1 : Nat) : Int):=by omega
  rw [ek]
  refine ⟨_,rfl,.inl ⟨rfl,_,SqL.of h3⟩,?_⟩
  refine ⟨_,rfl,_,_,rfl,rfl,_,rfl,_,rfl,d,L,_,rfl,⟨by omega,by omega⟩,s3,fun v1 H4 v10 v11 k4 s4=>?_⟩
  refine ⟨_,rfl,_,_,rfl,rfl,_,rfl,d,L,2,rfl,by decide,s4,fun v2 H5 v20 v21 k5 s5=>⟨_,_,rfl,rfl,_,_,rfl,(by show 4≤sizeLine; decide),fun l hl=>?_⟩⟩
  have h4:=k4 p _ hpd h3
  have h5:=k5 p _ hpd h4
  obtain ⟨u,hat,hu⟩ : ∃ u : Nat,atI [V.int (((ps.length + 1 : Nat) : Int) - 1),V.int 0,V.int v1,V.int (if ((ps.length + 1 : Nat) : Int) - 1 - v2 > 0 then ((ps.length + 1 : Nat) : Int) - 1 - v2 else 0)] w1 = some (nV u)∧u≤ps.length:=by
   have z : w1 = 0∨w1 = 1∨w1 = 2∨w1 = 3:=by omega
   rcases z with rfl | rfl | rfl | rfl
   ·refine ⟨ps.length,?_,Nat.le_refl _⟩
    rw [show ((ps.length + 1 : Nat) : Int) - 1 = ((ps.length : Nat) : Int) by omega]
    rfl
   ·exact ⟨0,rfl,Nat.zero_le _⟩
   ·obtain ⟨u,rfl⟩:=zkZ v10
    exact ⟨u,rfl,by omega⟩
   ·refine ⟨(if ((ps.length + 1 : Nat) : Int) - 1 - v2 > 0 then ((ps.length + 1 : Nat) : Int) - 1 - v2 else 0).toNat,?_,?_⟩
    ·show some (V.int _) = some (V.int _)
     rw [Int.toNat_of_nonneg (by split <;> omega)]
    ·split <;> omega
  refine ⟨_,rfl,_,_,_,_,rfl,rfl,SqL.of zac,hat,_,_,_,rfl,rfl,by rw [zag (zab h5 hl)]; exact h5,zar (by rw [zav]; omega),?_⟩
  refine ⟨ps ++ [u],_,rfl,?_,by rw [List.length_append,List.length_singleton],zkb hT hu,fun b o n1 n2 e=>?_,?_⟩
  ·rw [zac]
   unfold zco
   rw [List.map_append]
   rfl
  ·rw [zag n2]
   have e5:=k5 b o n1 (k4 b o n1 (k3 b o n1 n2 e))
   exact (zak hl _) _ _ e5
  ·exact LS.put hs hp0 (fun b o n1 n2 e=>(zak hl _) _ _ (k5 b o n1 (k4 b o n1 (k3 b o n1 n2 e)))) (s5.of_new hl _)
 ·rintro σ H3 ⟨ps,x4,rfl,h3,hl,hT,k3,s3⟩
  refine ⟨_,rfl,p,_,rfl,.inl ⟨SqL.of h3,fun t ht=>?_⟩⟩
  have sn:=zak ht (.tup (zco ps))
  have htp : t≠p:=Ne.symm (zab h3 ht)
  have ht0 : H t = none:=by
   cases e : H t with
   | none=>rfl
   | some o=>
    have htd : t≠d:=by
     obtain ⟨ns,a,l,e,_⟩:=s3.ex
     exact Ne.symm (zab e ht)
    have:=k3 t o htd htp e
    rw [ht] at this
    cases this
  exact q t ps _ ht0 hT (by omega) zac (fun b o n e=>sn _ _ (k3 b o n (zab e hp0) e)) (s3.of_new ht _)
def zej (K : PySem.W.Frag) : Sp:=fun vs H Q _=>∃ (t : Addr) (ps : List Nat) (k : Nat),vs = [.ref t,.int k]∧H t = some (.tup (zco ps))∧ps.length≤900∧
 ∀ (p : Addr) (H' : Hp),H p = none→Same H H'→H' p = some (.lst ((zaF ps k (ps.length + 1)).map nV))→Q (.ref p) H'
theorem zhW (T : Txt K mg) (D_children : DF K mg "children" zdi zbH) : FC P w K mg base 1 "children" zbH (zej K):=by
 refine D_children.ok sc_children (fun vs H Q E h=>?_) (fun f cdv A outer s H vs Q E hr h=>?_)
 ·obtain ⟨t,ps,k,rfl,_⟩:=h
  rfl
 obtain ⟨t,ps,k,rfl,ht,hz,q⟩:=h
 refine ⟨_,(zah (zat (zcl (N:=["other","tree","knot"]) (own:=1) (cap:=[0,1]) rfl (zbC rfl T.m_range (zaa (zap zam rfl T.m_len boot_len (zaa (pv 0) zad)) zad)) ⟨rfl,rfl,rfl,rfl,rfl,rfl⟩ (fun _ _ _ _ _=>(zas (i:=0) (show List.Nodup (["other","tree","knot"] : List Str) by decide +kernel) rfl (Or.inl rfl))) (fun _ _ _ _ _=>(zhP (zaC zfF (zaB (zfp (K:=K)) (pv 1) (pv 0) (fun _ _=>rfl)) (pv 2) (zaP _)))) (fun _ _ _ _ _=>(pv 0))))),?_⟩
 refine ⟨_,rfl,_,_,rfl,.inr (SqT.of ht),_,rfl,by omega,by rw [zav]; omega,fun D hD=>?_⟩
 have el : ((((zco ps).length : Nat) : Int)).toNat = ps.length + 1:=by rw [zav,Int.toNat_natCast]
 rw [el]
 refine zf3 (n:=ps.length + 1) (fun j σ H3=>∃ x0 : Option V,σ = [x0,some (.ref t),some (.int k)]∧H3 D = some (.lst ((zaF ps k j).map nV))∧But D H H3) ?_ ?_ ?_
 ·exact ⟨_,rfl,zac,fun b o n e=>by rw [zag n]; exact e⟩
 ·rintro j m σ H3 hm hj ⟨x0,rfl,h3,k3⟩
  rw [Int.zero_add]
  have h3t:=k3 _ _ (zab ht hD) ht
  have hlen:=zdr ps k j
  refine ⟨_,rfl,_,rfl,_,_,_,_,rfl,rfl,SqT.of h3t,zgO hj,_,rfl,zkx _ _ _,_,rfl,?_⟩
  refine ite2 (fun c=>?_) (fun c=>?_)
  ·have c' : par ps j = some k:=zhU.mp (of_decide_eq_true c)
   refine ⟨_,rfl,_,h3,zar (by rw [List.length_map]; omega),m - 1,by omega,by omega,_,rfl,?_,fun b o n e=>by rw [zag n]; exact k3 b o n e⟩
   rw [zac,zfz,if_pos c',List.map_append]
   rfl
  ·have c' : ¬ par ps j = some k:=fun z=>c (decide_eq_true (zhU.mpr z))
   refine ⟨m - 1,by omega,by omega,_,rfl,?_,k3⟩
   rw [h3,zfz,if_neg c',List.append_nil]
 ·rintro σ H3 ⟨x0,rfl,h3,k3⟩
  exact q D H3 hD (fun b o e=>k3 b o (zab e hD) e) h3
def zg1 (K : PySem.W.Frag) : Sp:=fun vs H Q _=>∃ (t : Addr) (ps : List Nat) (k : Nat),vs = [.ref t,.int k]∧H t = some (.tup (zco ps))∧zaA ps∧k < ps.length + 1∧ps.length≤900∧
 ∀ (p : Addr) (H' : Hp),H p = none→Same H H'→H' p = some (.lst ((benL ps k (ps.length + 1)).map nV))→Q (.ref p) H'
theorem zjF (T : Txt K mg) (D_beneath : DF K mg "beneath" zdY zcx) : FC P w K mg base 1 "beneath" zcx (zg1 K):=by
 refine D_beneath.ok sc_beneath (fun vs H Q E h=>?_) (fun f cdv A outer s H vs Q E hr h=>?_)
 ·obtain ⟨t,ps,k,rfl,_⟩:=h
  rfl
 obtain ⟨t,ps,k,rfl,ht,hT,hk,hz,q⟩:=h
 refine ⟨_,(zaf (zaq (i:=2) sc_beneath.nd rfl (Or.inl rfl) (zbQ (zaa (pv 1) zad)))
   (zaf (zbd PassesOwn.never rfl (zc4 rfl T.m_range (zaa (zax zbf (pv 1) zae) (zaa (zap zam rfl T.m_len boot_len (zaa (pv 0) zad)) zad))) (zas (i:=3) sc_beneath.nd rfl (Or.inl rfl)) (zah (zbO (zaC zkM (zaB zaL (pv 0) (pv 3) (fun _ _=>rfl)) (pv 2) (by with_unfolding_all rfl)) (zah (zbu (zd4 F.plainAttrs_list F.slot_list_append F.type_list_append za2 (pv 2) (zaa (pv 3) zad)))) zaN)))
   (zah (zat (pv 2))))),?_⟩
 refine ⟨_,rfl,(by show 1≤sizeLine; decide),fun p hp=>?_⟩
 have k0 : But p H (upd H p (.lst [.int (k : Int)])):=fun b o n e=>by rw [zag n]; exact e
 have ntp : t≠p:=zab ht hp
 refine ⟨_,rfl,_,_,rfl,rfl,_,rfl,_,_,rfl,.inr (SqT.of (k0 _ _ ntp ht)),_,_,rfl,⟨by omega,by omega,by omega,by rw [zav]; omega⟩,?_⟩
 have en : ((((zco ps).length : Nat) : Int) - ((k : Int) + 1)).toNat = ps.length - k:=by rw [zav]; omega
 rw [en]
 refine za9 (n:=ps.length - k) (fun i σ H3=>∃ x3 : Option V,σ = [some (.ref t),some (.int k),some (.ref p),x3]∧H3 p = some (.lst ((benL ps k (k + 1 + i)).map nV))∧But p H H3) ?_ ?_ ?_
 ·refine ⟨_,rfl,?_,k0⟩
  rw [zac,Nat.add_zero,zm4 hT]
  rfl
 ·rintro i σ H3 hi ⟨x3,rfl,h3,k3⟩
  have ek : (k : Int) + 1 + (i : Int) = ((k + 1 + i : Nat) : Int):=by omega
  rw [ek]
  have hj : k + 1 + i < ps.length + 1:=by omega
  have hj1 : 1≤k + 1 + i:=by omega
  have hjk : k + 1 + i≠k:=by omega
  have ei : k + 1 + (i + 1) = k + 1 + i + 1:=by omega
  rw [ei]
  generalize k + 1 + i = j at h3 hj hj1 hjk ⊢
  obtain ⟨u,hu⟩:=zgr hj1 hj
  have h3t:=k3 _ _ ntp ht
  have hat:=zgO hj
  rw [zd5 hu] at hat
  have hlen:=zgM ps k j
  refine ⟨_,rfl,_,rfl,_,_,_,_,rfl,rfl,SqT.of h3t,hat,_,rfl,_,_,rfl,.inl (SqL.of h3),rfl,zlB _,_,rfl,?_⟩
  show if inV (.int (u : Int)) ((benL ps k j).map nV) = true then _ else _
  rw [znx]
  have hB : isB ps k j = isB ps k u:=zbs hT hjk hu
  have hult:=(zaO hT hu).1
  refine ite2 (fun c=>?_) (fun c=>?_)
  ·have c' : isB ps k u = true:=(zbT.mp (of_decide_eq_true c)).2
   refine ⟨_,rfl,.inl ⟨rfl,_,SqL.of h3⟩,_,rfl,_,_,_,rfl,rfl,h3,zar (by rw [List.length_map]; omega),?_⟩
   refine ⟨_,rfl,?_,fun b o n e=>by rw [zag n]; exact k3 b o n e⟩
   rw [zac,zfB,hB,if_pos c',List.map_append]
   rfl
  ·have c' : ¬ isB ps k u = true:=fun z=>c (decide_eq_true (zbT.mpr ⟨hult,z⟩))
   refine ⟨_,rfl,?_,k3⟩
   rw [h3,zfB,hB,if_neg c',List.append_nil]
 ·rintro σ H3 ⟨x3,rfl,h3,k3⟩
  refine ⟨_,rfl,?_⟩
  rw [show k + 1 + (ps.length - k) = ps.length + 1 by omega] at h3
  exact q p H3 hp (fun b o e=>k3 b o (zab e hp) e) h3
def zbM (es : List (Int×Int)) : List (Int×Int):=zcM es (zb7 es)
def zbt (rows : List (List Int)) (k : Nat) : List Int:=rows.getD k []
def ownE (rows : List (List Int)) (k : Nat) : List (Int×Int):=(zbt rows k).map fun x=>(x,(k : Int))
def zjO (ps : List Nat) (rows : List (List Int)) : Nat→Nat→List (Int×Int)
 | 0,_=>[]
 | f + 1,k=>zbX (((zaF ps k (ps.length + 1)).map fun c=>zbM (zjO ps rows f c)).flatten ++ ownE rows k)
theorem zf1 {ps : List Nat} (T : zaA ps) {rows : List (List Int)} : ∀ f g k,k < ps.length + 1→ps.length + 1 - k≤f→ps.length + 1 - k≤g→zjO ps rows f k = zjO ps rows g k
 | 0,_,k,hk,h,_=>by omega
 | _,0,k,hk,_,h=>by omega
 | f + 1,g + 1,k,hk,hf,hg=>by
  unfold zjO
  congr 3
  refine List.map_congr_left fun c hc=>?_
  have h:=zay.mp hc
  have:=zaO T h.2
  show zbM _ = zbM _
  rw [zf1 T f g c h.1 (by omega) (by omega)]
def zaj (ps : List Nat) (rows : List (List Int)) (k : Nat) : List (Int×Int):=zjO ps rows (ps.length + 1 - k) k
def zdw (ps : List Nat) (rows : List (List Int)) (k : Nat) : List (List (Int×Int)):=((zaF ps k (ps.length + 1)).map fun c=>zbM (zaj ps rows c)) ++ [ownE rows k]
theorem zcj {ps : List Nat} (T : zaA ps) {rows : List (List Int)} {k : Nat} (hk : k < ps.length + 1) : zaj ps rows k = zbX (zdw ps rows k).flatten:=by
 unfold zaj zdw
 obtain ⟨f,hf⟩ : ∃ f,ps.length + 1 - k = f + 1:=⟨ps.length - k,by omega⟩
 rw [hf,zjO,List.flatten_append,List.flatten_singleton]
 congr 3
 refine List.map_congr_left fun c hc=>?_
 have h:=zay.mp hc
 have:=zaO T h.2
 show zbM _ = zbM _
 rw [zf1 T f (ps.length + 1 - c) c h.1 (by omega) (by omega)]
 rfl
structure za4 (rows : List (List Int)) : Prop where
 up : ∀ row∈rows,row.Pairwise (· < ·)
 key : ∀ row∈rows,∀ x∈row,-(10 ^ 60) < x∧x < 10 ^ 60
theorem za4.at_up {rows : List (List Int)} (R : za4 rows) (k : Nat) : (zbt rows k).Pairwise (· < ·):=by
 unfold zbt
 rw [List.getD_eq_getElem?_getD]
 cases e : rows[k]? with
 | none=>exact .nil
 | some row=>exact R.up row (List.mem_of_getElem? e)
theorem za4.at_key {rows : List (List Int)} (R : za4 rows) (k : Nat) : ∀ x∈zbt rows k,-(10 ^ 60) < x∧x < 10 ^ 60:=by
 unfold zbt
 rw [List.getD_eq_getElem?_getD]
 cases e : rows[k]? with
 | none=>exact fun x hx=>nomatch hx
 | some row=>exact R.key row (List.mem_of_getElem? e)
theorem zhm {α : Type} : ∀ (es : List α) (ms : List Bool),(zcM es ms).Sublist es
 | [],_=>by
  unfold zcM
  exact List.Sublist.refl _
 | e :: es,[]=>by
  unfold zcM
  exact List.nil_sublist _
 | e :: es,m :: ms=>by
  have ih:=zhm es ms
  unfold zcM at ih ⊢
  cases m with
  | false=>exact List.Sublist.cons e ih
  | true=>exact List.Sublist.cons₂ e ih
theorem zbh (es : List (Int×Int)) : (zbM es).Sublist es:=zhm _ _
def Of (ps : List Nat) (rows : List (List Int)) (k : Nat) (e : Int×Int) : Prop:=∃ j,j < ps.length + 1∧isB ps k j = true∧e.2 = (j : Int)∧e.1∈zbt rows j
theorem ziZ {ps : List Nat} {rows : List (List Int)} {k : Nat} (hk : k < ps.length + 1) {e : Int×Int} (h : e∈ownE rows k) : Of ps rows k e∧e.2 = (k : Int):=by
 obtain ⟨x,hx,rfl⟩:=List.mem_map.mp h
 exact ⟨⟨k,hk,zci,rfl,hx⟩,rfl⟩
theorem zkL {rows : List (List Int)} (R : za4 rows) (k : Nat) : (ownE rows k).Nodup:=by
 unfold ownE
 rw [List.nodup_iff_pairwise_ne,List.pairwise_map]
 exact List.Pairwise.imp (fun {a b} (h : a < b) z=>by
  have:=congrArg Prod.fst z
  have : a = b:=this
  omega) (R.at_up k)
theorem ze1 {ps : List Nat} (T : zaA ps) {rows : List (List Int)} (R : za4 rows) : ∀ (m k : Nat),ps.length + 1 - k≤m→k < ps.length + 1→(∀ e∈zaj ps rows k,Of ps rows k e)∧(zdw ps rows k).flatten.Nodup
 | 0,k,hm,hk=>by omega
 | m + 1,k,hm,hk=>by
  have ih : ∀ c,par ps c = some k→(∀ e∈zaj ps rows c,Of ps rows c e)∧(zaj ps rows c).Nodup:=fun c hc=>by
   have:=zaO T hc
   have q:=ze1 T R m c (by omega) this.2
   refine ⟨q.1,?_⟩
   rw [zcj T this.2]
   exact (zbU _).nodup_iff.mpr q.2
  have up : ∀ {c : Nat} {e : Int×Int},par ps c = some k→Of ps rows c e→Of ps rows k e:=fun {c e} hc h=>by
   obtain ⟨j,h1,h2,h3,h4⟩:=h
   exact ⟨j,h1,(zea T j j (Nat.le_refl _) h1).mpr (.inr ⟨c,hc,h2⟩),h3,h4⟩
  refine ⟨fun e he=>?_,?_⟩
  ·rw [zcj T hk,zfb] at he
   obtain ⟨l,hl,he⟩:=List.mem_flatten.mp he
   rcases List.mem_append.mp hl with q | q
   ·obtain ⟨c,hc,rfl⟩:=List.mem_map.mp q
    have hp:=(zay.mp hc).2
    exact up hp ((ih c hp).1 e ((zbh _).mem he))
   ·rw [List.mem_singleton.mp q] at he
    exact (ziZ hk he).1
  ·show List.Pairwise _ _
   unfold zdw
   rw [List.pairwise_flatten]
   refine ⟨fun l hl=>?_,?_⟩
   ·rcases List.mem_append.mp hl with q | q
    ·obtain ⟨c,hc,rfl⟩:=List.mem_map.mp q
     exact (ih c (zay.mp hc).2).2.sublist (zbh _)
    ·rw [List.mem_singleton.mp q]
     exact zkL R k
   ·rw [List.pairwise_append]
    refine ⟨?_,List.pairwise_singleton _ _,?_⟩
    ·rw [List.pairwise_map]
     refine List.Pairwise.imp_of_mem (fun {c d} hc hd hcd=>?_) (zhx ps k _)
     intro x hx y hy z
     subst z
     have pc:=(zay.mp hc).2
     have pd:=(zay.mp hd).2
     obtain ⟨j,_,h2,h3,_⟩:=(ih c pc).1 x ((zbh _).mem hx)
     obtain ⟨i,_,g2,g3,_⟩:=(ih d pd).1 x ((zbh _).mem hy)
     have : j = i:=by omega
     subst this
     exact zeb T pc pd (Nat.ne_of_lt hcd) j j (Nat.le_refl _) h2 g2
    ·intro l hl l' hl' x hx y hy z
     subst z
     obtain ⟨c,hc,rfl⟩:=List.mem_map.mp hl
     rw [List.mem_singleton.mp hl'] at hy
     have pc:=(zay.mp hc).2
     obtain ⟨j,_,h2,h3,_⟩:=(ih c pc).1 x ((zbh _).mem hx)
     have h4:=(ziZ hk hy).2
     have : j = k:=by omega
     subst this
     rw [zda T (zaO T pc).1] at h2
     cases h2
theorem ze2 {ps : List Nat} (T : zaA ps) {rows : List (List Int)} (R : za4 rows) {k : Nat} (hk : k < ps.length + 1) : ∀ e∈zaj ps rows k,Of ps rows k e:=(ze1 T R _ k (Nat.le_refl _) hk).1
theorem zfr {ps : List Nat} (T : zaA ps) {rows : List (List Int)} (R : za4 rows) {k : Nat} (hk : k < ps.length + 1) : (zaj ps rows k).Nodup:=by
 rw [zcj T hk]
 exact (zbU _).nodup_iff.mpr (ze1 T R _ k (Nat.le_refl _) hk).2
theorem za3 {ps : List Nat} (T : zaA ps) {rows : List (List Int)} (R : za4 rows) {k : Nat} (hk : k < ps.length + 1) : Rise (zaj ps rows k):=by
 rw [zcj T hk]
 exact zfR (ze1 T R _ k (Nat.le_refl _) hk).2
theorem zfs {ps : List Nat} (T : zaA ps) {rows : List (List Int)} (R : za4 rows) (hz : ps.length≤40) {k : Nat} (hk : k < ps.length + 1) : ∀ e∈zaj ps rows k,zdu 64 e:=fun e he=>by
 obtain ⟨j,h1,h2,h3,h4⟩:=ze2 T R hk e he
 have:=R.at_key j _ h4
 exact ⟨this.1,this.2,by omega,by omega⟩
def wtR (ps : List Nat) (rows : List (List Int)) (k : Nat) : Nat:=((benL ps k (ps.length + 1)).map fun j=>(zbt rows j).length).sum
def wtF (ps : List Nat) (rows : List (List Int)) (k : Nat) : Nat:=((benL ps k (ps.length + 1)).map fun j=>(zaj ps rows j).length).sum
theorem zmb {l m : List Nat} (h : l.Perm m) : l.sum = m.sum:=by
 induction h with
 | nil=>rfl
 | cons x _ ih=>rw [List.sum_cons,List.sum_cons,ih]
 | swap x y l=>rw [List.sum_cons,List.sum_cons,List.sum_cons,List.sum_cons]; omega
 | trans _ _ h1 h2=>rw [h1,h2]
theorem ziz (f : Nat→Nat) : ∀ (ls : List (List Nat)),(ls.flatten.map f).sum = (ls.map fun l=>(l.map f).sum).sum
 | []=>rfl
 | l :: ls=>by
  rw [List.flatten_cons,List.map_append,List.sum_append,ziz f ls,List.map_cons,List.sum_cons]
theorem zj1 {ps : List Nat} (T : zaA ps) (f : Nat→Nat) {k : Nat} (hk : k < ps.length + 1) : ((benL ps k (ps.length + 1)).map f).sum = f k + ((zaF ps k (ps.length + 1)).map fun c=>((benL ps c (ps.length + 1)).map f).sum).sum:=by
 have h:=zmb ((zjy T hk).map f)
 rw [List.map_cons,List.sum_cons,ziz,List.map_map] at h
 exact h.symm
theorem znb {f g : Nat→Nat} : ∀ {l : List Nat},(∀ x∈l,f x≤g x)→(l.map f).sum≤(l.map g).sum
 | [],_=>Nat.le_refl _
 | x :: l,h=>by
  rw [List.map_cons,List.sum_cons,List.map_cons,List.sum_cons]
  have h1:=h x List.mem_cons_self
  have h2:=znb (f:=f) (g:=g) (l:=l) fun y hy=>h y (List.mem_cons_of_mem _ hy)
  omega
theorem zi3 {α : Type} : ∀ (ls : List (List α)),ls.flatten.length = (ls.map List.length).sum
 | []=>rfl
 | l :: ls=>by
  rw [List.flatten_cons,List.length_append,zi3 ls,List.map_cons,List.sum_cons]
theorem zly {ps : List Nat} (T : zaA ps) {rows : List (List Int)} {k : Nat} (hk : k < ps.length + 1) : (zaj ps rows k).length = (zbt rows k).length + ((zaF ps k (ps.length + 1)).map fun c=>(zbM (zaj ps rows c)).length).sum:=by
 rw [zcj T hk,zcT]
 unfold zdw
 rw [List.flatten_append,List.length_append,List.flatten_singleton,zi3,List.map_map]
 unfold ownE
 rw [List.length_map,Nat.add_comm]
 rfl
theorem zf0 {ps : List Nat} (T : zaA ps) {rows : List (List Int)} : ∀ (m k : Nat),ps.length + 1 - k≤m→k < ps.length + 1→(zaj ps rows k).length≤wtR ps rows k
 | 0,k,hm,hk=>by omega
 | m + 1,k,hm,hk=>by
  unfold wtR
  rw [zly T hk,zj1 T _ hk]
  refine Nat.add_le_add_left (znb fun c hc=>?_) _
  have h:=zay.mp hc
  have:=zaO T h.2
  exact Nat.le_trans (zbh _).length_le (zf0 T m c (by omega) h.1)
theorem zfP (f : Nat→Nat) (P : Nat→Bool) : ∀ (l : List Nat),((l.filter P).map f).sum≤(l.map f).sum
 | []=>Nat.le_refl _
 | x :: l=>by
  have ih:=zfP f P l
  rw [List.map_cons,List.sum_cons]
  by_cases h : P x = true
  ·rw [List.filter_cons_of_pos h,List.map_cons,List.sum_cons]
   omega
  ·rw [List.filter_cons_of_neg h]
   omega
def zfG (rows : List (List Int)) : Nat:=(rows.map List.length).sum
theorem zkh (rows : List (List Int)) : ((List.range rows.length).map fun j=>(zbt rows j).length).sum = zfG rows:=by
 unfold zfG
 congr 1
 apply List.ext_getElem?
 intro i
 rw [List.getElem?_map,List.getElem?_map]
 by_cases h : i < rows.length
 ·rw [List.getElem?_range h,List.getElem?_eq_getElem h]
  show some (zbt rows i).length = some rows[i].length
  unfold zbt
  rw [List.getD_eq_getElem?_getD,List.getElem?_eq_getElem h]
  rfl
 ·rw [List.getElem?_eq_none (by rw [List.length_range]; omega),List.getElem?_eq_none (by omega)]
  rfl
theorem zm8 {ps : List Nat} {rows : List (List Int)} (hl : rows.length = ps.length + 1) (k : Nat) : wtR ps rows k≤zfG rows:=by
 unfold wtR benL
 refine Nat.le_trans (zfP _ _ _) ?_
 rw [← hl,zkh]
 exact Nat.le_refl _
theorem zem {ps : List Nat} (T : zaA ps) {rows : List (List Int)} (hl : rows.length = ps.length + 1) {k : Nat} (hk : k < ps.length + 1) : (zaj ps rows k).length≤zfG rows:=Nat.le_trans (zf0 T _ k (Nat.le_refl _) hk) (zm8 hl k)
def zaQ (H : Hp) (as : List Addr) (rows : List (List Int)) : Prop:=Paired (fun a row=>H a = some (.tup (row.map V.int))) as rows
theorem zaQ.ext {H H' : Hp} (e : ∀ b o,H b = some o→H' b = some o) : ∀ {as : List Addr} {rows : List (List Int)},zaQ H as rows→zaQ H' as rows
 | _,_,.nil=>.nil
 | _,_,.cons h t=>.cons (e _ _ h) (zaQ.ext e t)
theorem zaQ.keep {d p : Addr} {H H' : Hp} (hd : ∀ a row,H a = some (.tup row)→a≠d) (e : ∀ b o,b≠d→H b = some o→H' b = some o) : ∀ {as : List Addr} {rows : List (List Int)},zaQ H as rows→zaQ H' as rows
 | _,_,.nil=>.nil
 | _,_,.cons h t=>.cons (e _ _ (hd _ _ h) h) (zaQ.keep (p:=p) hd e t)
theorem zaQ.length {H : Hp} {as : List Addr} {rows : List (List Int)} (h : zaQ H as rows) : as.length = rows.length:=Paired.length h
theorem zaQ.get {H : Hp} : ∀ {as : List Addr} {rows : List (List Int)} {k : Nat},zaQ H as rows→k < rows.length→∃ a,as[k]? = some a∧H a = some (.tup ((zbt rows k).map V.int))
 | _,_,_,.nil,hk=>by simp at hk
 | a :: as,row :: rows,0,.cons h t,_=>⟨a,rfl,h⟩
 | a :: as,row :: rows,k + 1,.cons h t,hk=>by
  obtain ⟨b,h1,h2⟩:=zaQ.get (k:=k) t (by simpa using hk)
  refine ⟨b,by rw [List.getElem?_cons_succ]; exact h1,?_⟩
  have : zbt (row :: rows) (k + 1) = zbt rows k:=by
   unfold zbt
   rw [List.getD_eq_getElem?_getD,List.getD_eq_getElem?_getD,List.getElem?_cons_succ]
  rw [this]
  exact h2
theorem zaQ.snoc {H : Hp} {a : Addr} {row : List Int} : ∀ {as : List Addr} {rows : List (List Int)},zaQ H as rows→H a = some (.tup (row.map V.int))→zaQ H (as ++ [a]) (rows ++ [row])
 | _,_,.nil,h=>.cons h .nil
 | _,_,.cons h t,h2=>.cons h (zaQ.snoc t h2)
structure zbi (H : Hp) (st : Addr) (ps : List Nat) (rows : List (List Int)) (t rs : Addr) (as : List Addr) : Prop where
 st : H st = some (.tup [.ref t,.ref rs])
 tr : H t = some (.tup (zco ps))
 rs : H rs = some (.tup (as.map V.ref))
 at_ : zaQ H as rows
 len : rows.length = ps.length + 1
 T : zaA ps
 R : za4 rows
 few : ps.length≤40
 keys : zfG rows≤63
theorem zbi.same {H H' : Hp} {st t rs : Addr} {ps : List Nat} {rows : List (List Int)} {as : List Addr} (S : zbi H st ps rows t rs as) (e : Same H H') : zbi H' st ps rows t rs as:=
 ⟨e _ _ S.st,e _ _ S.tr,e _ _ S.rs,S.at_.ext e,S.len,S.T,S.R,S.few,S.keys⟩
theorem zhF {as : List Addr} {k : Nat} {a : Addr} (h : as[k]? = some a) : atI (as.map V.ref) (k : Int) = some (.ref a):=zaJ (by rw [List.getElem?_map,h]; rfl)
theorem zhc {α : Type} {l : List α} (h : l.Nodup) : l.reverse.Nodup:=(List.reverse_perm l).nodup_iff.mpr h
def zfE (K : PySem.W.Frag) (H : Hp) (ps : List Nat) (rows : List (List Int)) (j : Nat) (q : Addr) : Prop:=∃ ws,H q = some (.lst ws)∧zal K H (zaj ps rows j) ws
def zau (K : PySem.W.Frag) (H : Hp) (ps : List Nat) (rows : List (List Int)) : List Nat→List Addr→Prop:=Paired (zfE K H ps rows)
theorem zfE.same {K : PySem.W.Frag} {H H' : Hp} {ps : List Nat} {rows : List (List Int)} {j : Nat} {q : Addr} (h : zfE K H ps rows j q) (e : Same H H') : zfE K H' ps rows j q:=by
 obtain ⟨ws,h1,h2⟩:=h
 exact ⟨ws,e _ _ h1,h2.mono e.ext⟩
theorem zau.same {K : PySem.W.Frag} {H H' : Hp} {ps : List Nat} {rows : List (List Int)} (e : Same H H') : ∀ {js : List Nat} {qs : List Addr},zau K H ps rows js qs→zau K H' ps rows js qs
 | _,_,.nil=>.nil
 | _,_,.cons h t=>.cons (zfE.same h e) (zau.same e t)
theorem zau.ext {K : PySem.W.Frag} {H H' : Hp} {ps : List Nat} {rows : List (List Int)} (e : Ext H H') : ∀ {js : List Nat} {qs : List Addr},zau K H ps rows js qs→zau K H' ps rows js qs
 | _,_,.nil=>.nil
 | _,_,.cons h t=>by
  obtain ⟨ws,a1,a2⟩:=h
  exact .cons ⟨ws,e _ _ a1 (fun _ z=>nomatch z),a2.mono e⟩ (zau.ext e t)
theorem zau.length {K : PySem.W.Frag} {H : Hp} {ps : List Nat} {rows : List (List Int)} {js : List Nat} {qs : List Addr} (h : zau K H ps rows js qs) : js.length = qs.length:=Paired.length h
theorem zau.snoc {K : PySem.W.Frag} {H : Hp} {ps : List Nat} {rows : List (List Int)} {j : Nat} {q : Addr} : ∀ {js : List Nat} {qs : List Addr},zau K H ps rows js qs→zfE K H ps rows j q→zau K H ps rows (js ++ [j]) (qs ++ [q])
 | _,_,.nil,h=>.cons h .nil
 | _,_,.cons h t,h2=>.cons h (zau.snoc t h2)
theorem zau.get {K : PySem.W.Frag} {H : Hp} {ps : List Nat} {rows : List (List Int)} : ∀ {js : List Nat} {qs : List Addr} {i j : Nat},zau K H ps rows js qs→js[i]? = some j→∃ q,qs[i]? = some q∧zfE K H ps rows j q
 | _,_,i,j,.nil,h=>by simp at h
 | _ :: _,q :: _,0,j,.cons h t,e=>by
  have:=Option.some.inj (show some _ = some j from e)
  subst this
  exact ⟨q,rfl,h⟩
 | _ :: _,_ :: _,i + 1,j,.cons h t,e=>by
  obtain ⟨q,h1,h2⟩:=zau.get (i:=i) t (by simpa using e)
  exact ⟨q,by simpa using h1,h2⟩
theorem zau.rev {K : PySem.W.Frag} {H : Hp} {ps : List Nat} {rows : List (List Int)} : ∀ {js : List Nat} {qs : List Addr},zau K H ps rows js qs→zau K H ps rows js.reverse qs.reverse
 | _,_,.nil=>.nil
 | j :: js,q :: qs,.cons h t=>by
  rw [List.reverse_cons,List.reverse_cons]
  exact zau.snoc (zau.rev t) h
theorem zau.alloc {K : PySem.W.Frag} {H : Hp} {ps : List Nat} {rows : List (List Int)} : ∀ {js : List Nat} {qs : List Addr},zau K H ps rows js qs→∀ q∈qs,∃ ws,H q = some (.lst ws)
 | _,_,.nil=>fun q hq=>nomatch hq
 | _ :: _,_ :: _,.cons h t=>fun q hq=>by
  rcases List.mem_cons.mp hq with e | e
  ·obtain ⟨ws,h1,_⟩:=h
   exact ⟨ws,e ▸ h1⟩
  ·exact zau.alloc t q e
abbrev kN (j : Nat) : Key:=Sum.inl (j : Int)
def zc9 : List Nat→List Addr→List (Key×V)
 | j :: js,q :: qs=>(kN j,.ref q) :: zc9 js qs
 | _,_=>[]
theorem zi7 {j : Nat} : ∀ {js : List Nat} {qs : List Addr},j∉js→valV (zc9 js qs) (kN j) = none
 | [],_,_=>rfl
 | _ :: _,[],_=>rfl
 | i :: js,q :: qs,h=>by
  have h1 : ¬ kN i = kN j:=fun z=>h (by
   have:=Int.ofNat.inj (Sum.inl.inj z)
   rw [this]
   exact List.mem_cons_self)
  show valV ((kN i,V.ref q) :: zc9 js qs) (kN j) = none
  rw [zaH h1]
  exact zi7 fun z=>h (List.mem_cons_of_mem _ z)
theorem zh4 {j : Nat} {q : Addr} : ∀ {js : List Nat} {qs : List Addr} {i : Nat},js.Nodup→js[i]? = some j→qs[i]? = some q→valV (zc9 js qs) (kN j) = some (.ref q)
 | [],_,_,_,h,_=>by simp at h
 | _ :: _,[],_,_,_,h=>by simp at h
 | a :: js,b :: qs,0,_,h1,h2=>by
  have:=Option.some.inj (show some a = some j from h1)
  subst this
  have:=Option.some.inj (show some b = some q from h2)
  subst this
  exact zaZ (p:=(kN a,V.ref b)) rfl
 | a :: js,b :: qs,i + 1,hn,h1,h2=>by
  have g1 : js[i]? = some j:=by simpa using h1
  have hne : ¬ kN a = kN j:=fun z=>by
   have e:=Int.ofNat.inj (Sum.inl.inj z)
   exact (List.nodup_cons.mp hn).1 (e ▸ List.mem_of_getElem? g1)
  show valV ((kN a,V.ref b) :: zc9 js qs) (kN j) = _
  rw [zaH hne]
  exact zh4 (List.nodup_cons.mp hn).2 g1 (by simpa using h2)
theorem zi6 {j : Nat} {q : Addr} : ∀ {js : List Nat} {qs : List Addr},js.length = qs.length→zc9 (js ++ [j]) (qs ++ [q]) = zc9 js qs ++ [(kN j,.ref q)]
 | [],[],_=>rfl
 | [],_ :: _,h=>by cases h
 | _ :: _,[],h=>by cases h
 | a :: js,b :: qs,h=>by
  show (kN a,V.ref b) :: zc9 (js ++ [j]) (qs ++ [q]) = (kN a,V.ref b) :: (zc9 js qs ++ [(kN j,V.ref q)])
  rw [zi6 (Nat.succ.inj h)]
theorem zoj {j : Nat} {q : Addr} {js : List Nat} {qs : List Addr} (hl : js.length = qs.length) (h : j∉js) : putK (zc9 js qs) (kN j) (.ref q) = zc9 (js ++ [j]) (qs ++ [q]):=by
 rw [zcI _ (zi7 h),zi6 hl]
theorem zle : ∀ {js : List Nat} {qs : List Addr},js.length = qs.length→(zc9 js qs).length = js.length
 | [],[],_=>rfl
 | [],_ :: _,h=>by cases h
 | _ :: _,[],h=>by cases h
 | a :: js,b :: qs,h=>by
  show (zc9 js qs).length + 1 = js.length + 1
  rw [zle (Nat.succ.inj h)]
theorem zm6 {l : List Nat} (h : l.Pairwise (· > ·)) {i j c : Nat} (hj : l[i]? = some j) (hc : c∈l) (hcj : j < c) : c∈l.take i:=by
 obtain ⟨u,hu,rfl⟩:=List.getElem_of_mem hc
 obtain ⟨hi,rfl⟩:=List.getElem?_eq_some_iff.mp hj
 have : u < i:=by
  refine Nat.lt_of_not_le fun z=>?_
  by_cases e : i = u
  ·subst e
   omega
  ·have:=List.pairwise_iff_getElem.mp h i u hi hu (by omega)
   omega
 rw [List.mem_iff_getElem?]
 exact ⟨u,by rw [List.getElem?_take,if_pos this,List.getElem?_eq_getElem hu]⟩
theorem zmM {ps : List Nat} (T : zaA ps) {k j c : Nat} (h : isB ps k j = true) (hc : par ps c = some j) : isB ps k c = true:=by
 by_cases e : c = k
 ·rw [e]
  exact zci
 ·rw [zbs T e hc]
  exact h
def spOwn (K : PySem.W.Frag) : Sp:=fun vs H Q _=>∃ (st : Addr) (ps : List Nat) (rows : List (List Int)) (t rs : Addr) (as : List Addr) (j : Nat),vs = [.ref st,.int j]∧zbi H st ps rows t rs as∧j < ps.length + 1∧
 ∀ (D : Addr) (us : List V) (H' : Hp),H D = none→Same H H'→H' D = some (.lst us)→zal K H' (ownE rows j) us→Q (.ref D) H'
theorem ok_own (T : Txt K mg) (D_own_entries : DF K mg "own_entries" zbS zbo) : FC P w K mg base 1 "own_entries" zbo (spOwn K):=by
 refine D_own_entries.ok sc_own_entries (fun vs H Q E h=>?_) (fun f cdv A outer s H vs Q E hr h=>?_)
 ·obtain ⟨st,ps,rows,t,rs,as,k,rfl,_⟩:=h
  rfl
 obtain ⟨st,ps,rows,t,rs,as,j,rfl,S4,hjn,q⟩:=h
 refine ⟨_,(zah (zat (zcl (N:=["key","knot"]) (own:=1) (cap:=[1]) rfl (ziS (zaB zaL (zaB zaL (pv 0) zae (fun _ _=>rfl)) (pv 1) (fun _ _=>rfl))) ⟨rfl,rfl,rfl,rfl,rfl,rfl⟩ (fun _ _ _ _ _=>(zas (i:=0) (show List.Nodup (["key","knot"] : List Str) by decide +kernel) rfl (Or.inl rfl))) (fun _ _ _ _ _=>zbY) (fun _ _ _ _ _=>(zb2 (zaa (pv 0) (zaa (pv 1) zad))))))),?_⟩
 obtain ⟨a,ha1,ha4⟩:=S4.at_.get (k:=j) (by rw [S4.len]; exact hjn)
 have hkeys:=S4.keys
 refine ⟨_,rfl,_,_,_,_,rfl,rfl,SqT.of S4.st,rfl,_,rfl,_,_,_,_,rfl,rfl,SqT.of S4.rs,zhF ha1,a,rfl,⟨_,SqT.of ha4⟩,fun D3 hD3=>?_⟩
 refine zjh (xs:=(zbt rows j).map V.int) (fun m σ H5=>∃ (us : List V) (x0 : Option V),σ = [x0,some (.int j)]∧H5 D3 = some (.lst us)∧zal K H5 ((ownE rows j).take m) us∧But D3 H H5) ?_ ?_ ?_ ?_
 ·exact ⟨[],_,rfl,zac,.nil,fun b o n e=>by rw [zag n]; exact e⟩
 ·rintro m σ H5 _ ⟨us,x0,rfl,_,_,k5⟩
  exact SqT.of (k5 _ _ (zab ha4 hD3) ha4)
 ·rintro m r x σ H5 hx hm ⟨us,x0,rfl,h5,hw5,k5⟩
  rw [List.getElem?_map] at hx
  obtain ⟨y,hy,rfl⟩:=Option.map_eq_some_iff.mp hx
  have hlow:=(List.getElem?_eq_some_iff.mp hy).1
  have htk3 : (ownE rows j).take (m + 1) = (ownE rows j).take m ++ [(y,(j : Int))]:=by
   unfold ownE
   rw [← List.map_take,← List.map_take,List.take_succ_eq_append_getElem hlow,List.map_append]
   rw [(List.getElem?_eq_some_iff.mp hy).2]
   rfl
  have hul:=hw5.length
  rw [List.length_take] at hul
  rw [List.length_map] at hm
  have hrl : (zbt rows j).length≤zfG rows:=by
   have:=zm8 S4.len (k:=j) (ps:=ps)
   have e2 : wtR ps rows j = (zbt rows j).length + _:=zj1 S4.T _ hjn
   omega
  refine zdA ?_
  refine ⟨_,rfl,_,rfl,(by show 2≤sizeLine; decide),fun u hu=>?_⟩
  have su:=zak hu (.tup [.int y,.int (j : Int)])
  have h6:=su _ _ h5
  have hut : upd H5 u (.tup [.int y,.int (j : Int)]) u = some (.tup [.int y,.int (j : Int)]):=zac
  have k6:=k5.new' hu (.tup [.int y,.int (j : Int)])
  have hw6:=hw5.mono su.ext
  generalize upd H5 u (.tup [.int y,.int (j : Int)]) = H6 at su h6 hut k6 hw6 ⊢
  refine ⟨_,h6,zar (by omega),r - 1,by omega,by rw [List.length_map]; omega,us ++ [.ref u],_,rfl,zac,?_,fun b o n e=>by rw [zag n]; exact k6 b o n e⟩
  rw [htk3]
  exact (zbE h6 hw6).append (zbE h6 (.cons ⟨u,.int y,.int (j : Int),rfl,hut,rfl,rfl⟩ .nil))
 ·rintro σ H5 ⟨us,x0,rfl,h5,hw5,k5⟩
  rw [List.length_map,List.take_of_length_le (by unfold ownE; rw [List.length_map]; exact Nat.le_refl _)] at hw5
  exact q D3 us H5 hD3 (fun x o e=>k5 x o (zab e hD3) e) h5 hw5
def spFRB (K : PySem.W.Frag) : Sp:=fun vs H Q _=>∃ (st : Addr) (ps : List Nat) (rows : List (List Int)) (t rs : Addr) (as : List Addr) (k : Nat),vs = [.ref st,.int k]∧zbi H st ps rows t rs as∧k < ps.length + 1∧
 ∀ (D : Addr) (qs : List Addr) (H' : Hp),H D = none→Same H H'→H' D = some (.dK (zc9 (benL ps k (ps.length + 1)).reverse qs))→qs.Nodup→(∀ q∈qs,H q = none)→zau K H' ps rows (benL ps k (ps.length + 1)).reverse qs→Q (.ref D) H'
theorem ok_frb (T : Txt K mg) (D_full_rows_beneath : DF K mg "full_rows_beneath" za6 zaI) (F_beneath : FC P w K mg base 1 "beneath" zcx (zg1 K)) (F_children : FC P w K mg base 1 "children" zbH (zej K)) (F_handed : FC P w K mg base 6 "handed" zc3 (ziI K)) (F_own_entries : FC P w K mg base 1 "own_entries" zbo (spOwn K)) (F_joined_up : FC P w K mg base 1 "joined_up" zbK (znh K)) : FC P w K mg base 7 "full_rows_beneath" zaI (spFRB K):=by
 refine D_full_rows_beneath.ok sc_full_rows_beneath (fun vs H Q E h=>?_) (fun f cdv A outer s H vs Q E hr h=>?_)
 ·obtain ⟨st,ps,rows,t,rs,as,k,rfl,_⟩:=h
  rfl
 obtain ⟨st,ps,rows,t,rs,as,k,rfl,S,hk,q⟩:=h
 refine ⟨_,(zaf (zaq (i:=2) sc_full_rows_beneath.nd rfl (Or.inl rfl) (zaB zaL (pv 0) zae (fun _ _=>rfl)))
   (zaf (zaq (i:=3) sc_full_rows_beneath.nd rfl (Or.inr rfl) ziU)
   (zaf (zbd PassesOwn.never rfl (zhR rfl T.m_reversed (zaa (zaE F_beneath hr (zaa (pv 2) (zaa (pv 1) zad))) zad)) (zas (i:=4) sc_full_rows_beneath.nd rfl (Or.inl rfl)) (zaf (zgo (i:=5) (N:=["child","told"]) (own:=1) (cap:=[3]) sc_full_rows_beneath.nd rfl rfl rfl (zbD (zaE F_children hr (zaa (pv 2) (zaa (pv 4) zad)))) ⟨rfl,rfl,rfl,rfl,rfl,rfl⟩ (fun _ _ _ _ _=>(zas (i:=0) (show List.Nodup (["child","told"] : List Str) by decide +kernel) rfl (Or.inl rfl))) (fun _ _ _ _ _=>zbY) (fun _ _ _ _ _=>(zaE F_handed hr (zaa (zb3 (zcB hr) (pv 1) (pv 0) (fun _ _=>rfl)) zad))))
   (zaf (zbu (zd4 F.plainAttrs_list F.slot_list_append F.type_list_append za2 (pv 5) (zaa (zaE F_own_entries hr (zaa (pv 0) (zaa (pv 4) zad))) zad)))
   (zah (zdF (zcB hr) (pv 3) (pv 4) (zaE F_joined_up hr (zaa (pv 5) zad)) rfl)))))
   (zah (zat (pv 3)))))),?_⟩
 refine ⟨_,rfl,_,_,_,_,rfl,rfl,SqT.of S.st,rfl,fun D hD=>?_⟩
 have s0:=zak hD (.dK [])
 have hD0 : upd H D (.dK []) D = some (.dK []):=zac
 generalize upd H D (.dK []) = H0 at s0 hD0 ⊢
 refine ⟨_,rfl,_,rfl,t,ps,k,rfl,s0 _ _ S.tr,S.T,hk,by have:=S.few; omega,fun b H1 hb s1 h1=>?_⟩
 refine ⟨b,_,rfl,SqL.of h1,?_⟩
 have hup:=zim ps k (ps.length + 1)
 have hmem:=fun j=>zbT (ps:=ps) (k:=k) (n:=ps.length + 1) (j:=j)
 have hbl:=zgM ps k (ps.length + 1)
 generalize benL ps k (ps.length + 1) = bs at h1 q hup hmem hbl ⊢
 have hdn : bs.reverse.Pairwise (· > ·):=by
  rw [List.pairwise_reverse]
  exact hup
 have hnd : bs.reverse.Nodup:=List.Pairwise.imp (fun {a b} (q : a > b)=>Nat.ne_of_gt q) hdn
 refine zou (xs:=bs.map nV) (fun i σ H2=>∃ (qs : List Addr) (x5 x6 : Option V),σ = [some (.ref st),some (.int k),some (.ref t),some (.ref D),x5,x6]∧H2 D = some (.dK (zc9 (bs.reverse.take i) qs))∧qs.Nodup∧(∀ q∈qs,H q = none)∧zau K H2 ps rows (bs.reverse.take i) qs∧H2 b = some (.lst (bs.map nV))∧But D H H2) ?_ ?_ ?_ ?_
 ·exact ⟨[],_,_,rfl,s1 _ _ hD0,List.nodup_nil,(fun q hq=>nomatch hq),.nil,h1,fun x o _ e=>s1 _ _ (s0 _ _ e)⟩
 ·rintro i σ H2 _ ⟨qs,x5,x6,rfl,_,_,_,_,h2b,_⟩
  exact SqL.of h2b
 ·rintro i x σ H2 hx ⟨qs,x5,x6,rfl,h2,hqn,hqf,hF,h2b,k2⟩
  rw [← List.map_reverse] at hx
  obtain ⟨hi,hxe⟩:=zfY hx
  have hji : bs.reverse[i]? = some (bs.reverse.getD i 0):=by
   rw [List.getD_eq_getElem?_getD,List.getElem?_eq_getElem hi]
   rfl
  subst hxe
  have htk : bs.reverse.take (i + 1) = bs.reverse.take i ++ [bs.reverse.getD i 0]:=by
   rw [List.take_succ_eq_append_getElem hi,List.getD_eq_getElem?_getD,List.getElem?_eq_getElem hi]
   rfl
  rw [htk]
  generalize bs.reverse.getD i 0 = j at hji htk ⊢
  have hjm : j∈bs:=List.mem_reverse.mp (List.mem_of_getElem? hji)
  obtain ⟨hjn,hjB⟩:=(hmem j).mp hjm
  have hjnot : j∉bs.reverse.take i:=fun z=>by
   have hnd':=hnd
   rw [← List.take_append_drop (i + 1) bs.reverse,htk] at hnd'
   have:=(List.nodup_append.mp hnd').1
   exact (List.nodup_append.mp this).2.2 j z j (List.mem_singleton.mpr rfl) rfl
  have noD : ∀ {p : Addr} {o : HO},H p = some o→p≠D:=fun {p o} e=>zab e hD
  have S2 : zbi H2 st ps rows t rs as:=⟨k2 _ _ (noD S.st) S.st,k2 _ _ (noD S.tr) S.tr,k2 _ _ (noD S.rs) S.rs,zaQ.keep (p:=D) (d:=D) (fun a row e=>noD e) k2 S.at_,S.len,S.T,S.R,S.few,S.keys⟩
  have hkeys:=S.keys
  have hfew:=S.few
  refine ⟨_,rfl,_,rfl,t,ps,j,rfl,S2.tr,by omega,fun c H3 hc s3 h3=>?_⟩
  refine ⟨c,rfl,⟨_,SqL.of h3⟩,fun D2 hD2=>?_⟩
  have hcmem:=fun m=>zay (ps:=ps) (k:=j) (n:=ps.length + 1) (j:=m)
  have hcl:=zdr ps j (ps.length + 1)
  have hparts : zdw ps rows j = ((zaF ps j (ps.length + 1)).map fun c=>zbM (zaj ps rows c)) ++ [ownE rows j]:=rfl
  generalize zaF ps j (ps.length + 1) = cs at h3 hcmem hcl hparts ⊢
  have h3D:=s3 _ _ h2
  have nDD2 : D≠D2:=zab h3D hD2
  have F3 : zau K H3 ps rows (bs.reverse.take i) qs:=hF.same s3
  refine zbG (xs:=cs.map nV) (fun m σ H4=>∃ (gs : List Addr) (x0 : Option V),σ = [x0,some (.ref D)]∧H4 D2 = some (.lst (gs.map V.ref))∧Own K H4 gs ((cs.take m).map fun c=>zbM (zaj ps rows c))∧D2∉gs∧But D2 H3 H4) ?_ ?_ ?_ ?_
  ·exact ⟨[],_,rfl,zac,.nil,(fun z=>nomatch z),fun b o n e=>by rw [zag n]; exact e⟩
  ·rintro m σ H4 _ ⟨gs,x0,rfl,_,_,_,k4⟩
   exact k4.sq (SqL.of h3) hD2
  ·rintro m r x σ H4 hx hm ⟨gs,x0,rfl,h4,hO,hg,k4⟩
   obtain ⟨hmi,rfl⟩:=zfY hx
   have hcm : cs[m]? = some (cs.getD m 0):=by
    rw [List.getD_eq_getElem?_getD,List.getElem?_eq_getElem hmi]
    rfl
   have htk2 : cs.take (m + 1) = cs.take m ++ [cs.getD m 0]:=by
    rw [List.take_succ_eq_append_getElem hmi,List.getD_eq_getElem?_getD,List.getElem?_eq_getElem hmi]
    rfl
   rw [htk2]
   generalize cs.getD m 0 = ch at hcm ⊢
   obtain ⟨hchn,hchp⟩:=(hcmem ch).mp (List.mem_of_getElem? hcm)
   have hlt:=(zaO S.T hchp).1
   have hin : ch∈bs.reverse.take i:=zm6 hdn hji (List.mem_reverse.mpr ((hmem ch).mpr ⟨hchn,zmM S.T hjB hchp⟩)) hlt
   obtain ⟨u,hu,hue⟩:=List.getElem_of_mem hin
   have hu2 : (bs.reverse.take i)[u]? = some ch:=by rw [List.getElem?_eq_getElem hu,hue]
   obtain ⟨qq,hq1,ws,hq2,hq3⟩:=F3.get hu2
   have hnd2 : (bs.reverse.take i).Nodup:=hnd.sublist (List.take_sublist _ _)
   have hv:=zh4 hnd2 hu2 hq1
   have k4D:=k4 _ _ nDD2 h3D
   have hq4:=k4 _ _ (zab hq2 hD2) hq2
   have hq5 : zal K H4 (zaj ps rows ch) ws:=by
    have key : ∀ {es : List (Int×Int)} {vs : List V},zal K H3 es vs→zal K H4 es vs:=by
     intro es vs hh
     induction hh with
     | nil=>exact .nil
     | cons a _ ih=>
      obtain ⟨b,x1,x2,rfl,q,e1,e2⟩:=(show hasP K H3 _ _ from a)
      exact .cons ⟨b,x1,x2,rfl,k4 _ _ (zab q hD2) q,e1,e2⟩ ih
    exact key hq3
   have hlen:=zem S.T S.len (rows:=rows) hchn
   refine zdA ?_
   have hdg : DGet H4 D (.int (ch : Int)) (some (.ref qq)):=by
    rw [← hv]
    exact DGet.k (k:=kN ch) k4D
   refine ⟨_,rfl,_,rfl,D,_,rfl,hdg,?_⟩
   refine ⟨qq,ws,zaj ps rows ch,rfl,hq4,hq5,by omega,zfs S.T S.R hfew hchn,za3 S.T S.R hchn,fun g H5 hg5 s5 h5=>?_⟩
   have hgl:=hO.length
   rw [List.length_map,List.length_take] at hgl
   have h5D2:=s5 _ _ h4
   have ngD2 : D2≠g:=zab h4 hg5
   rw [List.length_map] at hm
   refine ⟨_,h5D2,zar (by rw [List.length_map]; omega),r - 1,by omega,by rw [List.length_map]; omega,gs ++ [g],_,rfl,?_,?_,?_,fun x o n e=>by rw [zag n]; exact s5 _ _ (k4 x o n e)⟩
   ·rw [zac,List.map_append]
    rfl
   ·rw [List.map_append]
    refine Own.other h5D2 (Own.append (hO.ext s5.ext) (.cons ⟨_,h5,?_⟩ .nil)) ?_
    ·exact zjd (hq5.mono s5.ext)
    ·intro z
     rcases List.mem_append.mp z with z | z
     ·exact hg z
     ·exact ngD2 (List.mem_singleton.mp z)
   ·intro z
    rcases List.mem_append.mp z with z | z
    ·exact hg z
    ·exact ngD2 (List.mem_singleton.mp z)
  ·rintro σ H4 ⟨gs,x0,rfl,h4,hO,hg,k4⟩
   rw [List.length_map,List.take_of_length_le (Nat.le_refl _)] at hO
   have hgl:=hO.length
   rw [List.length_map] at hgl
   have s34 : Same H3 H4:=fun x o e=>k4 x o (zab e hD2) e
   have s24 : Same H2 H4:=s3.trans s34
   have S4:=S2.same s24
   refine ⟨_,rfl,.inl ⟨rfl,_,SqL.of h4⟩,_,rfl,_,rfl,st,ps,rows,t,rs,as,j,rfl,S4,hjn,fun D3 us H5 hD3 s45 h5 hw5=>?_⟩
   have h5D2:=s45 _ _ h4
   have n23 : D2≠D3:=zab h4 hD3
   refine ⟨_,_,_,rfl,rfl,h5D2,zar (by rw [List.length_map]; omega),?_⟩
   have O5 : Own K H5 (gs ++ [D3]) (zdw ps rows j):=by
    rw [hparts]
    exact Own.append (hO.ext s45.ext) (.cons ⟨us,h5,hw5⟩ .nil)
   have nin : D2∉gs ++ [D3]:=fun z=>by
    rcases List.mem_append.mp z with z | z
    ·exact hg z
    ·exact n23 (List.mem_singleton.mp z)
   have O6:=O5.other (o:=.lst (gs.map V.ref ++ [.ref D3])) h5D2 nin
   have h6 : upd H5 D2 (.lst (gs.map V.ref ++ [.ref D3])) D2 = some (.lst ((gs ++ [D3]).map V.ref)):=by
    rw [zac,List.map_append]
    rfl
   have k26 : ∀ x o,H2 x = some o→upd H5 D2 (.lst (gs.map V.ref ++ [.ref D3])) x = some o:=fun x o e=>by
    rw [zag (zab (s3 _ _ e) hD2)]
    exact s45 _ _ (s24 _ _ e)
   generalize upd H5 D2 (.lst (gs.map V.ref ++ [.ref D3])) = H6 at O6 h6 k26 ⊢
   have hfl : (zdw ps rows j).flatten.length≤63:=by
    have:=zem S.T S.len (rows:=rows) hjn
    rw [zcj S.T hjn,zcT] at this
    omega
   refine ⟨_,rfl,D2,gs ++ [D3],zdw ps rows j,rfl,h6,O6,hfl,fun p ws H7 hp s7 h7 hw7=>?_⟩
   rw [← zcj S.T hjn] at hw7
   have s27 : Same H2 H7:=fun x o e=>s7 _ _ (k26 x o e)
   have h7D:=s27 _ _ h2
   have hql:=hF.length
   have hpD : p≠D:=Ne.symm (zab (k26 _ _ h2) hp)
   refine ⟨_,rfl,_,rfl,D,_,rfl,DPut.k (k:=kN j) h7D (zar (by rw [zle hql,List.length_take,List.length_reverse]; omega)),?_⟩
   rw [zoj hql hjnot]
   have e78 : Ext H7 (upd H7 D (.dK (zc9 (bs.reverse.take i ++ [j]) (qs ++ [p])))):=fun x o e n=>by
    rw [zag (fun z=>by
     rw [z,h7D] at e
     cases e
     exact n _ rfl)]
    exact e
   have F8 : zau K (upd H7 D (.dK (zc9 (bs.reverse.take i ++ [j]) (qs ++ [p])))) ps rows (bs.reverse.take i ++ [j]) (qs ++ [p]):=by
    exact zau.ext e78 (zau.snoc (hF.same s27) ⟨ws,h7,hw7⟩)
   refine ⟨qs ++ [p],_,_,rfl,zac,?_,?_,F8,?_,fun x o n e=>?_⟩
   ·rw [List.nodup_append]
    refine ⟨hqn,List.nodup_cons.mpr ⟨(fun z=>nomatch z),List.nodup_nil⟩,fun a ha b hb z=>?_⟩
    rw [List.mem_singleton.mp hb] at z
    subst z
    obtain ⟨ws',hws⟩:=hF.alloc a ha
    have:=k26 _ _ hws
    rw [hp] at this
    cases this
   ·intro x hx
    rcases List.mem_append.mp hx with z | z
    ·exact hqf x z
    ·rw [List.mem_singleton.mp z]
     cases e : H p with
     | none=>rfl
     | some o=>
      have:=k26 _ _ (k2 p o hpD e)
      rw [hp] at this
      cases this
   ·rw [zag (fun z=>by rw [z,h2] at h2b; cases h2b)]
    exact s27 _ _ h2b
   ·rw [zag n]
    exact s27 _ _ (k2 x o n e)
 ·rintro σ H2 ⟨qs,x5,x6,rfl,h2,hqn,hqf,hF,h2b,k2⟩
  refine ⟨_,rfl,?_⟩
  rw [List.length_map,List.take_of_length_le (by rw [List.length_reverse]; exact Nat.le_refl _)] at h2 hF
  exact q D qs H2 hD (fun x o e=>k2 x o (zab e hD) e) h2 hqn hqf hF
def zhN (K : PySem.W.Frag) : Sp:=fun vs H Q _=>∃ (st : Addr) (ps : List Nat) (rows : List (List Int)) (t rs : Addr) (as : List Addr),vs = [.ref st]∧zbi H st ps rows t rs as∧
 ∀ (p : Addr) (qs : List Addr) (H' : Hp),H p = none→Same H H'→H' p = some (.lst (qs.map V.ref))→qs.Nodup→(∀ q∈qs,H q = none)→p∉qs→zau K H' ps rows (List.range (ps.length + 1)) qs→Q (.ref p) H'
theorem zgm {n i : Nat} (h : i < n) : (List.range n).reverse[n - 1 - i]? = some i:=by
 rw [List.getElem?_reverse (by rw [List.length_range]; omega),List.length_range,List.getElem?_range (by omega)]
 congr 1
 omega
theorem zmv (T : Txt K mg) (D_full_rows : DF K mg "full_rows" zcH zbx) (F_full_rows_beneath : FC P w K mg base 7 "full_rows_beneath" zaI (spFRB K)) : FC P w K mg base 8 "full_rows" zbx (zhN K):=by
 refine D_full_rows.ok sc_full_rows (fun vs H Q E h=>?_) (fun f cdv A outer s H vs Q E hr h=>?_)
 ·obtain ⟨st,ps,rows,t,rs,as,rfl,_⟩:=h
  rfl
 obtain ⟨st,ps,rows,t,rs,as,rfl,S,q⟩:=h
 refine ⟨_,(zaf (zaq (i:=1) sc_full_rows.nd rfl (Or.inr rfl) (zaE F_full_rows_beneath hr (zaa (pv 0) (zaa zae zad))))
   (zah (zat (zcl (N:=["knot","told"]) (own:=1) (cap:=[1]) rfl (zbC rfl T.m_range (zaa (zap zam rfl T.m_len boot_len (zaa (zaB zaL (pv 0) zae (fun _ _=>rfl)) zad)) zad)) ⟨rfl,rfl,rfl,rfl,rfl,rfl⟩ (fun _ _ _ _ _=>(zas (i:=0) (show List.Nodup (["knot","told"] : List Str) by decide +kernel) rfl (Or.inl rfl))) (fun _ _ _ _ _=>zbY) (fun _ _ _ _ _=>(zb3 (zcB hr) (pv 1) (pv 0) (fun _ _=>rfl))))))),?_⟩
 refine ⟨_,rfl,st,ps,rows,t,rs,as,0,rfl,S,by omega,fun D qs H1 hD s1 h1 hqn hqf hF=>?_⟩
 rw [zhD S.T] at h1 hF
 have S1:=S.same s1
 have hfew:=S.few
 have hql:=hF.length
 rw [List.length_reverse,List.length_range] at hql
 refine ⟨_,rfl,_,_,_,_,rfl,rfl,SqT.of S1.st,rfl,_,_,rfl,.inr (SqT.of S1.tr),_,rfl,by omega,by rw [zav]; omega,fun p hp=>?_⟩
 have el : ((((zco ps).length : Nat) : Int)).toNat = ps.length + 1:=by rw [zav,Int.toNat_natCast]
 rw [el]
 refine zf3 (n:=ps.length + 1) (fun i σ H2=>∃ x0 : Option V,σ = [x0,some (.ref D)]∧H2 p = some (.lst ((qs.reverse.take i).map V.ref))∧But p H1 H2) ?_ ?_ ?_
 ·exact ⟨_,rfl,zac,fun b o n e=>by rw [zag n]; exact e⟩
 ·rintro i m σ H2 hm hi ⟨x0,rfl,h2,k2⟩
  rw [Int.zero_add]
  have hi2 : i < qs.reverse.length:=by rw [List.length_reverse]; omega
  have hq1 : qs[ps.length + 1 - 1 - i]? = some qs.reverse[i]:=by
   have:=List.getElem?_reverse (l:=qs) (i:=i) (by omega)
   rw [List.getElem?_eq_getElem hi2] at this
   rw [this]
   congr 1
   omega
  have hv:=zh4 (zhc List.nodup_range) (zgm hi) hq1
  have h2D:=k2 _ _ (zab h1 hp) h1
  have hdg : DGet H2 D (.int (i : Int)) (some (.ref qs.reverse[i])):=by
   rw [← hv]
   exact DGet.k (k:=kN i) h2D
  refine zdA ?_
  refine ⟨_,rfl,_,rfl,D,_,rfl,hdg,?_⟩
  refine ⟨_,h2,zar (by rw [List.length_map,List.length_take]; omega),m - 1,by omega,by omega,_,rfl,?_,fun b o n e=>by rw [zag n]; exact k2 b o n e⟩
  rw [zac,List.take_succ_eq_append_getElem hi2,List.map_append]
  rfl
 ·rintro σ H2 ⟨x0,rfl,h2,k2⟩
  rw [List.take_of_length_le (by rw [List.length_reverse]; omega)] at h2
  have s2 : Same H1 H2:=fun b o e=>k2 b o (zab e hp) e
  have F2:=(hF.same s2).rev
  rw [List.reverse_reverse] at F2
  refine q p qs.reverse H2 ?_ (s1.trans s2) h2 (zhc hqn) (fun x hx=>hqf x (List.mem_reverse.mp hx)) (fun z=>?_) F2
  ·cases e : H p with
   | none=>rfl
   | some o=>
    have:=s1 _ _ e
    rw [hp] at this
    cases this
  ·obtain ⟨ws,hws⟩:=hF.alloc p (List.mem_reverse.mp z)
   rw [hp] at hws
   cases hws
def zf7 (x : Key) : Prop:=∃ a : Int,x = .inl a∧-(10 ^ 60) < a∧a < 10 ^ 60
def toI : Key→Int
 | .inl a=>a
 | _=>0
theorem zn1 {kvs : List (Key×V)} {x : Key} {v : V} (h1 : (kvs.map (·.1)).Nodup) (h2 : ∀ y∈kvs.map (·.1),zf7 y) (hx : zf7 x) : ((putK kvs x v).map (·.1)).Nodup∧∀ y∈(putK kvs x v).map (·.1),zf7 y:=by
 rw [zkA]
 split
 ·exact ⟨h1,h2⟩
 ·rename_i c
  refine ⟨?_,fun y hy=>?_⟩
  ·rw [List.nodup_append]
   refine ⟨h1,List.nodup_cons.mpr ⟨(fun z=>nomatch z),List.nodup_nil⟩,fun a ha b hb z=>?_⟩
   rw [List.mem_singleton.mp hb] at z
   subst z
   obtain ⟨p,hp,e⟩:=List.mem_map.mp ha
   exact c (List.any_eq_true.mpr ⟨p,hp,decide_eq_true e⟩)
  ·rcases List.mem_append.mp hy with z | z
   ·exact h2 y z
   ·rw [List.mem_singleton.mp z]
    exact hx
theorem zez : ∀ {l : List Key},(∀ y∈l,zf7 y)→l.map kV = (l.map toI).map V.int
 | [],_=>rfl
 | x :: l,h=>by
  obtain ⟨a,rfl,_⟩:=h x List.mem_cons_self
  show V.int a :: l.map kV = V.int a :: (l.map toI).map V.int
  rw [zez fun y hy=>h y (List.mem_cons_of_mem _ hy)]
theorem zgX : ∀ {l : List Key},l.Nodup→(∀ y∈l,zf7 y)→(l.map toI).Nodup
 | [],_,_=>List.nodup_nil
 | x :: l,hn,h=>by
  rw [List.map_cons,List.nodup_cons]
  have hc:=List.nodup_cons.mp hn
  refine ⟨fun z=>?_,zgX hc.2 fun y hy=>h y (List.mem_cons_of_mem _ hy)⟩
  obtain ⟨y,hy,e⟩:=List.mem_map.mp z
  obtain ⟨a,rfl,_⟩:=h x List.mem_cons_self
  obtain ⟨b,rfl,_⟩:=h y (List.mem_cons_of_mem _ hy)
  have : b = a:=e
  subst this
  exact hc.1 hy
def spRow (K : PySem.W.Frag) : Sp:=fun vs H Q _=>∃ (d L : Addr) (m : Int),vs = [.ref d,.int m]∧(0≤m∧m≤40)∧LS K L d H∧
 ∀ (a : Addr) (row : List Int) (H' : Hp),H a = none→row.Pairwise (· < ·)→(∀ x∈row,-(10 ^ 60) < x∧x < 10 ^ 60)→(row.length : Int)≤m→H' a = some (.tup (row.map V.int))→Keep d H H'→LS K L d H'→Q (.ref a) H'
theorem zn8 (T : Txt K mg) (D_l_row : DF K mg "_law_row" zgh zd1) (F_l_take : FC P w K mg base 2 "_law_take" zbA (zfQ K)) (F_l_key : FC P w K mg base 3 "_law_key" zdl (znV K)) : FC P w K mg base 4 "_law_row" zd1 (spRow K):=by
 refine D_l_row.ok sc_l_row (fun vs H Q E h=>?_) (fun f cdv A outer s H vs Q E hr h=>?_)
 ·obtain ⟨d,L,m,rfl,_⟩:=h
  rfl
 obtain ⟨d,L,m,rfl,⟨hm0,hm1⟩,hs,q⟩:=h
 refine ⟨_,(zaf (zaq (i:=2) sc_l_row.nd rfl (Or.inl rfl) ziU)
   (zaf (zbd PassesOwn.never rfl (zbC rfl T.m_range (zaa (zaE F_l_take hr (zaa (pv 0) (zaa (zax zbf (pv 1) zae) zad))) zad)) (zas (i:=3) sc_l_row.nd rfl (Or.inl rfl)) (zah (zdF (zcB hr) (pv 2) (zaE F_l_key hr (zaa (pv 0) zad)) zdt rfl)))
   (zah (zat (zbL zcO rfl T.m_tuple boot_tuple (zaa (zap (zeC Int) rfl T.m_sorted boot_sorted (zaa (zbL (zjY rfl) rfl T.m_list boot_list (zaa (pv 2) zad)) zad)) zad)))))),?_⟩
 intro g hg
 have ngd : g≠d:=fun z=>by
  obtain ⟨_,_,_,e,_⟩:=hs.ex
  rw [← z,hg] at e
  cases e
 refine ⟨_,rfl,_,rfl,_,_,rfl,rfl,d,L,m + 1,rfl,⟨by omega,by omega⟩,hs.of_new hg _,fun n H1 n0 n1 k1 s1=>⟨_,rfl,by omega,by omega,?_⟩⟩
 refine za9 (n:=n.toNat) (fun i σ H2=>∃ (kvs : List (Key×V)) (x3 : Option V),σ = [some (.ref d),some (.int m),some (.ref g),x3]∧H2 g = some (.dK kvs)∧kvs.length≤i∧(kvs.map (·.1)).Nodup∧(∀ y∈kvs.map (·.1),zf7 y)∧(∀ b o,b≠d→b≠g→H b = some o→H2 b = some o)∧LS K L d H2) ?_ ?_ ?_
 ·exact ⟨[],_,rfl,k1 g _ ngd zac,Nat.le_refl _,List.nodup_nil,fun y hy=>(by simp at hy),fun b o b1 b2 e=>k1 b o b1 (by rw [zag b2]; exact e),s1⟩
 ·rintro i σ H2 hi ⟨kvs,x3,rfl,h2,hl,hn,hy,kk,s2⟩
  refine ⟨_,rfl,_,rfl,d,L,rfl,s2,fun v H3 v0 v1 k3 s3=>?_⟩
  have h3 : H3 g = some (.dK kvs):=k3 g _ ngd h2
  obtain ⟨p1,p2⟩:=zn1 (v:=.bl true) hn hy (x:=.inl v) ⟨v,rfl,v0,v1⟩
  refine ⟨g,_,rfl,DPut.k (k:=.inl v) (kvs:=kvs) h3 (zar (by omega)),?_⟩
  refine ⟨putK kvs (.inl v) (.bl true),_,rfl,zac,?_,p1,p2,?_,?_⟩
  ·have:=zcK kvs (Sum.inl v : Key) (.bl true)
   omega
  ·intro b o b1 b2 e
   rw [zag b2]
   exact k3 b o b1 (kk b o b1 b2 e)
  ·exact LS.put hs hg (fun b o b1 b2 e=>k3 b o b1 (kk b o b1 b2 e)) s3
 ·rintro σ H2 ⟨kvs,x3,rfl,h2,hl,hn,hy,kk,s2⟩
  refine ⟨_,rfl,g,kvs,rfl,h2,fun l hl1=>?_⟩
  have ei : kvs.map (fun kv=>kV kv.1) = ((kvs.map (·.1)).map toI).map V.int:=by
   rw [← zez hy,List.map_map]
   rfl
  rw [ei]
  have e1:=zak hl1 (.lst (((kvs.map (·.1)).map toI).map V.int))
  refine ⟨l,_,_,rfl,SqL.of zac,zal.ints,by rw [List.length_map,List.length_map]; omega,fun l2 ws hl2 hw=>?_⟩
  rw [hw.toInts]
  have e2:=zak hl2 (.lst ((zbX ((kvs.map (·.1)).map toI)).map V.int))
  refine ⟨l2,_,rfl,.inl ⟨SqL.of zac,fun a ha=>?_⟩⟩
  have e3:=zak ha (.tup ((zbX ((kvs.map (·.1)).map toI)).map V.int))
  have e13:=e1.trans (e2.trans e3)
  have free : H a = none:=by
   have z2 : H2 a = none:=e1.free (e2.free ha)
   cases z : H a with
   | none=>rfl
   | some o=>
    by_cases c1 : a = d
    ·obtain ⟨_,_,_,e,_⟩:=s2.ex
     rw [← c1,z2] at e
     cases e
    ·by_cases c2 : a = g
     ·rw [c2,h2] at z2
      cases z2
     ·rw [kk a o c1 c2 z] at z2
      cases z2
  refine q a _ _ free ?_ (fun x hx=>?_) ?_ zac (fun b o b1 e=>e13 _ _ (kk b o b1 (zab e hg) e)) (s2.same e13)
  ·exact List.Pairwise.imp (fun {a b} (h : Srt.blt a b = true)=>of_decide_eq_true h) (zfR (zgX hn hy))
  ·rw [zfb] at hx
   obtain ⟨y,hy2,rfl⟩:=List.mem_map.mp hx
   obtain ⟨a,rfl,h1,h2⟩:=hy y hy2
   exact ⟨h1,h2⟩
  ·rw [zcT,List.length_map,List.length_map]
   omega
def zne (K : PySem.W.Frag) : Sp:=fun vs H Q _=>∃ (d L : Addr) (n m : Nat),vs = [.ref d,.int n,.int m]∧n≤40∧m≤40∧LS K L d H∧
 ∀ (r : Addr) (as : List Addr) (rows : List (List Int)) (H' : Hp),H r = none→zaQ H' as rows→rows.length = n→za4 rows→(∀ row∈rows,row.length≤m)→H' r = some (.tup (as.map V.ref))→Keep d H H'→LS K L d H'→Q (.ref r) H'
theorem za4.snoc {rows : List (List Int)} {row : List Int} (R : za4 rows) (h1 : row.Pairwise (· < ·)) (h2 : ∀ x∈row,-(10 ^ 60) < x∧x < 10 ^ 60) : za4 (rows ++ [row]):=by
 refine ⟨fun r hr=>?_,fun r hr=>?_⟩
 ·rcases List.mem_append.mp hr with z | z
  ·exact R.up r z
  ·rw [List.mem_singleton.mp z]
   exact h1
 ·rcases List.mem_append.mp hr with z | z
  ·exact R.key r z
  ·rw [List.mem_singleton.mp z]
   exact h2
theorem zmt (T : Txt K mg) (D_l_rows : DF K mg "_law_rows" zeR zc0) (F_l_take : FC P w K mg base 2 "_law_take" zbA (zfQ K)) (F_l_row : FC P w K mg base 4 "_law_row" zd1 (spRow K)) : FC P w K mg base 5 "_law_rows" zc0 (zne K):=by
 refine D_l_rows.ok sc_l_rows (fun vs H Q E h=>?_) (fun f cdv A outer s H vs Q E hr h=>?_)
 ·obtain ⟨d,L,n,m,rfl,_⟩:=h
  rfl
 obtain ⟨d,L,n,m,rfl,hn,hm,hs,q⟩:=h
 refine ⟨_,(zaf (zaq (i:=3) sc_l_rows.nd rfl (Or.inl rfl) (zbQ zad))
   (zaf (zbd PassesOwn.never rfl (zbC rfl T.m_range (zaa (pv 1) zad)) (zas (i:=4) sc_l_rows.nd rfl (Or.inl rfl)) (zaf (zaq (i:=5) sc_l_rows.nd rfl (Or.inl rfl) (zaE F_l_row hr (zaa (pv 0) (zaa (pv 2) zad))))
   (zbc (zbO (zaC zfF (zaE F_l_take hr (zaa (pv 0) (zaa zae zad))) zae (zaP _)) (zah (zaq (i:=5) sc_l_rows.nd rfl (Or.inl rfl) (zb2 zad))) zaN)
   (zbc (zbO (PW.pt (ziP (zaC zjC (pv 4) zae (zaP _)) (zgn (zaC zfF (zaE F_l_take hr (zaa (pv 0) (zaa zae zad))) zae (zaP _))))) (zah (zaq (i:=5) sc_l_rows.nd rfl (Or.inl rfl) (zaB zaz (pv 3) (zax zbR (pv 4) zae) (fun _ _=>rfl)))) zaN)
   (zah (zbu (zd4 F.plainAttrs_list F.slot_list_append F.type_list_append za2 (pv 3) (zaa (pv 5) zad))))))))
   (zah (zat (zbL zcO rfl T.m_tuple boot_tuple (zaa (pv 3) zad)))))),?_⟩
 refine ⟨(by show 0≤sizeLine; decide),fun p hp=>?_⟩
 have g0:=zak hp (.lst [])
 have ndT : ∀ {H' : Hp} {a : Addr} {o : List V},LS K L d H'→H' a = some (.tup o)→a≠d:=fun {H' a o} s e z=>by
  obtain ⟨_,_,_,e2,_⟩:=s.ex
  rw [← z,e] at e2
  cases e2
 have nd : ∀ {H' : Hp} {a : Addr},LS K L d H'→H' a = none→a≠d:=fun {H' a} s e z=>by
  obtain ⟨_,_,_,e2,_⟩:=s.ex
  rw [← z,e] at e2
  cases e2
 have hpd : p≠d:=nd hs hp
 refine ⟨_,rfl,_,rfl,by omega,by omega,?_⟩
 rw [Int.toNat_natCast]
 refine za9 (n:=n) (fun i σ H2=>∃ (as : List Addr) (rows : List (List Int)) (x4 x5 : Option V),σ = [some (.ref d),some (.int n),some (.int m),some (.ref p),x4,x5]∧H2 p = some (.lst (as.map V.ref))∧zaQ H2 as rows∧rows.length = i∧za4 rows∧(∀ row∈rows,row.length≤m)∧(∀ b o,b≠d→b≠p→H b = some o→H2 b = some o)∧LS K L d H2) ?_ ?_ ?_
 ·exact ⟨[],[],_,_,rfl,zac,.nil,rfl,⟨(fun r hr=>nomatch hr),(fun r hr=>nomatch hr)⟩,(fun r hr=>nomatch hr),fun b o _ n e=>g0 b o e,hs.same g0⟩
 ·rintro i σ H2 hi ⟨as,rows,x4,x5,rfl,h2,hA,hl,hR,hlen,k2,s2⟩
  rw [Int.zero_add]
  have hal:=hA.length
  have old : ∀ {H3 : Hp} {b : Addr} {o : HO},(∀ b o,b≠d→H2 b = some o→H3 b = some o)→b≠d→b≠p→H b = some o→H3 b = some o:=fun k n1 n2 e=>k _ _ n1 (k2 _ _ n1 n2 e)
  refine ⟨_,rfl,_,rfl,d,L,m,rfl,⟨by omega,by omega⟩,s2,fun a row H3 ha hup hky hlr h3 k3 s3=>?_⟩
  refine ⟨fun σ' H'=>∃ (a : Addr) (row : List Int),σ' = [some (.ref d),some (.int n),some (.int m),some (.ref p),some (.int i),some (.ref a)]∧H' a = some (.tup (row.map V.int))∧row.Pairwise (· < ·)∧(∀ x∈row,-(10 ^ 60) < x∧x < 10 ^ 60)∧row.length≤m∧(∀ b o,b≠d→H2 b = some o→H' b = some o)∧LS K L d H',?_,?_⟩
  ·refine ⟨_,rfl,d,L,4,rfl,by decide,s3,fun v H4 _ _ k4 s4=>⟨rfl,_,rfl,?_⟩⟩
   have h4:=k4 _ _ (ndT s3 h3) h3
   refine ite2 (fun _=>?_) (fun _=>?_)
   ·refine ⟨(by show 0≤sizeLine; decide),fun u hu=>?_⟩
    have su:=zak hu (.tup [])
    exact ⟨u,[],rfl,zac,.nil,(fun x hx=>nomatch hx),Nat.zero_le _,fun b o n1 e=>su _ _ (k4 _ _ n1 (k3 _ _ n1 e)),s4.same su⟩
   ·exact ⟨a,row,rfl,h4,hup,hky,by omega,fun b o n1 e=>k4 _ _ n1 (k3 _ _ n1 e),s4⟩
  rintro σ' H4 ⟨a,row,rfl,h4,hup,hky,hlr,k4,s4⟩
  refine ⟨fun σ' H'=>∃ (a : Addr) (row : List Int),σ' = [some (.ref d),some (.int n),some (.int m),some (.ref p),some (.int i),some (.ref a)]∧H' a = some (.tup (row.map V.int))∧row.Pairwise (· < ·)∧(∀ x∈row,-(10 ^ 60) < x∧x < 10 ^ 60)∧row.length≤m∧(∀ b o,b≠d→H2 b = some o→H' b = some o)∧LS K L d H',?_,?_⟩
  ·refine ⟨_,rfl,_,_,rfl,rfl,_,rfl,?_⟩
   refine ite2 (fun c=>?_) (fun c=>?_)
   ·have c' : (0 : Int) < (i : Int):=of_decide_eq_true c
    refine ⟨_,rfl,d,L,4,rfl,by decide,s4,fun v H5 _ _ k5 s5=>⟨rfl,_,rfl,?_⟩⟩
    have h5:=k5 _ _ (ndT s4 h4) h4
    refine ite2 (fun _=>?_) (fun _=>?_)
    ·have h5p : H5 p = some (.lst (as.map V.ref)):=k5 _ _ hpd (k4 _ _ hpd h2)
     obtain ⟨b,hb1,hb2⟩:=hA.get (k:=i - 1) (by omega)
     have hb5:=k5 _ _ (ndT s4 (k4 _ _ (ndT s2 hb2) hb2)) (k4 _ _ (ndT s2 hb2) hb2)
     have hat : atI (as.map V.ref) ((i : Int) - 1) = some (.ref b):=by
      rw [show (i : Int) - 1 = ((i - 1 : Nat) : Int) by omega]
      exact zhF hb1
     refine ⟨_,rfl,_,rfl,_,_,rfl,rfl,_,_,_,_,rfl,rfl,SqL.of h5p,hat,?_⟩
     have hmem : zbt rows (i - 1)∈rows:=by
      unfold zbt
      rw [List.getD_eq_getElem?_getD,List.getElem?_eq_getElem (show i - 1 < rows.length by omega)]
      exact List.getElem_mem _
     exact ⟨b,zbt rows (i - 1),rfl,hb5,hR.up _ hmem,hR.key _ hmem,hlen _ hmem,fun b o n1 e=>k5 _ _ n1 (k4 _ _ n1 e),s5⟩
    ·exact ⟨a,row,rfl,h5,hup,hky,hlr,fun b o n1 e=>k5 _ _ n1 (k4 _ _ n1 e),s5⟩
   ·refine iteF ?_
    exact ⟨a,row,rfl,h4,hup,hky,hlr,k4,s4⟩
  rintro σ' H5 ⟨a,row,rfl,h5,hup,hky,hlr,k5,s5⟩
  have h5p : H5 p = some (.lst (as.map V.ref)):=k5 _ _ hpd h2
  have keep : ∀ b o,b≠p→H5 b = some o→upd H5 p (.lst (as.map V.ref ++ [.ref a])) b = some o:=fun b o n e=>by rw [zag n]; exact e
  have ntp : ∀ {b : Addr} {o : List V},H5 b = some (.tup o)→b≠p:=fun {b o} e z=>by
   rw [z,h5p] at e
   cases e
  refine ⟨_,rfl,.inl ⟨rfl,_,SqL.of h5p⟩,_,rfl,_,_,_,rfl,rfl,h5p,zar (by rw [List.length_map]; omega),?_⟩
  refine ⟨as ++ [a],rows ++ [row],_,_,rfl,?_,?_,by rw [List.length_append,List.length_singleton,hl],hR.snoc hup hky,fun r hr=>?_,fun b o n1 n2 e=>keep _ _ n2 (k5 _ _ n1 (k2 _ _ n1 n2 e)),?_⟩
  ·rw [zac,List.map_append]
   rfl
  ·refine zaQ.snoc ?_ (keep _ _ (ntp h5) h5)
   have hA5 : zaQ H5 as rows:=zaQ.keep (p:=d) (fun a row e=>ndT s2 e) k5 hA
   exact zaQ.keep (p:=p) (d:=p) (fun a row e=>ntp e) keep hA5
  ·rcases List.mem_append.mp hr with z | z
   ·exact hlen r z
   ·rw [List.mem_singleton.mp z]
    exact hlr
  ·exact LS.put hs hp (fun b o n1 n2 e=>k5 _ _ n1 (k2 _ _ n1 n2 e)) s5
 ·rintro σ H2 ⟨as,rows,x4,x5,rfl,h2,hA,hl,hR,hlen,k2,s2⟩
  refine ⟨_,rfl,p,_,rfl,.inl ⟨SqL.of h2,fun t ht=>?_⟩⟩
  have sn:=zak ht (.tup (as.map V.ref))
  have ht0 : H t = none:=by
   cases e : H t with
   | none=>rfl
   | some o=>
    have:=k2 t o (nd s2 ht) (Ne.symm (zab h2 ht)) e
    rw [ht] at this
    cases this
  exact q t as rows _ ht0 (hA.ext sn) hl hR hlen zac (fun b o n e=>sn _ _ (k2 b o n (zab e hp) e)) (s2.same sn)
abbrev En:=Int×Int
def zdI (k : Nat) (es : List En) : Nat:=(es.filter fun e=>decide (e.2 = (k : Int))).length
def zmk (k : Nat) (es : List En) : List Nat:=(List.range (es.length + 1)).map fun p=>zdI k (es.take p)
def stStep (cs : List En) (s : Nat) (e : En) : Nat:=if e∈cs then cs.idxOf e + 1 else s
def stN (cs es : List En) : Nat:=es.foldl (stStep cs) 0
def zei (es cs : List En) : List Nat:=(List.range (es.length + 1)).map fun p=>stN cs (es.take p)
def inN (cs es : List En) : Nat:=(es.filter fun e=>decide (e∈cs)).length
theorem zfS {l : List En} (h : Rise l) : l.Nodup:=List.Pairwise.imp (fun {a b} (q : pLt a b = true) z=>by
 subst z
 have:=zcm.mp q
 omega) h
theorem zkz {l m : List En} (h1 : Rise l) (h2 : Rise m) (h : ∀ e,e∈l↔e∈m) : l = m:=by
 refine List.Perm.eq_of_pairwise (le:=fun a b=>pLt a b = true) (fun a b _ _ q1 q2=>?_) h1 h2 ((List.perm_ext_iff_of_nodup (zfS h1) (zfS h2)).mpr h)
 have:=zcm.mp q1
 have:=zcm.mp q2
 omega
theorem ze0 {ps : List Nat} (T : zaA ps) {rows : List (List Int)} {k : Nat} (hk : k < ps.length + 1) {e : En} : e∈zaj ps rows k↔e∈ownE rows k∨∃ c,par ps c = some k∧e∈zbM (zaj ps rows c):=by
 rw [zcj T hk,zfb,List.mem_flatten]
 unfold zdw
 constructor
 ·rintro ⟨l,hl,he⟩
  rcases List.mem_append.mp hl with q | q
  ·obtain ⟨c,hc,rfl⟩:=List.mem_map.mp q
   exact .inr ⟨c,(zay.mp hc).2,he⟩
  ·rw [List.mem_singleton.mp q] at he
   exact .inl he
 ·rintro (h | ⟨c,hc,h⟩)
  ·exact ⟨_,List.mem_append.mpr (.inr (List.mem_singleton.mpr rfl)),h⟩
  ·exact ⟨_,List.mem_append.mpr (.inl (List.mem_map.mpr ⟨c,zay.mpr ⟨(zaO T hc).2,hc⟩,rfl⟩)),h⟩
theorem zm0 {ps : List Nat} (T : zaA ps) {rows : List (List Int)} (R : za4 rows) {k c : Nat} (hk : k < ps.length + 1) (hc : par ps c = some k) {e : En} : (e∈zaj ps rows k∧e∈zaj ps rows c)↔e∈zbM (zaj ps rows c):=by
 have hcn:=(zaO T hc).2
 constructor
 ·rintro ⟨h1,h2⟩
  obtain ⟨j,g1,g2,g3,_⟩:=ze2 T R hcn e h2
  rcases (ze0 T hk).mp h1 with h | ⟨d,hd,h⟩
  ·have h4:=(ziZ hk h).2
   have : j = k:=by omega
   subst this
   rw [zda T (zaO T hc).1] at g2
   cases g2
  ·by_cases z : d = c
   ·rw [z] at h
    exact h
   ·obtain ⟨i,_,f2,f3,_⟩:=ze2 T R (zaO T hd).2 e ((zbh _).mem h)
    have : i = j:=by omega
    subst this
    exact (zeb T hd hc z i i (Nat.le_refl _) f2 g2).elim
 ·intro h
  exact ⟨(ze0 T hk).mpr (.inr ⟨c,hc,h⟩),(zbh _).mem h⟩
theorem zlL {ps : List Nat} (T : zaA ps) {rows : List (List Int)} (R : za4 rows) {k c : Nat} (hk : k < ps.length + 1) (hc : par ps c = some k) : ((zaj ps rows k).filter fun e=>decide (e∈zaj ps rows c)) = zbM (zaj ps rows c):=by
 refine zkz (List.Pairwise.filter _ (za3 T R hk)) ((za3 T R (zaO T hc).2).sublist (zbh _)) fun e=>?_
 rw [List.mem_filter,decide_eq_true_eq]
 exact zm0 T R hk hc
theorem zjs {l : List En} {p : Nat} (h : p < l.length) : l.take (p + 1) = l.take p ++ [l[p]]:=List.take_succ_eq_append_getElem h
theorem zjA (k : Nat) (es : List En) (e : En) : zdI k (es ++ [e]) = zdI k es + if e.2 = (k : Int) then 1 else 0:=by
 unfold zdI
 rw [List.filter_append,List.length_append]
 congr 1
 by_cases h : e.2 = (k : Int)
 ·rw [if_pos h,List.filter_cons_of_pos (by exact decide_eq_true h)]
  rfl
 ·rw [if_neg h,List.filter_cons_of_neg (by rw [decide_eq_false h]; decide)]
  rfl
theorem zmP (cs es : List En) (e : En) : inN cs (es ++ [e]) = inN cs es + if e∈cs then 1 else 0:=by
 unfold inN
 rw [List.filter_append,List.length_append]
 congr 1
 by_cases h : e∈cs
 ·rw [if_pos h,List.filter_cons_of_pos (by exact decide_eq_true h)]
  rfl
 ·rw [if_neg h,List.filter_cons_of_neg (by rw [decide_eq_false h]; decide)]
  rfl
theorem ziA (cs es : List En) (e : En) : stN cs (es ++ [e]) = if e∈cs then cs.idxOf e + 1 else stN cs es:=by
 unfold stN
 rw [List.foldl_append]
 rfl
def spL (es : List En) : List Nat:=(List.range es.length).filter fun j=>(zb7 es).getD j false
theorem ziH (es : List En) : zdd (zb7 es) (spL es):=by
 have:=zmc (zb7 es)
 rw [zbn] at this
 exact this
theorem zfW {es : List En} {ms : List Bool} (hl : es.length = ms.length) : ∀ i,i≤ms.length→zcM (es.take i) (ms.take i) = ((List.range i).filter fun j=>ms.getD j false).map fun j=>es.getD j (0,0)
 | 0,_=>rfl
 | i + 1,h=>by
  have ft : ((List.range (i + 1)).filter fun j=>ms.getD j false) = ((List.range i).filter fun j=>ms.getD j false) ++ (if ms.getD i false = true then [i] else []):=by
   rw [List.range_succ,List.filter_append]
   congr 1
   by_cases h : ms.getD i false = true
   ·rw [if_pos h,List.filter_cons_of_pos (p:=fun j=>ms.getD j false) (a:=i) h]
    rfl
   ·rw [if_neg h,List.filter_cons_of_neg (p:=fun j=>ms.getD j false) (a:=i) h]
    rfl
  rw [zdO (show i < es.length by omega),zdO (show i < ms.length by omega),zhl (by rw [List.length_take,List.length_take]; omega),zfW hl i (by omega),ft,List.map_append]
  congr 1
  have e : ms.getD i false = ms[i]'(by omega):=by
   rw [List.getD_eq_getElem?_getD,List.getElem?_eq_getElem (show i < ms.length by omega)]
   rfl
  rw [e]
  split
  ·rw [List.map_singleton,List.getD_eq_getElem?_getD,List.getElem?_eq_getElem (show i < es.length by omega)]
   rfl
  ·rfl
theorem zfX (es : List En) : zbM es = (spL es).map fun j=>es.getD j (0,0):=by
 have hl:=zbn es
 have:=zfW (es:=es) (ms:=zb7 es) hl.symm (zb7 es).length (Nat.le_refl _)
 rw [List.take_of_length_le (Nat.le_refl _),List.take_of_length_le (by omega),hl] at this
 exact this
def stAt (sp : List Nat) (t : Nat) : Nat:=if t = 0 then 0 else sp.getD (t - 1) 0 + 1
theorem zlr {l : List En} (h : l.Nodup) {j : Nat} (hj : j < l.length) : l.idxOf (l.getD j (0,0)) = j:=by
 rw [List.getD_eq_getElem?_getD,List.getElem?_eq_getElem hj]
 exact List.Nodup.idxOf_getElem h j hj
theorem zic {P : En→Bool} : ∀ (l : List En) (p : Nat),(l.take p).filter P = (l.filter P).take ((l.take p).filter P).length:=by
 intro l p
 have e : l.filter P = (l.take p).filter P ++ (l.drop p).filter P:=by rw [← List.filter_append,List.take_append_drop]
 rw [e,List.take_append_of_le_length (Nat.le_refl _),List.take_of_length_le (Nat.le_refl _)]
theorem st_is {ps : List Nat} (T : zaA ps) {rows : List (List Int)} (R : za4 rows) {k c : Nat} (hk : k < ps.length + 1) (hc : par ps c = some k) : ∀ p,p≤(zaj ps rows k).length→stN (zaj ps rows c) ((zaj ps rows k).take p) = stAt (spL (zaj ps rows c)) (inN (zaj ps rows c) ((zaj ps rows k).take p))
 | 0,_=>rfl
 | p + 1,h=>by
  have ih:=st_is T R hk hc p (by omega)
  have hp : p < (zaj ps rows k).length:=by omega
  have hft:=zic (P:=fun e=>decide (e∈zaj ps rows c)) (zaj ps rows k) (p + 1)
  rw [zlL T R hk hc] at hft
  rw [zjs hp] at hft ⊢
  rw [ziA,zmP]
  by_cases z : (zaj ps rows k)[p]∈zaj ps rows c
  ·rw [if_pos z,if_pos z]
   unfold stAt
   rw [if_neg (by omega),Nat.add_sub_cancel]
   congr 1
   rw [List.filter_append,List.filter_cons_of_pos (by exact decide_eq_true z),List.filter_nil,List.length_append,List.length_singleton] at hft
   have hin : ((zaj ps rows k).take p |>.filter fun e=>decide (e∈zaj ps rows c)).length = inN (zaj ps rows c) ((zaj ps rows k).take p):=rfl
   generalize inN (zaj ps rows c) ((zaj ps rows k).take p) = t at hin ⊢
   have hg : (zbM (zaj ps rows c))[t]? = some (zaj ps rows k)[p]:=by
    have h2 : (((zaj ps rows k).take p |>.filter fun e=>decide (e∈zaj ps rows c)) ++ [(zaj ps rows k)[p]])[t]? = some (zaj ps rows k)[p]:=by
     rw [List.getElem?_append_right (by omega),hin,Nat.sub_self]
     rfl
    rw [hft,List.getElem?_take] at h2
    split at h2
    ·exact h2
    ·cases h2
   rw [zfX,List.getElem?_map] at hg
   obtain ⟨j,hj,he⟩:=Option.map_eq_some_iff.mp hg
   have hjl : j < (zaj ps rows c).length:=by
    have:=(ziH (zaj ps rows c)).lt (List.mem_of_getElem? hj)
    rw [zbn] at this
    exact this
   rw [← he,zlr (zfr T R (zaO T hc).2) hjl,List.getD_eq_getElem?_getD,hj]
   rfl
  ·rw [if_neg z,if_neg z,Nat.add_zero]
   exact ih
theorem znU {es : List En} (he : ∀ e∈es,zdu 64 e) (hri : Rise es) {t : Nat} (ht : t < (spL es).length) : stAt (spL es) (t + 1) = stAt (spL es) t + 2∨stAt (spL es) (t + 1) = stAt (spL es) t + 3:=by
 have M:=zhd he hri
 have S:=ziH es
 have g : ∀ i (h : i < (spL es).length),(spL es).getD i 0 = (spL es)[i]:=fun i h=>by
  rw [List.getD_eq_getElem?_getD,List.getElem?_eq_getElem h]
  rfl
 unfold stAt
 rw [if_neg (by omega),Nat.add_sub_cancel]
 by_cases z : t = 0
 ·subst z
  rw [if_pos rfl,g 0 ht]
  have hlen : 2≤(zb7 es).length:=by
   refine Nat.le_of_not_lt fun y=>?_
   have:=S.none M (by omega)
   rw [this] at ht
   simp at ht
  obtain ⟨_,h1,h2⟩:=S.first M hlen
  omega
 ·rw [if_neg z,g t ht,g (t - 1) (by omega)]
  have:=S.step M (t:=t - 1) (by omega)
  have e : t - 1 + 1 = t:=by omega
  have e2 : (spL es)[t - 1 + 1]'(by omega) = (spL es)[t]:=by congr 1
  rw [e2] at this
  omega
theorem znT {es : List En} (he : ∀ e∈es,zdu 64 e) (hri : Rise es) : stAt (spL es) (spL es).length≤es.length∧es.length≤stAt (spL es) (spL es).length + 1:=by
 have M:=zhd he hri
 have S:=ziH es
 have hl:=zbn es
 unfold stAt
 by_cases z : (spL es).length = 0
 ·rw [if_pos z]
  refine ⟨Nat.zero_le _,?_⟩
  refine Nat.le_of_not_lt fun y=>?_
  obtain ⟨h,_⟩:=S.first M (by omega)
  omega
 ·have g : (spL es).getD ((spL es).length - 1) 0 = (spL es)[(spL es).length - 1]'(by omega):=by
   rw [List.getD_eq_getElem?_getD,List.getElem?_eq_getElem (by omega)]
   rfl
  rw [if_neg z,g]
  have h1:=S.lt (List.getElem_mem (show (spL es).length - 1 < (spL es).length by omega))
  refine ⟨by omega,?_⟩
  have hlen : 2≤(zb7 es).length:=Nat.le_of_not_lt fun y=>z (by rw [S.none M y]; rfl)
  have h2:=S.last M hlen (by omega)
  omega
theorem zdp {f : Nat→Nat} {i : Nat} : ((List.range (i + 1)).map f).map nV = (((List.range i).map f) ++ [f i]).map nV:=by
 rw [List.range_succ,List.map_append]
 rfl
theorem zin {us : List Nat} {c : Nat} : atI ((us ++ [c]).map nV) (-1) = some (nV c):=by
 unfold atI ixN
 rw [List.map_append]
 simp
 rw [if_pos (by omega)]
 show (List.map nV us ++ [nV c])[(-1 + ((us.length : Int) + 1)).toNat]? = _
 rw [show (-1 + ((us.length : Int) + 1)).toNat = us.length by omega,List.getElem?_append_right (by rw [List.length_map]; exact Nat.le_refl _),List.length_map,Nat.sub_self]
 rfl
def znf (K : PySem.W.Frag) : Sp:=fun vs H Q _=>∃ (a : Addr) (ws : List V) (es : List En) (k : Nat),vs = [.ref a,.int k]∧H a = some (.lst ws)∧zal K H es ws∧es.length≤900∧
 ∀ (p : Addr) (H' : Hp),H p = none→Same H H'→H' p = some (.lst ((zmk k es).map nV))→Q (.ref p) H'
theorem zn6 (T : Txt K mg) (D_owns_of : DF K mg "owns_of" zdR zcr) : FC P w K mg base 1 "owns_of" zcr (znf K):=by
 refine D_owns_of.ok sc_owns_of (fun vs H Q E h=>?_) (fun f cdv A outer s H vs Q E hr h=>?_)
 ·obtain ⟨a,ws,es,k,rfl,_⟩:=h
  rfl
 obtain ⟨a,ws,es,k,rfl,ha,hw,hz,q⟩:=h
 have hwl:=hw.length
 refine ⟨_,(zaf (zaq (i:=2) sc_owns_of.nd rfl (Or.inl rfl) (zbQ (zaa zae zad)))
   (zaf (zbd PassesOwn.never rfl (zbD (pv 0)) (zas (i:=3) sc_owns_of.nd rfl (Or.inl rfl)) (zah (zbu (zd4 F.plainAttrs_list F.slot_list_append F.type_list_append za2 (pv 2) (zaa (ziT (zaC zfF (zaB zaL (pv 3) zae (fun _ _=>rfl)) (pv 1) (zaP _)) (zax zbf (zaB zaz (pv 2) (zjw zfL zae) (fun _ _=>rfl)) zae) (zaB zaz (pv 2) (zjw zfL zae) (fun _ _=>rfl))) zad)))))
   (zah (zat (pv 2))))),?_⟩
 refine ⟨(by show 1≤sizeLine; decide),fun p hp=>?_⟩
 have k0 : But p H (upd H p (.lst [V.int 0])):=fun b o n e=>by rw [zag n]; exact e
 have nap : a≠p:=zab ha hp
 refine ⟨_,rfl,a,rfl,⟨_,SqL.of (k0 _ _ nap ha)⟩,?_⟩
 refine zed (xs:=ws) (fun i σ H2=>∃ x3 : Option V,σ = [some (.ref a),some (.int k),some (.ref p),x3]∧H2 p = some (.lst (((List.range (i + 1)).map fun p=>zdI k (es.take p)).map nV))∧But p H H2) ?_ ?_ ?_ ?_
 ·exact ⟨_,rfl,zac,k0⟩
 ·rintro i σ H2 _ ⟨x3,rfl,_,k2⟩
  exact SqL.of (k2 _ _ nap ha)
 ·rintro i x σ H2 hx ⟨x3,rfl,h2,k2⟩
  obtain ⟨e,he,hhas⟩:=hw.get hx
  obtain ⟨b,y1,y2,rfl,hb,hy1,hy2⟩:=(show hasP K H e x from hhas)
  have hy1 : y1 = .int e.1:=hy1
  have hy2 : y2 = .int e.2:=hy2
  subst hy1 hy2
  have h2b:=k2 _ _ (zab hb hp) hb
  have hi:=(List.getElem?_eq_some_iff.mp he).1
  have htk : es.take (i + 1) = es.take i ++ [e]:=by
   rw [List.take_succ_eq_append_getElem hi,(List.getElem?_eq_some_iff.mp he).2]
  have hon:=zjA k (es.take i) e
  rw [← htk] at hon
  rw [zdp] at h2
  have hlen : ((((List.range i).map fun p=>zdI k (es.take p)) ++ [zdI k (es.take i)]).map nV).length < sizeLine:=zar (by
   rw [List.length_map,List.length_append,List.length_map,List.length_range,List.length_singleton]
   omega)
  have fin : ∀ v : Nat,v = zdI k (es.take (i + 1))→upd H2 p (.lst ((((List.range i).map fun p=>zdI k (es.take p)) ++ [zdI k (es.take i)]).map nV ++ [nV v])) p = some (.lst (((List.range (i + 1 + 1)).map fun p=>zdI k (es.take p)).map nV)):=fun v hv=>by
   rw [zac,zdp,List.map_append (l₂:=[zdI k (es.take (i + 1))]),zdp,hv]
   rfl
  refine ⟨_,rfl,.inl ⟨rfl,_,SqL.of h2⟩,?_⟩
  refine ⟨_,rfl,_,_,_,_,rfl,rfl,SqT.of h2b,rfl,_,rfl,rfl,_,rfl,?_⟩
  refine ite2 (fun c=>?_) (fun c=>?_)
  ·have c' : e.2 = (k : Int):=V.int.inj (of_decide_eq_true c)
   rw [if_pos c'] at hon
   refine ⟨_,rfl,_,rfl,_,_,_,_,rfl,rfl,SqL.of h2,zin,_,_,rfl,rfl,_,_,_,rfl,rfl,h2,hlen,?_⟩
   refine ⟨_,rfl,?_,fun b o n e=>by rw [zag n]; exact k2 b o n e⟩
   have:=fin (zdI k (es.take i) + 1) hon.symm
   rw [← this]
   rfl
  ·have c' : ¬ e.2 = (k : Int):=fun z=>c (by rw [z]; exact decide_eq_true rfl)
   rw [if_neg c',Nat.add_zero] at hon
   refine ⟨_,rfl,_,rfl,_,_,_,_,rfl,rfl,SqL.of h2,zin,_,_,_,rfl,rfl,h2,hlen,?_⟩
   exact ⟨_,rfl,fin _ hon.symm,fun b o n e=>by rw [zag n]; exact k2 b o n e⟩
 ·rintro σ H2 ⟨x3,rfl,h2,k2⟩
  refine ⟨_,rfl,?_⟩
  rw [← hwl] at h2
  exact q p H2 hp (fun b o e=>k2 b o (zab e hp) e) h2
def kvT : Nat→List En→List (List Key×V)
 | _,[]=>[]
 | o,e :: es=>([.inl e.1,.inl e.2],nV (o + 1)) :: kvT (o + 1) es
abbrev kE (e : En) : List Key:=[.inl e.1,.inl e.2]
theorem kE_inj {e f : En} (h : kE e = kE f) : e = f:=by
 obtain ⟨a,b⟩:=e
 obtain ⟨c,d⟩:=f
 injection h with h1 h2
 injection h2 with h2 _
 have h1 : a = c:=Sum.inl.inj h1
 have h2 : b = d:=Sum.inl.inj h2
 rw [h1,h2]
theorem zh5 (e : En) : ∀ (o : Nat) (es : List En),valV (kvT o es) (kE e) = if e∈es then some (nV (o + es.idxOf e + 1)) else none
 | _,[]=>rfl
 | o,f :: es=>by
  show valV ((kE f,nV (o + 1)) :: kvT (o + 1) es) (kE e) = _
  by_cases z : f = e
  ·subst z
   rw [zaZ rfl,if_pos List.mem_cons_self,List.idxOf_cons_self]
  ·rw [zaH (fun y=>z (kE_inj y)),zh5 e (o + 1) es]
   have hm : (e∈f :: es) = (e∈es):=propext ⟨fun h=>(List.mem_cons.mp h).resolve_left fun y=>z y.symm,fun h=>List.mem_cons_of_mem _ h⟩
   by_cases y : e∈es
   ·have ei : (f :: es).idxOf e = es.idxOf e + 1:=by
     rw [List.idxOf_cons,beq_false_of_ne z]
     rfl
    rw [if_pos y,if_pos (by rw [hm]; exact y),ei]
    congr 2
    have : o + 1 + es.idxOf e + 1 = o + (es.idxOf e + 1) + 1:=by omega
    rw [this]
   ·rw [if_neg y,if_neg (by rw [hm]; exact y)]
theorem zi8 (e : En) : ∀ (o : Nat) (es : List En),kvT o (es ++ [e]) = kvT o es ++ [(kE e,nV (o + es.length + 1))]
 | _,[]=>rfl
 | o,f :: es=>by
  show (kE f,nV (o + 1)) :: kvT (o + 1) (es ++ [e]) = (kE f,nV (o + 1)) :: (kvT (o + 1) es ++ _)
  rw [zi8 e (o + 1) es,List.length_cons,show o + 1 + es.length + 1 = o + (es.length + 1) + 1 by omega]
theorem zlg : ∀ (o : Nat) (es : List En),(kvT o es).length = es.length
 | _,[]=>rfl
 | o,e :: es=>by
  show (kvT (o + 1) es).length + 1 = es.length + 1
  rw [zlg (o + 1) es]
def ziC (K : PySem.W.Frag) : Sp:=fun vs H Q _=>∃ (a c : Addr) (ws vs' : List V) (es cs : List En),vs = [.ref a,.ref c]∧H a = some (.lst ws)∧zal K H es ws∧es.length≤900∧H c = some (.lst vs')∧zal K H cs vs'∧cs.length≤900∧cs.Nodup∧
 ∀ (p : Addr) (H' : Hp),H p = none→Same H H'→H' p = some (.lst ((zei es cs).map nV))→Q (.ref p) H'
theorem zkO (T : Txt K mg) (D_starts_of : DF K mg "starts_of" zcE zbJ) : FC P w K mg base 1 "starts_of" zbJ (ziC K):=by
 refine D_starts_of.ok sc_starts_of (fun vs H Q E h=>?_) (fun f cdv A outer s H vs Q E hr h=>?_)
 ·obtain ⟨a,c,ws,us,es,cs,rfl,_⟩:=h
  rfl
 obtain ⟨a,c,ws,us,es,cs,rfl,ha,hw,hz,hc,hu,hzc,hnd,q⟩:=h
 have hwl:=hw.length
 have hul:=hu.length
 refine ⟨_,(zaf (zaq (i:=2) sc_starts_of.nd rfl (Or.inl rfl) zmg)
   (zaf (zbd PassesOwn.never rfl (zc5 rfl T.m_enumerate (zaa (pv 1) zad)) (zg6 rfl (zbm (zas (i:=3) sc_starts_of.nd rfl (Or.inl rfl)) (zbm (zas (i:=4) sc_starts_of.nd rfl (Or.inl rfl)) zek))) (zah (zdF (zcB hr) (pv 2) (pv 4) (zax zbf (pv 3) zae) rfl)))
   (zaf (zaq (i:=5) sc_starts_of.nd rfl (Or.inl rfl) (zbQ (zaa zae zad)))
   (zaf (zbd PassesOwn.never rfl (zbD (pv 0)) (zas (i:=4) sc_starts_of.nd rfl (Or.inl rfl)) (zah (zbu (zd4 F.plainAttrs_list F.slot_list_append F.type_list_append za2 (pv 5) (zaa (zmh (zcB hr) (pv 2) (pv 4) (zaB zaz (pv 5) (zjw zfL zae) (fun _ _=>rfl)) ⟨rfl,rfl,rfl,rfl⟩) zad)))))
   (zah (zat (pv 5))))))),?_⟩
 intro D hD
 have k0 : But D H (upd H D (.dT [])):=fun b o n e=>by rw [zag n]; exact e
 have naD : a≠D:=zab ha hD
 have ncD : c≠D:=zab hc hD
 refine ⟨_,rfl,c,rfl,⟨_,SqL.of (k0 _ _ ncD hc)⟩,?_⟩
 refine zgG (xs:=us) (fun i σ H2=>∃ x3 x4 : Option V,σ = [some (.ref a),some (.ref c),some (.ref D),x3,x4,none]∧H2 D = some (.dT (kvT 0 (cs.take i)))∧But D H H2) ?_ ?_ ?_ ?_
 ·exact ⟨_,_,rfl,zac,k0⟩
 ·rintro i σ H2 _ ⟨x3,x4,rfl,_,k2⟩
  exact SqL.of (k2 _ _ ncD hc)
 ·rintro i x σ H2 r hx ⟨x3,x4,rfl,h2,k2⟩ hr
  obtain ⟨e,he,hhas⟩:=hu.get hx
  obtain ⟨b,y1,y2,rfl,hb,hy1,hy2⟩:=(show hasP K H e x from hhas)
  have hy1 : y1 = .int e.1:=hy1
  have hy2 : y2 = .int e.2:=hy2
  subst hy1 hy2
  have hi:=(List.getElem?_eq_some_iff.mp he).1
  have htk : cs.take (i + 1) = cs.take i ++ [e]:=by
   rw [List.take_succ_eq_append_getElem hi,(List.getElem?_eq_some_iff.mp he).2]
  refine ⟨r,_,rfl,SqT.of zac,rfl,_,_,rfl,_,_,rfl,rfl,?_⟩
  have sr:=zak hr (.tup [.int (i : Int),.ref b])
  have h3:=sr _ _ h2
  have k3 : But D H (upd H2 r (.tup [.int (i : Int),.ref b])):=fun b o n e=>sr b o (k2 b o n e)
  clear sr
  generalize upd H2 r (.tup [.int (i : Int),.ref b]) = H3 at h3 k3 ⊢
  have h3b:=k3 _ _ (zab hb hD) hb
  have hnot : e∉cs.take i:=fun z=>by
   have hn2:=hnd
   rw [← List.take_append_drop (i + 1) cs,htk] at hn2
   have:=(List.nodup_append.mp (List.nodup_append.mp hn2).1).2.2 e z e (List.mem_singleton.mpr rfl)
   exact this rfl
  refine ⟨_,rfl,_,_,rfl,rfl,_,rfl,_,rfl,D,_,rfl,DPut.t (k:=kE e) h3 h3b (zar (by rw [zlg,List.length_take]; omega)),?_⟩
  refine ⟨_,_,rfl,?_,fun b o n e=>by rw [zag n]; exact k3 b o n e⟩
  rw [zac,zcI _ (by rw [zh5,if_neg hnot]),htk,zi8,List.length_take,Nat.min_eq_left (by omega),Nat.zero_add]
  rfl
 ·rintro σ H2 ⟨x3,x4,rfl,h2,k2⟩
  rw [List.take_of_length_le (by omega)] at h2
  refine ⟨(by show 1≤sizeLine; decide),fun p hp=>?_⟩
  have nDp : D≠p:=zab h2 hp
  have s2 : Same H H2:=fun b o e=>k2 b o (zab e hD) e
  have k3 : But p H2 (upd H2 p (.lst [V.int 0])):=fun b o n e=>by rw [zag n]; exact e
  have h2a:=s2 _ _ ha
  refine ⟨_,rfl,a,rfl,⟨_,SqL.of (k3 _ _ (zab h2a hp) h2a)⟩,?_⟩
  refine zed (xs:=ws) (fun i σ H4=>∃ x4 : Option V,σ = [some (.ref a),some (.ref c),some (.ref D),x3,x4,some (.ref p)]∧H4 p = some (.lst (((List.range (i + 1)).map fun p=>stN cs (es.take p)).map nV))∧But p H2 H4) ?_ ?_ ?_ ?_
  ·exact ⟨_,rfl,zac,k3⟩
  ·rintro i σ H4 _ ⟨x4,rfl,_,k4⟩
   exact SqL.of (k4 _ _ (zab h2a hp) h2a)
  ·rintro i x σ H4 hx ⟨x4,rfl,h4,k4⟩
   obtain ⟨e,he,hhas⟩:=hw.get hx
   obtain ⟨b,y1,y2,rfl,hb,hy1,hy2⟩:=(show hasP K H e x from hhas)
   have hy1 : y1 = .int e.1:=hy1
   have hy2 : y2 = .int e.2:=hy2
   subst hy1 hy2
   have h2b:=s2 _ _ hb
   have h4b:=k4 _ _ (zab h2b hp) h2b
   have h4D:=k4 _ _ nDp h2
   have hi:=(List.getElem?_eq_some_iff.mp he).1
   have htk : es.take (i + 1) = es.take i ++ [e]:=by
    rw [List.take_succ_eq_append_getElem hi,(List.getElem?_eq_some_iff.mp he).2]
   have hon:=ziA cs (es.take i) e
   rw [← htk] at hon
   rw [zdp] at h4
   have hlen : ((((List.range i).map fun p=>stN cs (es.take p)) ++ [stN cs (es.take i)]).map nV).length < sizeLine:=zar (by
    rw [List.length_map,List.length_append,List.length_map,List.length_range,List.length_singleton]
    omega)
   refine ⟨_,rfl,.inl ⟨rfl,_,SqL.of h4⟩,?_⟩
   refine ⟨_,rfl,D,rfl,.inr ⟨_,.inl h4D⟩,_,rfl,_,rfl,_,rfl,_,_,_,_,rfl,rfl,SqL.of h4,zin,_,DGet.t (k:=kE e) h4D h4b,?_⟩
   have ev : (valV (kvT 0 cs) (kE e)).getD (nV (stN cs (es.take i))) = nV (stN cs (es.take (i + 1))):=by
    rw [zh5,hon]
    by_cases z : e∈cs
    ·rw [if_pos z,if_pos z,Nat.zero_add]
     rfl
    ·rw [if_neg z,if_neg z]
     rfl
   rw [ev]
   refine ⟨_,_,_,rfl,rfl,h4,hlen,?_⟩
   refine ⟨_,rfl,?_,fun b o n e=>by rw [zag n]; exact k4 b o n e⟩
   rw [zac,zdp,List.map_append (l₂:=[stN cs (es.take (i + 1))]),zdp]
   rfl
  ·rintro σ H4 ⟨x4,rfl,h4,k4⟩
   refine ⟨_,rfl,?_⟩
   rw [← hwl] at h4
   refine q p H4 (s2.free hp) (s2.trans fun b o e=>k4 b o (zab e hp) e) h4
theorem zaw {α β : Type} {F G : α→β→Prop} (h : ∀ a b,F a b→G a b) : ∀ {l : List α} {m : List β},Paired F l m→Paired G l m
 | _,_,.nil=>.nil
 | _,_,.cons a t=>.cons (h _ _ a) (zaw h t)
theorem zb4 {α β : Type} {F : α→β→Prop} {a : α} {b : β} : ∀ {l : List α} {m : List β},Paired F l m→F a b→Paired F (l ++ [a]) (m ++ [b])
 | _,_,.nil,h=>.cons h .nil
 | _,_,.cons a t,h=>.cons a (zb4 t h)
theorem zdm {α β : Type} {F : α→β→Prop} : ∀ {l : List α} {m : List β} {i : Nat} {a : α},Paired F l m→l[i]? = some a→∃ b,m[i]? = some b∧F a b
 | _,_,i,a,.nil,h=>by simp at h
 | _ :: _,b :: _,0,a,.cons h t,e=>by
  have:=Option.some.inj (show some _ = some a from e)
  subst this
  exact ⟨b,rfl,h⟩
 | _ :: _,_ :: _,i + 1,a,.cons h t,e=>by
  obtain ⟨q,h1,h2⟩:=zdm (i:=i) t (by simpa using e)
  exact ⟨q,by simpa using h1,h2⟩
theorem zdH {α β : Type} {F : α→β→Prop} : ∀ {l : List α} {m : List β} {i : Nat} {b : β},Paired F l m→m[i]? = some b→∃ a,l[i]? = some a∧F a b
 | _,_,i,a,.nil,h=>by simp at h
 | a :: _,_ :: _,0,b,.cons h t,e=>by
  have:=Option.some.inj (show some _ = some b from e)
  subst this
  exact ⟨a,rfl,h⟩
 | _ :: _,_ :: _,i + 1,a,.cons h t,e=>by
  obtain ⟨q,h1,h2⟩:=zdH (i:=i) t (by simpa using e)
  exact ⟨q,by simpa using h1,h2⟩
def zbp (Av : List Addr) (H : Hp) (es : List En) (ps : List Nat) (rows : List (List Int)) (c : Nat) (x : V) : Prop:=∃ j s,x = .ref j∧s∉Av∧H j = some (.tup [.int (c : Int),.ref s])∧H s = some (.lst ((zei es (zaj ps rows c)).map nV))
def BrAt (Av : List Addr) (H : Hp) (ps : List Nat) (rows : List (List Int)) (k : Nat) (x : V) : Prop:=∃ b o j xs,x = .ref b∧o∉Av∧j∉Av∧H b = some (.tup [.int ((zaj ps rows k).length : Nat),.ref o,.ref j])∧H o = some (.lst ((zmk k (zaj ps rows k)).map nV))∧H j = some (.lst xs)∧Paired (zbp Av H (zaj ps rows k) ps rows) (zaF ps k (ps.length + 1)) xs
theorem zbp.same {Av : List Addr} {H H' : Hp} {es : List En} {ps : List Nat} {rows : List (List Int)} {c : Nat} {x : V} (e : Same H H') (h : zbp Av H es ps rows c x) : zbp Av H' es ps rows c x:=by
 obtain ⟨j,s,h1,h2,h3,h4⟩:=h
 exact ⟨j,s,h1,h2,e _ _ h3,e _ _ h4⟩
theorem zbp.but {p : Addr} {Av : List Addr} {H H' : Hp} {es : List En} {ps : List Nat} {rows : List (List Int)} {c : Nat} {x : V} {zs : List V} (k : But p H H') (hp : p∈Av) (hz : H p = some (.lst zs)) (h : zbp Av H es ps rows c x) : zbp Av H' es ps rows c x:=by
 obtain ⟨j,s,h1,h2,h3,h4⟩:=h
 exact ⟨j,s,h1,h2,k _ _ (fun z=>by rw [z,hz] at h3; cases h3) h3,k _ _ (fun z=>h2 (z ▸ hp)) h4⟩
theorem zbp.less {Av Av' : List Addr} {H : Hp} {es : List En} {ps : List Nat} {rows : List (List Int)} {c : Nat} {x : V} (s : ∀ a∈Av',a∈Av) (h : zbp Av H es ps rows c x) : zbp Av' H es ps rows c x:=by
 obtain ⟨j,q,h1,h2,h3,h4⟩:=h
 exact ⟨j,q,h1,fun z=>h2 (s _ z),h3,h4⟩
theorem BrAt.same {Av : List Addr} {H H' : Hp} {ps : List Nat} {rows : List (List Int)} {k : Nat} {x : V} (e : Same H H') (h : BrAt Av H ps rows k x) : BrAt Av H' ps rows k x:=by
 obtain ⟨b,o,j,xs,h1,h2,h3,h4,h5,h6,h7⟩:=h
 exact ⟨b,o,j,xs,h1,h2,h3,e _ _ h4,e _ _ h5,e _ _ h6,zaw (fun a b=>zbp.same e) h7⟩
theorem BrAt.but {p : Addr} {Av : List Addr} {H H' : Hp} {ps : List Nat} {rows : List (List Int)} {k : Nat} {x : V} {zs : List V} (kk : But p H H') (hp : p∈Av) (hz : H p = some (.lst zs)) (h : BrAt Av H ps rows k x) : BrAt Av H' ps rows k x:=by
 obtain ⟨b,o,j,xs,h1,h2,h3,h4,h5,h6,h7⟩:=h
 exact ⟨b,o,j,xs,h1,h2,h3,kk _ _ (fun z=>by rw [z,hz] at h4; cases h4) h4,kk _ _ (fun z=>h2 (z ▸ hp)) h5,kk _ _ (fun z=>h3 (z ▸ hp)) h6,zaw (fun a b=>zbp.but kk hp hz) h7⟩
theorem BrAt.less {Av : List Addr} {H : Hp} {ps : List Nat} {rows : List (List Int)} {k : Nat} {x : V} (h : BrAt Av H ps rows k x) : BrAt [] H ps rows k x:=by
 obtain ⟨b,o,j,xs,h1,h2,h3,h4,h5,h6,h7⟩:=h
 exact ⟨b,o,j,xs,h1,(fun z=>nomatch z),(fun z=>nomatch z),h4,h5,h6,zaw (fun a b=>zbp.less (fun a z=>absurd z List.not_mem_nil)) h7⟩
def spBr (K : PySem.W.Frag) : Sp:=fun vs H Q _=>∃ (st : Addr) (ps : List Nat) (rows : List (List Int)) (t rs : Addr) (as : List Addr),vs = [.ref st]∧zbi H st ps rows t rs as∧
 ∀ (p : Addr) (xs : List V) (H' : Hp),H p = none→Same H H'→H' p = some (.lst xs)→Paired (BrAt [] H' ps rows) (List.range (ps.length + 1)) xs→Q (.ref p) H'
def znl (K : PySem.W.Frag) : Sp:=fun vs H Q _=>∃ (st : Addr) (ps : List Nat) (rows : List (List Int)) (t rs : Addr) (as : List Addr) (pf : Addr) (qs : List Addr),vs = [.ref t,.ref pf]∧zbi H st ps rows t rs as∧H pf = some (.lst (qs.map V.ref))∧zau K H ps rows (List.range (ps.length + 1)) qs∧
 ∀ (p : Addr) (xs : List V) (H' : Hp),H p = none→Same H H'→H' p = some (.lst xs)→Paired (BrAt [] H' ps rows) (List.range (ps.length + 1)) xs→Q (.ref p) H'
theorem zob (T : Txt K mg) (D_bridges_of : DF K mg "bridges_of" zcg zbB) (F_children : FC P w K mg base 1 "children" zbH (zej K)) (F_starts_of : FC P w K mg base 1 "starts_of" zbJ (ziC K)) (F_owns_of : FC P w K mg base 1 "owns_of" zcr (znf K)) : FC P w K mg base 2 "bridges_of" zbB (znl K):=by
 refine D_bridges_of.ok sc_bridges_of (fun vs H Q E h=>?_) (fun f cdv A outer s H vs Q E hr h=>?_)
 ·obtain ⟨st,ps,rows,t,rs,as,pf,qs,rfl,_⟩:=h
  rfl
 obtain ⟨st,ps,rows,t,rs,as,pf,qs,rfl,S,h1,hF,q⟩:=h
 refine ⟨_,(zaf (zaq (i:=2) sc_bridges_of.nd rfl (Or.inl rfl) (zbQ zad))
   (zaf (zbd PassesOwn.never rfl (zc5 rfl T.m_enumerate (zaa (pv 1) zad)) (zg6 rfl (zbm (zas (i:=3) sc_bridges_of.nd rfl (Or.inl rfl)) (zbm (zas (i:=4) sc_bridges_of.nd rfl (Or.inr rfl)) zek))) (zaf (zgo (i:=5) (N:=["child","full","fulls"]) (own:=1) (cap:=[4,1]) sc_bridges_of.nd rfl rfl rfl (zbD (zaE F_children hr (zaa (pv 0) (zaa (pv 3) zad)))) ⟨rfl,rfl,rfl,rfl,rfl,rfl⟩ (fun _ _ _ _ _=>(zas (i:=0) (show List.Nodup (["child","full","fulls"] : List Str) by decide +kernel) rfl (Or.inl rfl))) (fun _ _ _ _ _=>zbY) (fun _ _ _ _ _=>(zb2 (zaa (pv 0) (zaa (zaE F_starts_of hr (zaa (pv 1) (zaa (zaB (zmK (K:=K)) (pv 2) (pv 0) (fun _ _=>rfl)) zad))) zad)))))
   (zah (zbu (zd4 F.plainAttrs_list F.slot_list_append F.type_list_append za2 (pv 2) (zaa (zb2 (zaa (zap zam rfl T.m_len boot_len (zaa (pv 4) zad)) (zaa (zaE F_owns_of hr (zaa (pv 4) (zaa (pv 3) zad))) (zaa (pv 5) zad)))) zad))))))
   (zah (zat (pv 2))))),?_⟩
 have hfew:=S.few
 have hkeys:=S.keys
 have hql:=hF.length
 rw [List.length_range] at hql
 refine ⟨(by show 0≤sizeLine; decide),fun p hp=>?_⟩
 have k0 : But p H (upd H p (.lst [])):=fun b o n e=>by rw [zag n]; exact e
 have npf : pf≠p:=zab h1 hp
 refine ⟨_,rfl,pf,rfl,⟨_,SqL.of (k0 _ _ npf h1)⟩,?_⟩
 refine zgG (xs:=qs.map V.ref) (fun i σ H2=>∃ (xs : List V) (x4 x5 x6 : Option V),σ = [some (.ref t),some (.ref pf),some (.ref p),x4,x5,x6]∧H2 p = some (.lst xs)∧Paired (BrAt [p] H2 ps rows) (List.range i) xs∧But p H H2) ?_ ?_ ?_ ?_
 ·exact ⟨[],_,_,_,rfl,zac,.nil,k0⟩
 ·rintro i σ H2 _ ⟨xs,x4,x5,x6,rfl,_,_,k2⟩
  exact SqL.of (k2 _ _ npf h1)
 ·rintro i x σ H2 r hx ⟨xs,x4,x5,x6,rfl,h2,hB,k2⟩ hr
  rw [List.getElem?_map] at hx
  obtain ⟨qq,hqi,rfl⟩:=Option.map_eq_some_iff.mp hx
  have hi : i < ps.length + 1:=by
   have:=(List.getElem?_eq_some_iff.mp hqi).1
   omega
  have hxl : xs.length = i:=by
   have:=Paired.length hB
   rw [List.length_range] at this
   exact this.symm
  have noP : ∀ {b : Addr} {o : HO},H b = some o→b≠p:=fun e=>zab e hp
  have s12 : Same H H2:=fun b o e=>k2 b o (noP e) e
  have S2:=S.same s12
  have F2:=hF.same s12
  have h2f:=s12 _ _ h1
  obtain ⟨q2,hq2,ws,hq3,hw3⟩:=F2.get (i:=i) (j:=i) (List.getElem?_range hi)
  rw [hqi] at hq2
  have:=Option.some.inj hq2
  subst this
  refine ⟨r,_,rfl,SqT.of zac,rfl,_,_,rfl,_,_,rfl,rfl,?_⟩
  have sr:=zak hr (.tup [.int (i : Int),.ref qq])
  generalize upd H2 r (.tup [.int (i : Int),.ref qq]) = H3 at sr ⊢
  refine ⟨_,rfl,_,rfl,t,ps,i,rfl,sr _ _ S2.tr,by omega,fun c H4 hc s4 h4=>?_⟩
  have s24 : Same H2 H4:=sr.trans s4
  refine ⟨c,rfl,⟨_,SqL.of h4⟩,fun D hD=>?_⟩
  have hpD : p≠D:=zab (s24 _ _ h2) hD
  have F4:=F2.same s24
  have h4q:=s24 _ _ hq3
  have h4w:=hw3.mono s24.ext
  have hfl:=zem S.T S.len (rows:=rows) hi
  refine zbG (xs:=(zaF ps i (ps.length + 1)).map nV) (fun m σ H5=>∃ (ys : List V) (x0 : Option V),σ = [x0,some (.ref qq),some (.ref pf)]∧H5 D = some (.lst ys)∧Paired (zbp [p,D] H5 (zaj ps rows i) ps rows) ((zaF ps i (ps.length + 1)).take m) ys∧But D H4 H5) ?_ ?_ ?_ ?_
  ·exact ⟨[],_,rfl,zac,.nil,fun b o n e=>by rw [zag n]; exact e⟩
  ·rintro m σ H5 _ ⟨ys,x0,rfl,_,_,k5⟩
   exact k5.sq (SqL.of h4) hD
  ·rintro m u x σ H5 hx hm ⟨ys,x0,rfl,h5,hJ,k5⟩
   obtain ⟨hmi,rfl⟩:=zfY hx
   have hcl:=zdr ps i (ps.length + 1)
   have hyl:=Paired.length hJ
   rw [List.length_take] at hyl
   rw [List.length_map] at hm
   have hcm : (zaF ps i (ps.length + 1))[m]? = some ((zaF ps i (ps.length + 1)).getD m 0):=by
    rw [List.getD_eq_getElem?_getD,List.getElem?_eq_getElem hmi]
    rfl
   have htk2 : (zaF ps i (ps.length + 1)).take (m + 1) = (zaF ps i (ps.length + 1)).take m ++ [(zaF ps i (ps.length + 1)).getD m 0]:=by
    rw [List.take_succ_eq_append_getElem hmi,List.getD_eq_getElem?_getD,List.getElem?_eq_getElem hmi]
    rfl
   rw [htk2]
   generalize (zaF ps i (ps.length + 1)).getD m 0 = ch at hcm ⊢
   obtain ⟨hchn,hchp⟩:=zay.mp (List.mem_of_getElem? hcm)
   have s45 : Same H4 H5:=fun b o e=>k5 b o (zab e hD) e
   have F5:=F4.same s45
   obtain ⟨qc,hqc,wc,hqc3,hwc⟩:=F5.get (i:=ch) (j:=ch) (List.getElem?_range hchn)
   have hfc:=zem S.T S.len (rows:=rows) hchn
   refine zdA ?_
   refine ⟨_,rfl,_,rfl,_,rfl,_,rfl,_,_,_,_,rfl,rfl,SqL.of (s45 _ _ (s24 _ _ h2f)),zhF hqc,?_⟩
   refine ⟨qq,qc,ws,wc,zaj ps rows i,zaj ps rows ch,rfl,s45 _ _ h4q,h4w.mono s45.ext,by omega,hqc3,hwc,by omega,zfr S.T S.R hchn,fun sa H6 hsa s6 h6=>?_⟩
   refine ⟨(by show 2≤sizeLine; decide),fun j hj=>?_⟩
   have sj:=zak hj (.tup [.int (ch : Int),.ref sa])
   have hjj : upd H6 j (.tup [.int (ch : Int),.ref sa]) j = some (.tup [.int (ch : Int),.ref sa]):=zac
   generalize upd H6 j (.tup [.int (ch : Int),.ref sa]) = H7 at sj hjj ⊢
   have s57:=s6.trans sj
   have h7D:=s57 _ _ h5
   have nsaD : sa≠D:=Ne.symm (zab h5 hsa)
   have nsap : sa≠p:=Ne.symm (zab (s45 _ _ (s24 _ _ h2)) hsa)
   have kD : But D H7 (upd H7 D (.lst (ys ++ [.ref j]))):=fun b o n e=>by rw [zag n]; exact e
   refine ⟨_,h7D,zar (by omega),u - 1,by omega,by rw [List.length_map]; omega,ys ++ [.ref j],_,rfl,zac,?_,fun b o n e=>by rw [zag n]; exact s57 _ _ (k5 b o n e)⟩
   refine zb4 (zaw (fun a b h=>zbp.but kD (List.mem_cons_of_mem _ List.mem_cons_self) h7D (zbp.same s57 h)) hJ) ?_
   refine zbp.but kD (List.mem_cons_of_mem _ List.mem_cons_self) h7D ⟨j,sa,rfl,?_,hjj,sj _ _ h6⟩
   intro z
   rcases List.mem_cons.mp z with z | z
   ·exact nsap z
   ·exact nsaD (List.mem_singleton.mp z)
  ·rintro σ H5 ⟨ys,x0,rfl,h5,hJ,k5⟩
   rw [List.length_map,List.take_of_length_le (Nat.le_refl _)] at hJ
   have s45 : Same H4 H5:=fun b o e=>k5 b o (zab e hD) e
   have s25:=s24.trans s45
   refine ⟨_,rfl,.inl ⟨rfl,_,SqL.of (s25 _ _ h2)⟩,_,rfl,_,_,rfl,.inl (SqL.of (s45 _ _ h4q)),?_⟩
   have hwl:=h4w.length
   refine ⟨_,rfl,_,rfl,qq,ws,zaj ps rows i,i,rfl,s45 _ _ h4q,h4w.mono s45.ext,by omega,fun o H6 ho s6 h6=>?_⟩
   refine ⟨_,rfl,(by show 3≤sizeLine; decide),fun b hb=>?_⟩
   have sb:=zak hb (.tup [.int ((ws.length : Nat) : Int),.ref o,.ref D])
   have hbb : upd H6 b (.tup [.int ((ws.length : Nat) : Int),.ref o,.ref D]) b = some (.tup [.int ((ws.length : Nat) : Int),.ref o,.ref D]):=zac
   generalize upd H6 b (.tup [.int ((ws.length : Nat) : Int),.ref o,.ref D]) = H7 at sb hbb ⊢
   have s57:=s6.trans sb
   have s27:=s25.trans s57
   have h7p:=s27 _ _ h2
   have kp : But p H7 (upd H7 p (.lst (xs ++ [.ref b]))):=fun b o n e=>by rw [zag n]; exact e
   have nop : o≠p:=Ne.symm (zab (s25 _ _ h2) ho)
   refine ⟨_,_,_,rfl,rfl,h7p,zar (by omega),?_⟩
   refine ⟨xs ++ [.ref b],_,_,_,rfl,zac,?_,fun b o n e=>by rw [zag n]; exact s27 _ _ (k2 b o n e)⟩
   rw [List.range_succ]
   refine zb4 (zaw (fun a b h=>BrAt.but kp List.mem_cons_self h7p (BrAt.same s27 h)) hB) ?_
   refine BrAt.but kp List.mem_cons_self h7p ⟨b,o,D,ys,rfl,fun z=>nop (List.mem_singleton.mp z),fun z=>hpD (List.mem_singleton.mp z).symm,?_,sb _ _ h6,s57 _ _ h5,?_⟩
   ·rw [hbb,hwl]
   ·exact zaw (fun a b h=>zbp.same s57 (zbp.less (fun a z=>by rw [List.mem_singleton.mp z]; exact List.mem_cons_self) h)) hJ
 ·rintro σ H2 ⟨xs,x4,x5,x6,rfl,h2,hB,k2⟩
  refine ⟨_,rfl,?_⟩
  rw [List.length_map,← hql] at hB
  refine q p xs H2 hp (fun b o e=>k2 b o (zab e hp) e) h2 (zaw (fun a b=>BrAt.less) hB)
theorem zjE (T : Txt K mg) (D_bridges : DF K mg "bridges" zdX zcw) (F_full_rows : FC P w K mg base 8 "full_rows" zbx (zhN K)) (F_bridges_of : FC P w K mg base 2 "bridges_of" zbB (znl K)) : FC P w K mg base 9 "bridges" zcw (spBr K):=by
 refine D_bridges.ok sc_bridges (fun vs H Q E h=>?_) (fun f cdv A outer s H vs Q E hr h=>?_)
 ·obtain ⟨st,ps,rows,t,rs,as,rfl,_⟩:=h
  rfl
 obtain ⟨st,ps,rows,t,rs,as,rfl,S,q⟩:=h
 refine ⟨_,(zah (zat (zaE F_bridges_of hr (zaa (zaB zaL (pv 0) zae (fun _ _=>rfl)) (zaa (zaE F_full_rows hr (zaa (pv 0) zad)) zad))))),?_⟩
 refine ⟨_,rfl,_,_,_,_,rfl,rfl,SqT.of S.st,rfl,?_⟩
 refine ⟨_,rfl,st,ps,rows,t,rs,as,rfl,S,fun pf qs H1 hpf s1 h1 hqn hqf hpq hF=>?_⟩
 exact ⟨st,ps,rows,t,rs,as,pf,qs,rfl,S.same s1,h1,hF,fun p xs H2 hp s2 h2 hB=>q p xs H2 (s1.free hp) (s1.trans s2) h2 hB⟩
theorem zlj {m : Nat} : ∀ {rows : List (List Int)},(∀ row∈rows,row.length≤m)→zfG rows≤rows.length * m
 | [],_=>Nat.zero_le _
 | r :: rows,h=>by
  have h1:=h r List.mem_cons_self
  have h2:=zlj (m:=m) (rows:=rows) fun x hx=>h x (List.mem_cons_of_mem _ hx)
  unfold zfG at h2 ⊢
  rw [List.map_cons,List.sum_cons,List.length_cons,Nat.succ_mul]
  omega
def zkl (K : PySem.W.Frag) : Sp:=fun vs H Q _=>∃ (d L : Addr) (m kk : Nat),vs = [.ref d,.int m,.int kk]∧0 < m∧m≤40∧kk≤10∧m * kk≤63∧LS K L d H∧
 ∀ (st : Addr) (ps : List Nat) (rows : List (List Int)) (t rs : Addr) (as : List Addr) (H' : Hp),H st = none→zbi H' st ps rows t rs as→Keep d H H'→LS K L d H'→Q (.ref st) H'
theorem zkT (T : Txt K mg) (D_l_stand : DF K mg "_law_stand" zdS zcs) (F_l_tree : FC P w K mg base 3 "_law_tree" zcZ (znd K)) (F_l_rows : FC P w K mg base 5 "_law_rows" zc0 (zne K)) : FC P w K mg base 6 "_law_stand" zcs (zkl K):=by
 refine D_l_stand.ok sc_l_stand (fun vs H Q E h=>?_) (fun f cdv A outer s H vs Q E hr h=>?_)
 ·obtain ⟨d,L,m,kk,rfl,_⟩:=h
  rfl
 obtain ⟨d,L,m,kk,rfl,hm0,hm,hkk,hmk,hs,q⟩:=h
 refine ⟨_,(zaf (zaq (i:=3) sc_l_stand.nd rfl (Or.inl rfl) (zaE F_l_tree hr (zaa (pv 0) (zaa (pv 1) zad))))
   (zah (zat (zb2 (zaa (pv 3) (zaa (zaE F_l_rows hr (zaa (pv 0) (zaa (zap zam rfl T.m_len boot_len (zaa (pv 3) zad)) (zaa (pv 2) zad)))) zad)))))),?_⟩
 refine ⟨_,rfl,_,rfl,d,L,m,rfl,⟨by omega,by omega⟩,hs,fun t ps H1 ht hT hl h1 k1 s1=>?_⟩
 refine ⟨_,rfl,_,rfl,_,rfl,_,_,rfl,.inr (SqT.of h1),_,rfl,?_⟩
 refine ⟨d,L,(zco ps).length,kk,rfl,by rw [zav]; omega,by omega,s1,fun r as rows H2 hr2 hA hrl hR hlen h2 k2 s2=>?_⟩
 rw [zav] at hrl
 have ntd : t≠d:=fun z=>by
  obtain ⟨_,_,_,e,_⟩:=s1.ex
  rw [← z,h1] at e
  cases e
 refine ⟨(by show 2≤sizeLine; decide),fun st hst=>?_⟩
 have ss:=zak hst (.tup [.ref t,.ref r])
 have hk:=zlj hlen
 have hk2 : rows.length * kk≤m * kk:=Nat.mul_le_mul_right kk (by omega)
 have std : st≠d:=fun z=>by
  obtain ⟨_,_,_,e,_⟩:=s2.ex
  rw [← z,hst] at e
  cases e
 refine q st ps rows t r as _ ?_ ⟨zac,ss _ _ (k2 _ _ ntd h1),ss _ _ h2,hA.ext ss,hrl,hT,hR,by omega,by omega⟩ (fun b o n e=>ss _ _ (k2 _ _ n (k1 _ _ n e))) (s2.same ss)
 cases e : H st with
 | none=>rfl
 | some o=>
  have:=k2 _ _ std (k1 _ _ std e)
  rw [hst] at this
  cases this
def zan (es : List (Int×Int)) (key : Int) : Nat:=(es.filter fun e=>decide (e.1 < key)).length
theorem zlW {es : List (Int×Int)} {key : Int} {m : Nat} (hm : m≤es.length) (h1 : ∀ i,i < m→decide ((es.getD i (0,0)).1 < key) = true) (h2 : ∀ i,m≤i→i < es.length→decide ((es.getD i (0,0)).1 < key) = false) : zan es key = m:=by
 unfold zan
 conv=>lhs; rw [← List.take_append_drop m es]
 rw [List.filter_append,List.length_append]
 have e1 : (es.take m).filter (fun e=>decide (e.1 < key)) = es.take m:=by
  rw [List.filter_eq_self]
  intro x hx
  obtain ⟨i,hi,rfl⟩:=List.getElem_of_mem hx
  rw [List.length_take] at hi
  have:=h1 i (by omega)
  rw [List.getD_eq_getElem?_getD,List.getElem?_eq_getElem (by omega)] at this
  rw [List.getElem_take]
  exact this
 have e2 : (es.drop m).filter (fun e=>decide (e.1 < key)) = []:=by
  rw [List.filter_eq_nil_iff]
  intro x hx
  obtain ⟨i,hi,rfl⟩:=List.getElem_of_mem hx
  rw [List.length_drop] at hi
  have:=h2 (m + i) (by omega) (by omega)
  rw [List.getD_eq_getElem?_getD,List.getElem?_eq_getElem (by omega)] at this
  rw [List.getElem_drop]
  intro z
  rw [show decide (es[m + i].1 < key) = false from this] at z
  cases z
 rw [e1,e2,List.length_take,List.length_nil]
 omega
theorem zdZ {es : List (Int×Int)} (h : Rise es) : es.Pairwise (fun a b=>a.1≤b.1):=h.imp fun {a b} h=>by
 have:=zcm.mp h
 omega
theorem zca (es : List (Int×Int)) (key : Int) : zan es key≤es.length:=List.length_filter_le _ _
theorem zcP {key : Int} : ∀ {es : List (Int×Int)},es.Pairwise (fun a b=>a.1≤b.1)→(∀ e∈es.take (zan es key),e.1 < key)∧∀ e∈es.drop (zan es key),¬ e.1 < key
 | [],_=>⟨fun e he=>(by simp at he),fun e he=>(by simp at he)⟩
 | a :: es,h=>by
  rw [List.pairwise_cons] at h
  obtain ⟨h1,h2⟩:=zcP (key:=key) h.2
  by_cases c : a.1 < key
  ·have e : zan (a :: es) key = zan es key + 1:=by
    unfold zan
    rw [List.filter_cons_of_pos (by simpa using c),List.length_cons]
   rw [e,List.take_succ_cons,List.drop_succ_cons]
   refine ⟨fun x hx=>?_,h2⟩
   rcases List.mem_cons.mp hx with z | z
   ·rw [z]
    exact c
   ·exact h1 x z
  ·have all : ∀ x∈a :: es,¬ x.1 < key:=fun x hx=>by
    rcases List.mem_cons.mp hx with z | z
    ·rw [z]
     exact c
    ·have:=h.1 x z
     omega
   have e : zan (a :: es) key = 0:=by
    unfold zan
    rw [List.filter_eq_nil_iff.mpr fun x hx=>by simpa using all x hx]
    rfl
   rw [e]
   exact ⟨fun x hx=>(by simp at hx),fun x hx=>all x (by simpa using hx)⟩
theorem zeE {es : List (Int×Int)} {key : Int} (h : es.Pairwise (fun a b=>a.1≤b.1)) : es.take (zan es key) = es.filter fun e=>decide (e.1 < key):=by
 obtain ⟨h1,h2⟩:=zcP (key:=key) h
 conv=>rhs; rw [← List.take_append_drop (zan es key) es]
 rw [List.filter_append,List.filter_eq_self.mpr fun e he=>decide_eq_true (h1 e he),List.filter_eq_nil_iff.mpr fun e he z=>h2 e he (of_decide_eq_true z),List.append_nil]
theorem zgN {es : List (Int×Int)} {key : Int} (h : es.Pairwise (fun a b=>a.1≤b.1)) {i : Nat} (hi : i < es.length) : (i < zan es key→es[i].1 < key)∧(zan es key≤i→¬ es[i].1 < key):=by
 obtain ⟨h1,h2⟩:=zcP (key:=key) h
 refine ⟨fun z=>h1 _ ?_,fun z=>h2 _ ?_⟩
 ·exact List.mem_take_iff_getElem.mpr ⟨i,by omega,rfl⟩
 ·refine List.mem_drop_iff_getElem.mpr ⟨i - zan es key,by omega,?_⟩
  congr 1
  omega
structure NearOk (C F hd : List (Int×Int)) (key : Int) (st : Nat) : Prop where
 lo : st≤zan C key
 hi : zan C key≤st + 2
 none : st = 0→∀ e∈hd,¬ e.1 < key
 some : st≠0→∃ h : st - 1 < C.length,C[st - 1]∈hd∧C[st - 1].1 < key∧C[st - 1]∈F
theorem zkY {ps : List Nat} (T : zaA ps) {rows : List (List Int)} (R : za4 rows) (few : ps.length≤40) {k c : Nat} (hk : k < ps.length + 1) (hc : par ps c = some k) (key : Int) :
  NearOk (zaj ps rows c) (zaj ps rows k) (zbM (zaj ps rows c)) key (stN (zaj ps rows c) ((zaj ps rows k).take (zan (zaj ps rows k) key))):=by
 have hcn:=(zaO T hc).2
 have hst:=st_is T R hk hc (rows:=rows) (zan (zaj ps rows k) key) (zca _ _)
 have hF:=zdZ (za3 T R hk)
 have hC:=zdZ (za3 T R hcn)
 have hcome:=zlL T R hk hc (rows:=rows)
 have hgr:=fun t=>znU (zfs T R few hcn) (za3 T R hcn) (t:=t)
 have hla:=znT (zfs T R few hcn) (za3 T R hcn)
 have hsub:=zbh (zaj ps rows c)
 have hpick:=zfX (zaj ps rows c)
 have hspl : ∀ j∈spL (zaj ps rows c),j < (zaj ps rows c).length:=fun j hj=>by
  have:=(ziH (zaj ps rows c)).lt hj
  rw [zbn] at this
  exact this
 have ht : inN (zaj ps rows c) ((zaj ps rows k).take (zan (zaj ps rows k) key)) = zan (zbM (zaj ps rows c)) key:=by
  unfold inN
  rw [zeE hF,← hcome]
  unfold zan
  rw [List.filter_filter,List.filter_filter]
  congr 2
  funext e
  rw [Bool.and_comm]
 rw [hst,ht]
 have hmem : ∀ e∈zbM (zaj ps rows c),e∈zaj ps rows k:=fun e he=>by
  rw [← hcome] at he
  exact (List.mem_filter.mp he).1
 clear hst ht hcome hF
 generalize zaj ps rows k = F at hmem ⊢
 generalize zaj ps rows c = C at *
 have hhd : (zbM C).Pairwise (fun a b=>a.1≤b.1):=hC.sublist hsub
 have hlen : (zbM C).length = (spL C).length:=by rw [hpick,List.length_map]
 have hti:=zca (zbM C) key
 have hat : ∀ i (h : i < (spL C).length),∃ (h1 : (spL C)[i] < C.length) (h2 : i < (zbM C).length),(zbM C)[i] = C[(spL C)[i]]:=fun i h=>by
  have h1:=hspl _ (List.getElem_mem h)
  refine ⟨h1,by omega,?_⟩
  have e : (zbM C)[i]? = some C[(spL C)[i]]:=by
   rw [hpick,List.getElem?_map,List.getElem?_eq_getElem h]
   show some (C.getD (spL C)[i] (0,0)) = _
   rw [List.getD_eq_getElem?_getD,List.getElem?_eq_getElem h1]
   rfl
  exact (List.getElem?_eq_some_iff.mp e).2
 have bat:=fun i h=>zgN (key:=key) hhd (i:=i) h
 have cat:=fun i h=>zgN (key:=key) hC (i:=i) h
 have hall:=zcP (key:=key) hhd
 generalize zan (zbM C) key = t at *
 have hsp : ∀ i (h : i < (spL C).length),stAt (spL C) (i + 1) = (spL C)[i] + 1:=fun i h=>by
  unfold stAt
  rw [if_neg (by omega),Nat.add_sub_cancel,List.getD_eq_getElem?_getD,List.getElem?_eq_getElem h]
  rfl
 have before : ∀ t',t = t' + 1→∃ (h : t' < (spL C).length) (h1 : (spL C)[t'] < C.length),stAt (spL C) t = (spL C)[t'] + 1∧C[(spL C)[t']]∈zbM C∧C[(spL C)[t']].1 < key:=fun t' e=>by
  have h : t' < (spL C).length:=by omega
  obtain ⟨h1,h2,h3⟩:=hat t' h
  refine ⟨h,h1,by rw [e]; exact hsp t' h,?_,?_⟩
  ·rw [← h3]
   exact List.getElem_mem h2
  ·rw [← h3]
   exact (bat t' h2).1 (by omega)
 refine ⟨?_,?_,?_,?_⟩
 ·cases t with
  | zero=>exact Nat.zero_le _
  | succ t'=>
   obtain ⟨h,h1,e,_,hlt⟩:=before t' rfl
   rw [e]
   refine Nat.succ_le_of_lt (Nat.lt_of_not_le fun z=>(cat _ h1).2 z hlt)
 ·rcases Nat.lt_or_ge t (spL C).length with z | z
  ·obtain ⟨h1,h2,h3⟩:=hat t z
   have hge : ¬ C[(spL C)[t]].1 < key:=by
    rw [← h3]
    exact (bat t h2).2 (Nat.le_refl _)
   have hle : zan C key≤(spL C)[t]:=Nat.le_of_not_lt fun y=>hge ((cat _ h1).1 y)
   have:=hgr t z
   rw [hsp t z] at this
   omega
  ·have e : t = (spL C).length:=by omega
   rw [e]
   have:=zca C key
   omega
 ·intro z
  cases t with
  | zero=>exact fun e he=>hall.2 e (by simpa using he)
  | succ t'=>
   obtain ⟨_,_,e,_⟩:=before t' rfl
   omega
 ·intro z
  cases t with
  | zero=>exact absurd rfl z
  | succ t'=>
   obtain ⟨h,h1,e,hm,hlt⟩:=before t' rfl
   have e2 : stAt (spL C) (t' + 1) - 1 = (spL C)[t']:=by omega
   refine ⟨by omega,?_⟩
   have e3 : C[stAt (spL C) (t' + 1) - 1]'(by omega) = C[(spL C)[t']]:=by
    congr 1
   rw [e3]
   exact ⟨hm,hlt,hmem _ hm⟩
theorem zba {β : Type} {F : Nat→β→Prop} {n : Nat} {l : List β} {k : Nat} (h : Paired F (List.range n) l) (hk : k < n) : ∃ b,l[k]? = some b∧F k b:=zdm h (List.getElem?_range hk)
theorem zi9 {Av : List Addr} {H : Hp} {es : List En} {ps : List Nat} {rows : List (List Int)} : ∀ {cs : List Nat} {xs : List V},Paired (zbp Av H es ps rows) cs xs→∃ kvs : List (Key×V),Paired (fun (z : V) (kv : Key×V)=>∃ b,z = .ref b∧H b = some (.tup [kV kv.1,kv.2])) xs kvs∧kvs.map (·.1) = cs.map (fun c : Nat=>(Sum.inl (c : Int) : Key))∧
  ∀ c∈cs,cs.Nodup→∃ s,valV kvs (.inl (c : Int)) = some (.ref s)∧H s = some (.lst ((zei es (zaj ps rows c)).map nV))
 | _,_,.nil=>⟨[],.nil,rfl,fun c hc=>nomatch hc⟩
 | c0 :: cs,_,.cons ⟨j,s,e1,_,e3,e4⟩ t=>by
  obtain ⟨kvs,h1,h2,h3⟩:=zi9 t
  refine ⟨(.inl (c0 : Int),.ref s) :: kvs,.cons ⟨j,e1,e3⟩ h1,by rw [List.map_cons,h2]; rfl,fun c hc hn=>?_⟩
  rw [List.nodup_cons] at hn
  unfold valV
  by_cases z : c = c0
  ·subst z
   exact ⟨s,by rw [List.find?_cons_of_pos (by simp)]; rfl,e4⟩
  ·rw [List.find?_cons_of_neg (by simp; omega)]
   rcases List.mem_cons.mp hc with y | y
   ·exact absurd y z
   ·exact h3 c y hn.2
theorem zdK (ps : List Nat) (k n : Nat) : (zaF ps k n).Nodup:=by
 unfold zaF
 exact List.Pairwise.filter _ List.nodup_range
def figN (n : Nat) : Nat:=if h : n = 0 then 0 else figN (n / 2) + 1
termination_by n
decreasing_by exact Nat.div_lt_self (Nat.pos_of_ne_zero h) (by decide)
theorem zee : figN 0 = 0:=by
 unfold figN
 rfl
theorem zef {n : Nat} (h : n≠0) : figN n = figN (n / 2) + 1:=by
 rw [figN,dif_neg h]
theorem zhq : ∀ (n a b : Nat),b≤n→a≤b→figN a≤figN b
 | 0,a,b,hb,ha=>by
  have e1 : a = 0:=by omega
  have e2 : b = 0:=by omega
  rw [e1,e2]
  exact Nat.le_refl _
 | n + 1,a,b,hb,ha=>by
  by_cases z : a = 0
  ·rw [z,zee]
   exact Nat.zero_le _
  ·rw [zef z,zef (show b≠0 by omega)]
   exact Nat.succ_le_succ (zhq n _ _ (by omega) (by omega))
theorem zgJ : ∀ (n m : Nat),m≤n→figN m≤m
 | 0,m,h=>by
  rw [show m = 0 by omega,zee]
  exact Nat.le_refl _
 | n + 1,m,h=>by
  by_cases z : m = 0
  ·rw [z,zee]
   exact Nat.le_refl _
  ·rw [zef z]
   have:=zgJ n (m / 2) (by omega)
   omega
def zks (P : Program) (w : World) (K : PySem.W.Frag) (mg : Str→Option Value) (base : Heap) : Sp:=fun vs H Q _=>∃ (n : Nat) (f : Addr) (ps : List Str) (sp : Sp) (b : Nat→Bool) (R : List Nat→Hp→Prop),vs = [.int n,.ref f]∧FV P w K mg base 3 f ps sp∧R [] H∧
 (∀ (i : Nat) (L : List Nat) (H1 : Hp) (Q1 : VK),i < n→L.length≤figN n→R L H1→(∀ H2,R (L ++ [i]) H2→Q1 (.bl (b i)) H2)→sp [.int i] H1 Q1 E0)∧(∀ i j,i≤j→j < n→b j = true→b i = true)∧
 ∀ (m : Nat) (L : List Nat) (H' : Hp),m≤n→(∀ i,i < m→b i = true)→(∀ i,m≤i→i < n→b i = false)→L.length≤figN n→R L H'→Q (.int m) H'
def wMesHL : L2.St→Hp→Nat:=fun σ _=>match σ with
 | [_,_,some (.int lo),some (.int hi),_]=>(hi - lo).toNat
 | _=>0
theorem znu (T : Txt K mg) (D_how_many_below : DF K mg "how_many_below" zbr zaM) : FC P w K mg base 4 "how_many_below" zaM (zks P w K mg base):=by
 refine D_how_many_below.ok sc_how_many_below (fun vs H Q E h=>?_) (fun f cdv A outer s H vs Q E hr h=>?_)
 ·obtain ⟨n,f,ps,sp,b,R,rfl,_⟩:=h
  rfl
 obtain ⟨n,f,ps,sp,b,R,rfl,hF,hR,hask,hmono,q⟩:=h
 refine ⟨_,(zaf (zaq (i:=2) sc_how_many_below.nd rfl (Or.inl rfl) zae)
   (zaf (zaq (i:=3) sc_how_many_below.nd rfl (Or.inl rfl) (pv 0))
   (zaf (zeX PassesOwn.never (zaC zgv (pv 2) (pv 3) (zaP _)) (zaf (zaq (i:=4) sc_how_many_below.nd rfl (Or.inl rfl) (zax zgw (zax zbf (pv 2) (pv 3)) zae))
   (zah (zbO (zfe (zgq (kr:=3) hr (pv 1) (zaa (pv 4) zad))) (zah (zaq (i:=2) sc_how_many_below.nd rfl (Or.inl rfl) (zax zbf (pv 4) zae))) (zah (zaq (i:=3) sc_how_many_below.nd rfl (Or.inl rfl) (pv 4)))))))
   (zah (zat (pv 2)))))),?_⟩
 refine ⟨_,rfl,?_⟩
 refine ze7 (fun σ H2=>∃ (lo hi : Nat) (x4 : Option V) (L : List Nat),σ = [some (.int n),some (.ref f),some (.int lo),some (.int hi),x4]∧lo≤hi∧hi≤n∧(∀ i,i < lo→b i = true)∧(∀ i,hi≤i→i < n→b i = false)∧L.length + figN (hi - lo)≤figN n∧R L H2) (fun σ H2=>∃ (lo : Nat) (x4 : Option V) (L : List Nat),σ = [some (.int n),some (.ref f),some (.int lo),some (.int lo),x4]∧lo≤n∧(∀ i,i < lo→b i = true)∧(∀ i,lo≤i→i < n→b i = false)∧L.length≤figN n∧R L H2) wMesHL ?_ ?_ ?_ ?_
 ·exact ⟨0,n,_,[],rfl,Nat.zero_le _,Nat.le_refl _,fun i h=>absurd h (Nat.not_lt_zero _),fun i h1 h2=>absurd h2 (Nat.not_lt.mpr h1),by rw [List.length_nil,Nat.sub_zero,Nat.zero_add]; exact Nat.le_refl _,hR⟩
 ·rintro σ H2 ⟨lo,hi,x4,L,rfl,h1,h2,hb1,hb2,hL,hR2⟩
  refine ⟨_,rfl,_,rfl,_,_,rfl,rfl,_,rfl,?_⟩
  refine ite2 (fun c=>?_) (fun c=>?_)
  ·have c1 : (lo : Int) < (hi : Int):=of_decide_eq_true c
   have em : ((lo : Int) + (hi : Int)) / 2 = (((lo + hi) / 2 : Nat) : Int):=by omega
   have m1 : lo≤(lo + hi) / 2:=by omega
   have m2 : (lo + hi) / 2 < hi:=by omega
   have fst : figN (hi - lo) = figN ((hi - lo) / 2) + 1:=zef (by omega)
   have fle : ∀ d,d≤(hi - lo) / 2→(L ++ [(lo + hi) / 2]).length + figN d≤figN n:=fun d hd=>by
    have:=zhq _ d _ (Nat.le_refl _) hd
    rw [List.length_append,List.length_singleton]
    omega
   refine ⟨_,rfl,_,rfl,_,_,rfl,rfl,_,_,rfl,rfl,⟨by decide,by decide⟩,?_⟩
   refine ⟨_,rfl,f,3,ps,sp,rfl,hF,Nat.le_refl _,_,rfl,?_⟩
   show sp [V.int (((lo : Int) + (hi : Int)) / 2)] H2 _ E0
   rw [em]
   refine hask ((lo + hi) / 2) L H2 _ (by omega) (by omega) hR2 fun H3 hR3=>⟨_,rfl,?_⟩
   cases hbm : b ((lo + hi) / 2) with
   | true=>
    refine iteT ?_
    refine ⟨_,rfl,_,_,rfl,rfl,⟨(lo + hi) / 2 + 1,hi,some (V.int (((lo : Int) + (hi : Int)) / 2)),_,?_,by omega,h2,fun i hi'=>hmono i ((lo + hi) / 2) (by omega) (by omega) hbm,hb2,fle _ (by omega),hR3⟩,?_⟩
    ·show [some (V.int n),some (V.ref f),some (V.int (((lo : Int) + (hi : Int)) / 2 + 1)),some (V.int hi),some (V.int (((lo : Int) + (hi : Int)) / 2))] = _
     rw [em,Int.natCast_add]
     rfl
    ·show ((hi : Int) - (((lo : Int) + (hi : Int)) / 2 + 1)).toNat < ((hi : Int) - (lo : Int)).toNat
     omega
   | false=>
    refine iteF ?_
    refine ⟨_,rfl,⟨lo,(lo + hi) / 2,some (V.int (((lo : Int) + (hi : Int)) / 2)),_,?_,m1,by omega,hb1,fun i hi' hin=>?_,fle _ (by omega),hR3⟩,?_⟩
    ·show [some (V.int n),some (V.ref f),some (V.int lo),some (V.int (((lo : Int) + (hi : Int)) / 2)),some (V.int (((lo : Int) + (hi : Int)) / 2))] = _
     rw [em]
    ·cases hbi : b i with
     | false=>rfl
     | true=>
      have:=hmono ((lo + hi) / 2) i hi' hin hbi
      rw [hbm] at this
      cases this
    ·show ((((lo : Int) + (hi : Int)) / 2) - (lo : Int)).toNat < ((hi : Int) - (lo : Int)).toNat
     omega
  ·have c1 : ¬ (lo : Int) < (hi : Int):=of_decide_eq_false (Bool.eq_false_iff.mpr c)
   have e : hi = lo:=by omega
   subst e
   exact ⟨hi,_,L,rfl,h2,hb1,hb2,by omega,hR2⟩
 ·intro σ H Q Q' m h
  obtain ⟨y1,e3,y2,e4,i2,j2,f2,g2,b2,e5,q⟩:=h
  exact ⟨y1,e3,y2,e4,i2,j2,f2,g2,b2,e5,m _ _ q⟩
 rintro σ H2 ⟨lo,x4,L,rfl,h2,hb1,hb2,hL,hR2⟩
 refine ⟨_,rfl,?_⟩
 exact q lo L H2 h2 hb1 hb2 hL hR2
abbrev zmH : Str:=(envOfC ("first_place" : Str) (zai zaS) 0 0 .none).qual ++ "<lambda>"
abbrev zgE : Pos:=⟨135,44,135,73⟩
structure zeG (H : Hp) (wa : Addr) (ps w : List Nat) : Prop where
 at_ : H wa = some (.lst (w.map nV))
 len : w.length≤900
 ne : w≠[]
 ch : zis ps w
 kn : ∀ x∈w,x < ps.length + 1
theorem zfu (xs : List V) (a : Nat) : cutV xs (some (a : Int)) none = xs.drop a:=by
 unfold cutV
 rw [zgj,show HT.sIx xs.length xs.length none = xs.length from rfl]
 by_cases h : a≤xs.length
 ·rw [Nat.min_eq_left h,List.take_of_length_le (by rw [List.length_drop]; exact Nat.le_refl _)]
 ·rw [Nat.min_eq_right (by omega),List.drop_eq_nil_of_le (Nat.le_refl _),List.drop_eq_nil_of_le (show xs.length≤a by omega),List.take_nil]
def ownB (rows : List (List Int)) (k : Nat) (key : Int) : Nat:=((zbt rows k).filter fun x=>decide (x < key)).length
theorem zjB {ps : List Nat} (T : zaA ps) {rows : List (List Int)} (R : za4 rows) {k : Nat} (hk : k < ps.length + 1) : ((zaj ps rows k).filter fun e=>decide (e.2 = (k : Int))) = ownE rows k:=by
 have hup:=R.at_up k
 refine zkz ((za3 T R hk).filter _) ?_ fun e=>?_
 ·unfold ownE
  refine List.Pairwise.map _ (R:=fun a b : Int=>a < b) (fun a b (h : a < b)=>zcm.mpr (.inl h)) hup
 ·rw [List.mem_filter]
  refine ⟨fun ⟨h1,h2⟩=>?_,fun h=>⟨(ze0 T hk).mpr (.inl h),decide_eq_true (ziZ hk h).2⟩⟩
  rcases (ze0 T hk).mp h1 with h | ⟨c,hc,h⟩
  ·exact h
  ·exfalso
   have h2:=of_decide_eq_true h2
   have hcn:=(zaO T hc)
   obtain ⟨j,hj,hb,e2,_⟩:=ze2 T R hcn.2 e ((zbh _).subset h)
   have ej : j = k:=by omega
   subst ej
   have:=zda T hcn.1
   rw [hb] at this
   cases this
theorem own_at {ps : List Nat} (T : zaA ps) {rows : List (List Int)} (R : za4 rows) {k : Nat} (hk : k < ps.length + 1) (key : Int) : zdI k ((zaj ps rows k).take (zan (zaj ps rows k) key)) = ownB rows k key:=by
 rw [zeE (zdZ (za3 T R hk))]
 unfold zdI
 have e : ((zaj ps rows k).filter fun e=>decide (e.1 < key)).filter (fun e=>decide (e.2 = (k : Int))) = (ownE rows k).filter fun e=>decide (e.1 < key):=by
  rw [← zjB T R hk,List.filter_filter,List.filter_filter]
  congr 1
  funext e
  rw [Bool.and_comm]
 rw [e]
 unfold ownE ownB
 rw [List.filter_map,List.length_map]
 rfl
def KpV (Av : List Addr) (H H' : Hp) : Prop:=∀ b o,b∉Av→H b = some o→H' b = some o
def KpA (Av : List Addr) (mp : Addr) (H H' : Hp) : Prop:=∀ b o,b∉Av→b≠mp→H b = some o→H' b = some o
theorem KpA.trans {Av : List Addr} {mp : Addr} {H H1 H2 : Hp} (a : KpA Av mp H H1) (b : KpA Av mp H1 H2) : KpA Av mp H H2:=fun c o n1 n2 h=>b c o n1 n2 (a c o n1 n2 h)
theorem KpV.a {Av : List Addr} {mp : Addr} {H H1 : Hp} (a : KpV Av H H1) : KpA Av mp H H1:=fun c o n1 _ h=>a c o n1 h
theorem KpA.of {Av : List Addr} {mp : Addr} {H H1 : Hp} (a : Same H H1) : KpA Av mp H H1:=fun c o _ _ h=>a c o h
theorem KpA.gro {Av : List Addr} {mp : Addr} {H H1 : Hp} (a : Gro mp H H1) : KpA Av mp H H1:=fun c o _ n h=>a c o n h
theorem FV.mono {P : Program} {w : World} {K : PySem.W.Frag} {mg : Str→Option Value} {base : Heap} {j k : Nat} {f : Addr} {ps : List Str} {sp : Sp} (F : FV P w K mg base j f ps sp) (h : j≤k) : FV P w K mg base k f ps sp:=by
 obtain ⟨fd,ok,r⟩:=F.ex
 exact ⟨fd,ok.mono h,r⟩
structure AskF (P : Program) (w : World) (K : PySem.W.Frag) (mg : Str→Option Value) (base : Heap) (f : Addr) (Av : List Addr) (mp : Addr) (fp : Addr→Prop) (R : List (Nat×Nat)→Hp→Prop) (ps : List Nat) (rows : List (List Int)) (key : Int) : Prop where
 keep : ∀ L H H',R L H→(∀ b o,fp b→H b = some o→H' b = some o)→R L H'
 alloc : ∀ L H b,R L H→fp b→H b≠none
 avl : ∀ L H,R L H→∀ a∈Av,∃ zs,H a = some (.lst zs)
 nmp : ¬ fp mp
 ask : ∃ (pn : List Str) (sp : Sp),FV P w K mg base 2 f pn sp∧∀ (kn i : Nat) (L : List (Nat×Nat)) (H : Hp) (Q : VK),kn < ps.length + 1→i < (zaj ps rows kn).length→L.length≤9000→R L H→
  (∀ H',R (L ++ [(kn,i)]) H'→KpV Av H H'→Q (.bl (decide (((zaj ps rows kn).getD i (0,0)).1 < key))) H')→sp [.int kn,.int i] H Q E0
theorem AskF.lift {P : Program} {w : World} {K : PySem.W.Frag} {mg : Str→Option Value} {b1 b2 : Heap} {f : Addr} {Av : List Addr} {mp : Addr} {fp : Addr→Prop} {R : List (Nat×Nat)→Hp→Prop} {ps : List Nat} {rows : List (List Int)} {key : Int} (A : AskF P w K mg b1 f Av mp fp R ps rows key) (S : Sub K mg b1 b2) : AskF P w K mg b2 f Av mp fp R ps rows key:=by
 obtain ⟨a,b,c,d,pn,sp,hF,r⟩:=A
 exact ⟨a,b,c,d,pn,sp,hF.lift S,r⟩
structure za5 (Av : List Addr) (mp : Addr) (R : List (Nat×Nat)→Hp→Prop) (ps : List Nat) (rows : List (List Int)) (br : Addr) (xs : List V) (L : List (Nat×Nat)) (H : Hp) : Prop where
 r : R L H
 avs : ∀ a∈Av,∃ zs,H a = some (.lst zs)
 at_ : H br = some (.lst xs)
 nb : br∉Av
 ba : Paired (BrAt Av H ps rows) (List.range (ps.length + 1)) xs
 tb : zaG H mp zgE zmH
section
variable {Av : List Addr} {mp : Addr} {R : List (Nat×Nat)→Hp→Prop} {ps : List Nat} {rows : List (List Int)} {br : Addr} {xs : List V} {L L' : List (Nat×Nat)} {H H' : Hp}
theorem za5.nm (S : za5 Av mp R ps rows br xs L H) {b : Addr} {o : HO} (h : H b = some o) (n : ∀ tab,o≠.tbl tab) : b≠mp:=fun z=>by
 obtain ⟨tab,e,_⟩:=S.tb.ex
 rw [← z,h] at e
 exact n _ (Option.some.inj e)
theorem za5.na (S : za5 Av mp R ps rows br xs L H) {b : Addr} {o : HO} (h : H b = some o) (n : ∀ zs,o≠.lst zs) : b∉Av:=fun z=>by
 obtain ⟨zs,e⟩:=S.avs b z
 rw [h] at e
 exact n _ (Option.some.inj e)
theorem za5.tup (S : za5 Av mp R ps rows br xs L H) (k : KpA Av mp H H') {b : Addr} {us : List V} (h : H b = some (.tup us)) : H' b = some (.tup us):=k _ _ (S.na h (fun _ z=>nomatch z)) (S.nm h (fun _ z=>nomatch z)) h
theorem za5.lst (S : za5 Av mp R ps rows br xs L H) (k : KpA Av mp H H') {b : Addr} {us : List V} (h : H b = some (.lst us)) (n : b∉Av) : H' b = some (.lst us):=k _ _ n (S.nm h (fun _ z=>nomatch z)) h
theorem za5.kp (S : za5 Av mp R ps rows br xs L H) (k : KpA Av mp H H') (hT : zaG H' mp zgE zmH) (hR : R L' H') (ha : ∀ a∈Av,∃ zs,H' a = some (.lst zs)) : za5 Av mp R ps rows br xs L' H':=
 ⟨hR,ha,S.lst k S.at_ S.nb,S.nb,zaw (fun j x ⟨b,o,j',ys,h1,h2,h3,h4,h5,h6,h7⟩=>⟨b,o,j',ys,h1,h2,h3,S.tup k h4,S.lst k h5 h2,S.lst k h6 h3,zaw (fun c y ⟨a,s,g1,g2,g3,g4⟩=>⟨a,s,g1,g2,S.tup k g3,S.lst k g4 g2⟩) h7⟩) S.ba,hT⟩
theorem za5.tbv (S : za5 Av mp R ps rows br xs L H) (k : KpV Av H H') : zaG H' mp zgE zmH:=by
 obtain ⟨tab,h1,h2,h3⟩:=S.tb.ex
 refine ⟨tab,k _ _ (S.na h1 (fun _ z=>nomatch z)) h1,h2,?_⟩
 rcases h3 with h3 | ⟨c,h3,h4⟩
 ·exact .inl h3
 ·exact .inr ⟨c,h3,k _ _ (S.na h4 (fun _ z=>nomatch z)) h4⟩
end
theorem zd6 {K : PySem.W.Frag} {H H' : Hp} (k : ∀ b us,H b = some (.tup us)→H' b = some (.tup us)) : ∀ {es : List (Int×Int)} {ws : List V},zal K H es ws→zal K H' es ws
 | _,_,.nil=>.nil
 | _,_,.cons h t=>by
  refine .cons ?_ (zd6 k t)
  obtain ⟨a,x1,x2,rfl,hT,e1,e2⟩:=(show hasP K H _ _ from h)
  exact ⟨a,x1,x2,rfl,k _ _ hT,e1,e2⟩
theorem zkd {H : Hp} {Pt D : Addr} {pos : Pos} {q : Str} {xs : List V} {o : HO} (x : zaG H Pt pos q) (hD : H D = some (.lst xs)) : zaG (upd H D o) Pt pos q:=by
 obtain ⟨tab,h1,h2,h3⟩:=x.ex
 have n1 : Pt≠D:=fun z=>by
  rw [z,hD] at h1
  cases h1
 refine ⟨tab,by rw [zag n1]; exact h1,h2,?_⟩
 rcases h3 with h3 | ⟨c,h3,h4⟩
 ·exact .inl h3
 ·refine .inr ⟨c,h3,?_⟩
  have n2 : c≠D:=fun z=>by
   rw [z] at h4
   rw [show H D = _ from h4] at hD
   cases hD
  show upd H D o c = _
  rw [zag n2]
  exact h4
theorem za5.free {Av : List Addr} {mp : Addr} {R : List (Nat×Nat)→Hp→Prop} {ps : List Nat} {rows : List (List Int)} {br : Addr} {xs : List V} {L : List (Nat×Nat)} {H H1 : Hp} (S : za5 Av mp R ps rows br xs L H1) (k : KpA Av mp H H1) {D : Addr} (h : H1 D = none) : H D = none∧D∉Av∧D≠mp:=by
 have n1 : D∉Av:=fun z=>by
  obtain ⟨zs,e⟩:=S.avs D z
  rw [h] at e
  cases e
 have n2 : D≠mp:=fun z=>by
  obtain ⟨tab,e,_⟩:=S.tb.ex
  rw [← z,h] at e
  cases e
 refine ⟨?_,n1,n2⟩
 cases e : H D with
 | none=>rfl
 | some o=>
  have:=k _ _ n1 n2 e
  rw [h] at this
  cases this
theorem zgt {ps : List Nat} (T : zaA ps) {rows : List (List Int)} (R : za4 rows) {k : Nat} (hk : k < ps.length + 1) (key : Int) : atI ((zmk k (zaj ps rows k)).map nV) ((zan (zaj ps rows k) key : Nat) : Int) = some (.int ((ownB rows k key : Nat) : Int)):=by
 have hle:=zca (zaj ps rows k) key
 refine zaJ ?_
 rw [List.getElem?_map]
 unfold zmk
 rw [List.getElem?_map,List.getElem?_range (by omega),← own_at T R hk key]
 rfl
theorem zfK {wy : List Nat} {i : Nat} (h : i < wy.length) : (wy.map nV)[i]? = some (nV (wy.getD i 0)):=by
 rw [List.getElem?_map,List.getD_eq_getElem?_getD,List.getElem?_eq_getElem h]
 rfl
theorem zfJ {wy : List Nat} {i : Nat} (h : i < wy.length) : wy.getD i 0∈wy:=by
 rw [List.getD_eq_getElem?_getD,List.getElem?_eq_getElem h]
 exact List.getElem_mem h
theorem zf9 {α : Type} (f : Nat→α) {wy : List Nat} {i : Nat} (h : i < wy.length) : (wy.take (i + 1)).map f = (wy.take i).map f ++ [f (wy.getD i 0)]:=by
 rw [List.take_succ_eq_append_getElem h,List.map_append,List.getD_eq_getElem?_getD,List.getElem?_eq_getElem h]
 rfl
theorem zoy (l : List Nat) : cutV (l.map nV) (some 1) none = (l.drop 1).map nV:=by
 rw [show (1 : Int) = ((1 : Nat) : Int) from rfl,zfu,← List.map_drop]
def zhO (P : Program) (w : World) (K : PySem.W.Frag) (mg : Str→Option Value) (base : Heap) (mp : Addr) : Sp:=fun vs H Q _=>∃ (br f : Addr) (xs : List V) (ps : List Nat) (rows : List (List Int)) (k : Nat) (key : Int) (Av : List Addr) (fp : Addr→Prop) (R : List (Nat×Nat)→Hp→Prop) (L : List (Nat×Nat)),vs = [.ref br,.int k,.ref f]∧
 AskF P w K mg base f Av mp fp R ps rows key∧za5 Av mp R ps rows br xs L H∧zaA ps∧za4 rows∧k < ps.length + 1∧L.length≤3000∧(zaj ps rows k).length≤1000∧
 ∀ (H' : Hp) (L' : List (Nat×Nat)),za5 Av mp R ps rows br xs (L ++ L') H'→KpA Av mp H H'→L'.length≤figN (zaj ps rows k).length→Q (.int (zan (zaj ps rows k) key : Nat)) H'
theorem zmw (T : Txt K mg) {mc mp : Addr} (D_first_place : DFT K mg "first_place" zaS zaW mc mp) (hBM : BMAt mg base) (F_how_many_below : ∀ b,Sub K mg base b→FC P w K mg b 4 "how_many_below" zaM (zks P w K mg b)) : FC P w K mg base 5 "first_place" zaW (zhO P w K mg base mp):=by
 refine D_first_place.ok sc_first_place (fun vs H Q E h=>?_) (fun f A outer s H vs Q E hr h=>?_)
 ·obtain ⟨br,f,xs,ps,rows,k,key,Av,fp,R,L,rfl,_⟩:=h
  rfl
 obtain ⟨br,f,xs,ps,rows,k,key,Av,fp,R,L,rfl,AF,S,hT,hR,hk,hLn,hFn,q⟩:=h
 refine ⟨_,(zah (zat (zhS (kf:=2) F_how_many_below hr (zaB zaL (zaB zaz (pv 0) (pv 1) (fun _ _=>rfl)) zae (fun _ _=>rfl)) (zi5 (osc:=zai zaS) (N:=["bridges","knot","is_below"]) (ps:=["at"]) (caps:=["is_below","knot"]) (cap:=[2,1]) ⟨rfl,rfl,rfl,by decide +kernel,by decide +kernel,by decide +kernel,by decide +kernel⟩ (by decide +kernel) (by decide +kernel) rfl rfl rfl rfl (fun _ _ _ _ us hl=>match us,hl with | [_],_=>rfl) (fun _=>rfl)) rfl D_first_place.hd hBM (fun b _ _ _ _ _ _ _ S hr=>(zmi P w K mg b (kr:=2) hr (pv 1) (zaa (pv 2) (zaa (pv 0) zad))))))),?_⟩
 obtain ⟨x,hx,b,o,j,ys,rfl,_,_,hb,ho,hj,hJ⟩:=zba S.ba hk
 have hF:=zdZ (za3 hT hR hk (rows:=rows))
 refine ⟨_,rfl,_,rfl,_,_,_,_,rfl,rfl,SqL.of S.at_,zaJ hx,_,_,_,_,rfl,rfl,SqT.of hb,rfl,S.tb,[.ref f,.int k],rfl,?_,fun bs g c' H2 hg hT2 hC SB hV=>?_⟩
 ·intro j i v h1 h2
  rcases j with _ | _ | j
  ·cases h1; cases h2; rfl
  ·cases h1; cases h2; rfl
  ·cases h1
 obtain ⟨pn,sp,hFV,hask⟩:=(AF.lift SB).ask
 have hR2 : R L H2:=AF.keep _ _ _ S.r fun b o hb e=>hg _ _ (fun z=>AF.nmp (z ▸ hb)) e
 have S2 : za5 Av mp R ps rows br xs L H2:=S.kp (.gro hg) hT2 hR2 (AF.avl _ _ hR2)
 refine ⟨(zaj ps rows k).length,g,_,_,fun i=>decide (((zaj ps rows k).getD i (0,0)).1 < key),fun L1 H1=>R (L ++ L1.map fun i=>(k,i)) H1∧KpV Av H2 H1,rfl,hV,⟨by rw [List.map_nil,List.append_nil]; exact hR2,fun _ _ _ h=>h⟩,fun i L1 H1 Q1 hi hLi hR1 hQ=>?_,fun i j hij hj hb=>?_,fun m L1 H' hm hb1 hb2 hL hR1=>?_⟩
 ·refine ⟨rfl,hR1.2 _ _ (S2.na hC (fun _ z=>nomatch z)) hC,?_⟩
  refine ⟨_,rfl,f,2,pn,sp,rfl,hFV,Nat.le_refl _,_,rfl,_,rfl,?_⟩
  refine hask k i _ H1 _ hk hi (by have:=zgJ _ _ (Nat.le_refl (zaj ps rows k).length); rw [List.length_append,List.length_map]; omega) hR1.1 fun H3 hR3 k3=>hQ _ ⟨?_,fun b o n h=>k3 _ _ n (hR1.2 _ _ n h)⟩
  rw [List.map_append,← List.append_assoc]
  exact hR3
 ·refine decide_eq_true ?_
  have hb:=of_decide_eq_true hb
  by_cases e : i = j
  ·subst e
   exact hb
  ·have:=List.pairwise_iff_getElem.mp hF i j (by omega) hj (by omega)
   rw [List.getD_eq_getElem?_getD,List.getElem?_eq_getElem (by omega)] at hb ⊢
   exact Int.lt_of_le_of_lt this hb
 ·have e:=zlW hm hb1 hb2
  have q2:=q H' _ (S2.kp hR1.2.a (S2.tbv hR1.2) hR1.1 (AF.avl _ _ hR1.1)) (KpA.trans (.gro hg) hR1.2.a) (by rw [List.length_map]; exact hL)
  rw [e] at q2
  exact q2
def zkk (K : PySem.W.Frag) : Sp:=fun vs H Q _=>∃ (Av : List Addr) (br : Addr) (ps : List Nat) (rows : List (List Int)) (xs : List V) (k c m : Nat),vs = [.ref br,.int k,.int m,.int c]∧H br = some (.lst xs)∧Paired (BrAt Av H ps rows) (List.range (ps.length + 1)) xs∧zaA ps∧k < ps.length + 1∧par ps c = some k∧m≤(zaj ps rows k).length∧
 ∀ H',Same H H'→Q (.int (stN (zaj ps rows c) ((zaj ps rows k).take m) : Nat)) H'
theorem zmm (T : Txt K mg) (D_start_in : DF K mg "start_in" zdf zbZ) : FC P w K mg base 1 "start_in" zbZ (zkk K):=by
 refine D_start_in.ok sc_start_in (fun vs H Q E h=>?_) (fun f cdv A outer s H vs Q E hr h=>?_)
 ·obtain ⟨Av,br,ps,rows,xs,k,c,m,rfl,_⟩:=h
  rfl
 obtain ⟨Av,br,ps,rows,xs,k,c,m,rfl,hbr,hB,hT,hk,hc,hm,q⟩:=h
 obtain ⟨x,hx,b,o,j,ys,rfl,_,_,hb,ho,hj,hJ⟩:=zba hB hk
 obtain ⟨kvs,h1,h2,h3⟩:=zi9 hJ
 have hcm : c∈zaF ps k (ps.length + 1):=zay.mpr ⟨(zaO hT hc).2,hc⟩
 obtain ⟨sa,hv,hsa⟩:=h3 c hcm (zdK _ _ _)
 refine ⟨_,(zah (zat (zaB zaz (zb3 (zcB hr) (zbL (zf5 rfl) rfl T.m_dict boot_dict (zaa (zaB zaL (zaB zaz (pv 0) (pv 1) (fun _ _=>rfl)) zae (fun _ _=>rfl)) zad)) (pv 3) (fun _ _=>rfl)) (pv 2) (fun _ _=>rfl)))),?_⟩
 refine ⟨_,rfl,_,rfl,_,_,_,_,rfl,rfl,SqL.of hbr,zaJ hx,_,_,_,_,rfl,rfl,SqT.of hb,rfl,?_⟩
 refine ⟨j,ys,kvs,rfl,SqL.of hj,h1,?_,fun d hd=>?_⟩
 ·rw [h2]
  exact List.Pairwise.map (R:=fun a b : Nat=>a≠b) _ (fun a b (n : a≠b) z=>n (by have:=Sum.inl.inj z; omega)) (zdK ps k _)
 have sd:=zak hd (.dK kvs)
 refine ⟨_,rfl,d,.ref sa,rfl,?_,?_⟩
 ·have:=DGet.k (k:=(.inl (c : Int))) (zac (H:=H) (a:=d) (o:=.dK kvs))
  rw [hv] at this
  exact this
 refine ⟨_,rfl,_,_,_,_,rfl,rfl,SqL.of (sd _ _ hsa),zaJ (v:=nV (stN (zaj ps rows c) ((zaj ps rows k).take m))) ?_,q _ sd⟩
 rw [List.getElem?_map]
 unfold zei
 rw [List.getElem?_map,List.getElem?_range (by omega)]
 rfl
def zko (P : Program) (w : World) (K : PySem.W.Frag) (mg : Str→Option Value) (base : Heap) (mp : Addr) : Sp:=fun vs H Q _=>∃ (br f : Addr) (xs : List V) (ps : List Nat) (rows : List (List Int)) (k st : Nat) (key : Int) (Av : List Addr) (fp : Addr→Prop) (R : List (Nat×Nat)→Hp→Prop) (L : List (Nat×Nat)),vs = [.ref br,.int k,.int st,.ref f]∧
 AskF P w K mg base f Av mp fp R ps rows key∧za5 Av mp R ps rows br xs L H∧zaA ps∧za4 rows∧k < ps.length + 1∧L.length≤8000∧st≤zan (zaj ps rows k) key∧zan (zaj ps rows k) key≤st + 2∧
 ∀ (H' : Hp) (L' : List (Nat×Nat)),za5 Av mp R ps rows br xs (L ++ L') H'→KpA Av mp H H'→L'.length≤2→Q (.int (zan (zaj ps rows k) key : Nat)) H'
theorem zkS (T : Txt K mg) {mp : Addr} (D_next_place : DF K mg "next_place" zcd zbk) : FC P w K mg base 3 "next_place" zbk (zko P w K mg base mp):=by
 refine D_next_place.ok sc_next_place (fun vs H Q E h=>?_) (fun f cdv A outer s H vs Q E hr h=>?_)
 ·obtain ⟨br,f,xs,ps,rows,k,st,key,Av,fp,R,L,rfl,_⟩:=h
  rfl
 obtain ⟨br,f,xs,ps,rows,k,st,key,Av,fp,R,L,rfl,AF,S,hT,hR,hk,hLn,hlo,hhi,q⟩:=h
 refine ⟨_,(zaf (zaq (i:=4) sc_next_place.nd rfl (Or.inl rfl) (zap (zlQ rfl) rfl T.m_min boot_min (zaa (zax zbf (pv 2) (zgp rfl T.g_MOST_BEHIND_START)) (zaa (zaB zaL (zaB zaz (pv 0) (pv 1) (fun _ _=>rfl)) zae (fun _ _=>rfl)) zad))))
   (zaf (zaq (i:=5) sc_next_place.nd rfl (Or.inl rfl) (pv 2))
   (zaf (zeX PassesOwn.never (PW.pt (ziP (zaC zgv (pv 5) (pv 4) (zaP _)) (zgn (zfe (zgq (kr:=2) hr (pv 3) (zaa (pv 1) (zaa (pv 5) zad))))))) (zah (zaq (i:=5) sc_next_place.nd rfl (Or.inl rfl) (zax zbf (pv 5) zae))))
   (zah (zat (pv 5)))))),?_⟩
 obtain ⟨x,hx,b,o,j,ys,rfl,_,_,hb,ho,hj,hJ⟩:=zba S.ba hk
 have hF:=zdZ (za3 hT hR hk (rows:=rows))
 have hle:=zca (zaj ps rows k) key
 have hat:=fun i h=>zgN (key:=key) hF (i:=i) h
 obtain ⟨pn,sp,hFV,hask⟩:=AF.ask
 refine ⟨_,rfl,_,_,rfl,rfl,_,rfl,_,rfl,_,_,_,_,rfl,rfl,SqL.of S.at_,zaJ hx,_,_,_,_,rfl,rfl,SqT.of hb,rfl,_,_,rfl,?_⟩
 have eb : ∃ m : Nat,(if (((zaj ps rows k).length : Nat) : Int) < (st : Int) + 2 then (((zaj ps rows k).length : Nat) : Int) else (st : Int) + 2) = (m : Int)∧m≤(zaj ps rows k).length∧m≤st + 2∧zan (zaj ps rows k) key≤m:=by
  by_cases c : (((zaj ps rows k).length : Nat) : Int) < (st : Int) + 2
  ·exact ⟨_,if_pos c,Nat.le_refl _,by omega,hle⟩
  ·exact ⟨st + 2,by rw [if_neg c]; rfl,by omega,Nat.le_refl _,hhi⟩
 obtain ⟨m,em,hm1,hm2,hm3⟩:=eb
 rw [em]
 refine ⟨_,rfl,?_⟩
 refine ⟨fun n σ H1=>∃ (at_ : Nat) (L1 : List (Nat×Nat)),σ = [some (.ref br),some (.int k),some (.int st),some (.ref f),some (.int m),some (.int at_)]∧st≤at_∧at_≤zan (zaj ps rows k) key∧at_ + n = m∧L1.length + st = at_∧za5 Av mp R ps rows br xs (L ++ L1) H1∧KpA Av mp H H1,⟨m - st,st,[],rfl,Nat.le_refl _,hlo,by omega,by rw [List.length_nil,Nat.zero_add],by rw [List.append_nil]; exact S,fun _ _ _ _ h=>h⟩,?_⟩
 rintro n σ H1 ⟨at_,L1,rfl,h1,h2,h3,h4,S1,k1⟩
 refine ⟨_,rfl,_,rfl,_,_,rfl,rfl,_,rfl,?_⟩
 refine ite2 (fun c=>?_) (fun c=>?_)
 ·have c1 : (at_ : Int) < (m : Int):=of_decide_eq_true c
  refine ⟨_,rfl,f,2,pn,sp,rfl,hFV,Nat.le_refl _,_,rfl,_,rfl,?_⟩
  refine hask k at_ _ H1 _ hk (by omega) (by rw [List.length_append]; omega) S1.r fun H2 hR2 k2=>?_
  have S2:=S1.kp k2.a (S1.tbv k2) hR2 (AF.avl _ _ hR2)
  rw [List.append_assoc] at S2
  have k02 : KpA Av mp H H2:=k1.trans k2.a
  have hL2 : (L1 ++ [(k,at_)]).length = L1.length + 1:=by rw [List.length_append,List.length_singleton]
  have hge : (zaj ps rows k).getD at_ (0,0) = (zaj ps rows k)[at_]'(by omega):=by
   rw [List.getD_eq_getElem?_getD,List.getElem?_eq_getElem (by omega)]
   rfl
  refine ⟨_,rfl,?_⟩
  refine ite2 (fun c2=>?_) (fun c2=>?_)
  ·have c3:=of_decide_eq_true c2
   rw [hge] at c3
   have hlt : at_ < zan (zaj ps rows k) key:=Nat.lt_of_not_le fun z=>(hat at_ (by omega)).2 z c3
   refine ⟨fun σ' H'=>σ' = [some (.ref br),some (.int k),some (.int st),some (.ref f),some (.int m),some (.int ((at_ : Int) + 1))]∧H' = H2,?_,?_⟩
   ·rintro σ' H' ⟨rfl,rfl⟩
    exact ⟨n - 1,by omega,at_ + 1,_,rfl,by omega,by omega,by omega,by omega,S2,k02⟩
   ·exact ⟨_,rfl,_,_,rfl,rfl,rfl,rfl⟩
  ·have hge2 : zan (zaj ps rows k) key≤at_:=Nat.le_of_not_lt fun z=>c2 (decide_eq_true (by rw [hge]; exact (hat at_ (by omega)).1 z))
   have e : at_ = zan (zaj ps rows k) key:=by omega
   refine ⟨_,rfl,?_⟩
   rw [e]
   exact q _ _ S2 k02 (by omega)
 ·have c1 : ¬ (at_ : Int) < (m : Int):=of_decide_eq_false (Bool.eq_false_iff.mpr c)
  have e : at_ = zan (zaj ps rows k) key:=by omega
  refine iteF ?_
  refine ⟨_,rfl,?_⟩
  rw [e]
  exact q _ _ S1 k1 (by omega)
def ziD (P : Program) (w : World) (K : PySem.W.Frag) (mg : Str→Option Value) (base : Heap) (mp : Addr) : Sp:=fun vs H Q _=>∃ (br wa f : Addr) (xs : List V) (ps : List Nat) (rows : List (List Int)) (wy : List Nat) (key : Int) (Av : List Addr) (fp : Addr→Prop) (R : List (Nat×Nat)→Hp→Prop) (L : List (Nat×Nat)),vs = [.ref br,.ref wa,.ref f]∧
 AskF P w K mg base f Av mp fp R ps rows key∧za5 Av mp R ps rows br xs L H∧zaA ps∧za4 rows∧ps.length≤40∧zeG H wa ps wy∧wa∉Av∧L.length≤1000∧(∀ k,k < ps.length + 1→(zaj ps rows k).length≤1000)∧
 ∀ (D : Addr) (zs : List V) (H' : Hp) (L' : List (Nat×Nat)),za5 Av mp R ps rows br xs (L ++ L') H'→KpA Av mp H H'→H D = none→H' D = some (.lst zs)→zal K H' (wy.map fun k=>(((zan (zaj ps rows k) key : Nat) : Int),((ownB rows k key : Nat) : Int))) zs→L'.length≤figN (zaj ps rows (wy.getD 0 0)).length + 2 * (wy.length - 1)→Q (.ref D) H'
theorem zkP (T : Txt K mg) {mp : Addr} (D_search : DF K mg "search" zeM zcW) (F_first_place : FC P w K mg base 5 "first_place" zaW (zhO P w K mg base mp)) (F_start_in : FC P w K mg base 1 "start_in" zbZ (zkk K)) (F_next_place : FC P w K mg base 3 "next_place" zbk (zko P w K mg base mp)) : FC P w K mg base 6 "search" zcW (ziD P w K mg base mp):=by
 refine D_search.ok sc_search (fun vs H Q E h=>?_) (fun f cdv A outer s H vs Q E hr h=>?_)
 ·obtain ⟨br,wa,f,xs,ps,rows,wy,key,Av,fp,R,L,rfl,_⟩:=h
  rfl
 obtain ⟨br,wa,f,xs,ps,rows,wy,key,Av,fp,R,L,rfl,AF,S,hT,hR,few,W,nwa,hLn,hFn,q⟩:=h
 have hwl:=W.len
 have hpos : 0 < wy.length:=List.length_pos_iff.mpr W.ne
 refine ⟨_,(zaf (zaq (i:=3) sc_search.nd rfl (Or.inl rfl) (zaE F_first_place hr (zaa (pv 0) (zaa (zaB zaz (pv 1) zae (fun _ _=>rfl)) (zaa (pv 2) zad)))))
   (zaf (zaq (i:=4) sc_search.nd rfl (Or.inl rfl) (zbQ (zaa (zb2 (zaa (pv 3) (zaa (zaB zaz (zaB zaL (zaB zaz (pv 0) (zaB zaz (pv 1) zae (fun _ _=>rfl)) (fun _ _=>rfl)) zae (fun _ _=>rfl)) (pv 3) (fun _ _=>rfl)) zad))) zad)))
   (zaf (zbd PassesOwn.never rfl (znq rfl T.m_zip (zaa (pv 1) (zaa (zd3 zfc (pv 1) (zdG zae) zhQ) zad))) (zg6 rfl (zbm (zas (i:=5) sc_search.nd rfl (Or.inl rfl)) (zbm (zas (i:=6) sc_search.nd rfl (Or.inl rfl)) zek))) (zaf (zaq (i:=3) sc_search.nd rfl (Or.inl rfl) (zaE F_next_place hr (zaa (pv 0) (zaa (pv 6) (zaa (zaE F_start_in hr (zaa (pv 0) (zaa (pv 5) (zaa (pv 3) (zaa (pv 6) zad))))) (zaa (pv 2) zad))))))
   (zah (zbu (zd4 F.plainAttrs_list F.slot_list_append F.type_list_append za2 (pv 4) (zaa (zb2 (zaa (pv 3) (zaa (zaB zaz (zaB zaL (zaB zaz (pv 0) (pv 6) (fun _ _=>rfl)) zae (fun _ _=>rfl)) (pv 3) (fun _ _=>rfl)) zad))) zad))))))
   (zah (zat (pv 4)))))),?_⟩
 have hk0 : wy.getD 0 0 < ps.length + 1:=W.kn _ (zfJ hpos)
 have hw0 : atI (wy.map nV) 0 = some (nV (wy.getD 0 0)):=zaJ (j:=0) (zfK hpos)
 refine ⟨_,rfl,_,rfl,_,_,_,_,rfl,rfl,SqL.of W.at_,hw0,_,rfl,br,f,xs,ps,rows,wy.getD 0 0,key,Av,fp,R,L,rfl,AF,S,hT,hR,hk0,by omega,hFn _ hk0,fun H1 L1 S1 k1 hL1=>?_⟩
 have W1:=S.lst k1 W.at_ nwa
 obtain ⟨x0,hx0,b0,o0,j0,ys0,rfl,_,_,hb0,ho0,_,_⟩:=zba S1.ba hk0
 refine ⟨_,rfl,_,rfl,_,rfl,_,_,_,_,rfl,rfl,SqL.of W1,hw0,_,_,_,_,rfl,rfl,SqL.of S1.at_,zaJ hx0,_,_,_,_,rfl,rfl,SqT.of hb0,rfl,_,rfl,_,_,_,_,rfl,rfl,SqL.of ho0,zgt hT hR hk0 key,(by show 2≤sizeLine; decide),fun t ht=>⟨(by show 1≤sizeLine; decide),fun D hD=>?_⟩⟩
 have st:=zak ht (.tup [.int ((zan (zaj ps rows (wy.getD 0 0)) key : Nat) : Int),.int ((ownB rows (wy.getD 0 0) key : Nat) : Int)])
 have sD:=zak hD (.lst [.ref t])
 have hD1 : H1 D = none:=st.free hD
 obtain ⟨hDn,nDA,nDm⟩:=S1.free k1 hD1
 have nfD : ¬ fp D:=fun z=>AF.alloc _ _ _ S1.r z hD1
 have s13:=st.trans sD
 have tb3:=S1.tb.ext s13.ext
 have hR3:=AF.keep _ _ _ S1.r fun b o _ e=>s13 b o e
 have S3:=S1.kp (.of s13) tb3 hR3 (AF.avl _ _ hR3)
 have k03 : KpA Av mp H _:=k1.trans (.of s13)
 have h3D : upd (upd H1 t (.tup [.int ((zan (zaj ps rows (wy.getD 0 0)) key : Nat) : Int),.int ((ownB rows (wy.getD 0 0) key : Nat) : Int)])) D (.lst [.ref t]) D = some (.lst [.ref t]):=zac
 have h3t:=sD _ _ (zac (H:=H1) (a:=t) (o:=.tup [.int ((zan (zaj ps rows (wy.getD 0 0)) key : Nat) : Int),.int ((ownB rows (wy.getD 0 0) key : Nat) : Int)]))
 generalize upd (upd H1 t (.tup [.int ((zan (zaj ps rows (wy.getD 0 0)) key : Nat) : Int),.int ((ownB rows (wy.getD 0 0) key : Nat) : Int)])) D (.lst [.ref t]) = H3 at S3 k03 h3D h3t ⊢
 clear tb3 hR3 s13 sD hD st ht hb0 ho0 hx0
 have W3:=S.lst k03 W.at_ nwa
 refine ⟨_,rfl,_,rfl,1,rfl,wa,_,rfl,SqL.of W3,fun y hy=>?_⟩
 rw [zoy]
 have sy:=zak hy (.lst ((wy.drop 1).map nV))
 obtain ⟨hyn,nyA,nym⟩:=S3.free k03 hy
 have nDy : D≠y:=zab h3D hy
 have tb4:=S3.tb.ext sy.ext
 have hR4:=AF.keep _ _ _ S3.r fun b o _ e=>sy b o e
 have S4:=S3.kp (.of sy) tb4 hR4 (AF.avl _ _ hR4)
 have k04 : KpA Av mp H _:=k03.trans (.of sy)
 have h4y : upd H3 y (.lst ((wy.drop 1).map nV)) y = some (.lst ((wy.drop 1).map nV)):=zac
 have h4D:=sy _ _ h3D
 have h4t:=sy _ _ h3t
 generalize upd H3 y (.lst ((wy.drop 1).map nV)) = H4 at S4 k04 h4D h4t h4y ⊢
 clear tb4 hR4 sy hy h3D h3t S3 k03 W3
 refine ⟨wa,y,rfl,⟨_,SqL.of (S.lst k04 W.at_ nwa)⟩,⟨_,SqL.of h4y⟩,?_⟩
 have hdl : ((wy.drop 1).map nV).length = wy.length - 1:=by rw [List.length_map,List.length_drop]
 refine zmV (xs:=wy.map nV) (ys:=(wy.drop 1).map nV) (by rw [hdl,List.length_map]; omega) (fun i σ H5=>∃ (x5 x6 : Option V) (zs : List V) (L2 : List (Nat×Nat)),σ = [some (.ref br),some (.ref wa),some (.ref f),some (.int ((zan (zaj ps rows (wy.getD i 0)) key : Nat) : Int)),some (.ref D),x5,x6]∧H5 D = some (.lst zs)∧zal K H5 ((wy.take (i + 1)).map fun k=>(((zan (zaj ps rows k) key : Nat) : Int),((ownB rows k key : Nat) : Int))) zs∧za5 Av mp R ps rows br xs (L ++ L2) H5∧KpA Av mp H H5∧L2.length≤figN (zaj ps rows (wy.getD 0 0)).length + 2 * i∧H5 y = some (.lst ((wy.drop 1).map nV))) ?_ ?_ ?_ ?_
 ·refine ⟨_,_,[.ref t],L1,rfl,h4D,?_,S4,k04,by omega,h4y⟩
  rw [zf9 _ hpos,List.take_zero]
  exact .cons ⟨t,_,_,rfl,h4t,rfl,rfl⟩ .nil
 ·rintro i σ H5 _ ⟨x5,x6,zs,L2,rfl,h5,hA,S5,k05,hL2,h5y⟩
  exact ⟨SqL.of (S.lst k05 W.at_ nwa),SqL.of h5y⟩
 ·rintro i x x' σ H5 p hx hx' ⟨x5,x6,zs,L2,rfl,h5,hA,S5,k05,hL2,h5y⟩ hp
  have hi : i + 1 < wy.length:=by
   have:=(List.getElem?_eq_some_iff.mp hx').1
   omega
  rw [zfK (by omega)] at hx
  cases hx
  rw [List.map_drop,List.getElem?_drop,Nat.add_comm 1 i,zfK hi] at hx'
  cases hx'
  have hpar:=W.ch i hi
  have hki : wy.getD i 0 < ps.length + 1:=W.kn _ (zfJ (by omega))
  have hkj : wy.getD (i + 1) 0 < ps.length + 1:=W.kn _ (zfJ hi)
  have NO:=zkY hT hR few hki hpar (rows:=rows) key
  refine ⟨p,_,rfl,SqT.of zac,rfl,_,_,rfl,_,_,rfl,rfl,?_⟩
  have s6:=zak hp (.tup [nV (wy.getD i 0),nV (wy.getD (i + 1) 0)])
  have hR6:=AF.keep _ _ _ S5.r fun b o _ e=>s6 b o e
  have S6:=S5.kp (.of s6) (S5.tb.ext s6.ext) hR6 (AF.avl _ _ hR6)
  refine ⟨_,rfl,_,rfl,_,rfl,_,rfl,_,rfl,_,rfl,Av,br,ps,rows,xs,wy.getD i 0,wy.getD (i + 1) 0,_,rfl,S6.at_,S6.ba,hT,hki,hpar,zca _ _,fun H7 s7=>?_⟩
  have s57:=s6.trans s7
  have hR7:=AF.keep _ _ _ S5.r fun b o _ e=>s57 b o e
  have S7:=S5.kp (.of s57) (S5.tb.ext s57.ext) hR7 (AF.avl _ _ hR7)
  refine ⟨_,rfl,br,f,xs,ps,rows,wy.getD (i + 1) 0,_,key,Av,fp,R,_,rfl,AF,S7,hT,hR,hkj,(by have:=zgJ _ _ (Nat.le_refl (zaj ps rows (wy.getD 0 0)).length); have:=hFn _ hk0; rw [List.length_append]; omega),NO.lo,NO.hi,fun H8 L3 S8 k8 hL3=>?_⟩
  have k58 : KpA Av mp H5 H8:=(KpA.of s57).trans k8
  have k08:=k05.trans k58
  have h8:=k58 _ _ nDA nDm h5
  have h8y:=k58 _ _ nyA nym h5y
  obtain ⟨x1,hx1,b1,o1,j1,ys1,rfl,_,_,hb1,ho1,_,_⟩:=zba S8.ba hkj
  have hzl:=hA.length
  rw [List.length_map,List.length_take] at hzl
  refine ⟨_,rfl,.inl ⟨rfl,_,SqL.of h8⟩,_,rfl,_,rfl,_,rfl,_,_,_,_,rfl,rfl,SqL.of S8.at_,zaJ hx1,_,_,_,_,rfl,rfl,SqT.of hb1,rfl,_,rfl,_,_,_,_,rfl,rfl,SqL.of ho1,zgt hT hR hkj key,(by show 2≤sizeLine; decide),fun t2 ht2=>?_⟩
  have s9:=zak ht2 (.tup [.int ((zan (zaj ps rows (wy.getD (i + 1) 0)) key : Nat) : Int),.int ((ownB rows (wy.getD (i + 1) 0) key : Nat) : Int)])
  have h9t : upd H8 t2 (.tup [.int ((zan (zaj ps rows (wy.getD (i + 1) 0)) key : Nat) : Int),.int ((ownB rows (wy.getD (i + 1) 0) key : Nat) : Int)]) t2 = _:=zac
  have h9:=s9 _ _ h8
  have h9y:=s9 _ _ h8y
  have k09:=k08.trans (.of s9)
  have hR9:=AF.keep _ _ _ S8.r fun b o _ e=>s9 b o e
  have tb9:=S8.tb.ext s9.ext
  have hA9:=zd6 (H':=upd H8 t2 (.tup [.int ((zan (zaj ps rows (wy.getD (i + 1) 0)) key : Nat) : Int),.int ((ownB rows (wy.getD (i + 1) 0) key : Nat) : Int)])) (fun b us e=>s9 _ _ (S5.tup k58 e)) hA
  generalize upd H8 t2 (.tup [.int ((zan (zaj ps rows (wy.getD (i + 1) 0)) key : Nat) : Int),.int ((ownB rows (wy.getD (i + 1) 0) key : Nat) : Int)]) = H9 at h9t h9 h9y k09 hR9 tb9 hA9 ⊢
  have k0D : KpA Av mp H (upd H9 D (.lst (zs ++ [.ref t2]))):=fun b o n1 n2 e=>by
   rw [zag (zab e hDn)]
   exact k09 _ _ n1 n2 e
  have hRD : R (L ++ L2 ++ L3) (upd H9 D (.lst (zs ++ [.ref t2]))):=AF.keep _ _ _ hR9 fun b o hb e=>by
   have n : b≠D:=fun z=>by
    rw [z] at hb
    exact nfD hb
   rw [zag n]
   exact e
  refine ⟨_,_,_,rfl,rfl,h9,zar (by omega),_,_,_,L2 ++ L3,rfl,zac,?_,?_,k0D,?_,?_⟩
  ·rw [zf9 _ hi]
   exact zal.append (zbE h9 hA9) (.cons ⟨t2,_,_,rfl,by rw [zag (fun z=>by rw [z,h9] at h9t; cases h9t)]; exact h9t,rfl,rfl⟩ .nil)
  ·rw [← List.append_assoc]
   exact S.kp k0D (zkd tb9 h9) hRD (AF.avl _ _ hRD)
  ·rw [List.length_append]
   omega
  ·rw [zag (Ne.symm nDy)]
   exact h9y
 ·rintro σ H5 ⟨x5,x6,zs,L2,rfl,h5,hA,S5,k05,hL2,h5y⟩
  rw [hdl] at hA hL2
  rw [List.take_of_length_le (by omega)] at hA
  refine ⟨_,rfl,?_⟩
  exact q D zs H5 L2 S5 k05 hDn h5 hA hL2
def plcB (ps : List Nat) (k0 e j : Nat) : Bool:=isB ps k0 j && (decide (j = k0) || match par ps j with | some p=>decide (p < e) | none=>false)
theorem zkE {ps : List Nat} (T : zaA ps) {k0 e : Nat} : plcB ps k0 e e = isB ps k0 e:=by
 unfold plcB
 cases h : isB ps k0 e with
 | false=>rfl
 | true=>
  rw [Bool.true_and]
  by_cases c : e = k0
  ·rw [decide_eq_true c]
   rfl
  ·cases hp : par ps e with
   | none=>
    exfalso
    have z : e = 0:=by
     cases e with
     | zero=>rfl
     | succ e=>
      have hb:=h
      unfold isB wayL at hb
      unfold wayF at hb
      rw [if_neg c,hp] at hb
      cases hb
    rw [z] at h c
    have:=zda T (show 0 < k0 by omega)
    rw [h] at this
    cases this
   | some p=>
    have:=(zaO T hp).1
    show (decide (e = k0) || decide (p < e)) = true
    rw [decide_eq_true this,Bool.or_true]
theorem zjM {ps : List Nat} (T : zaA ps) {k0 e j : Nat} (hk : k0≤e) (hp : par ps j = some e) : isB ps k0 j = isB ps k0 e:=zbs T (fun z=>by have:=(zaO T hp).1; omega) hp
theorem zkD {ps : List Nat} (T : zaA ps) {k0 e : Nat} (hk : k0≤e) (j : Nat) : plcB ps k0 (e + 1) j = (plcB ps k0 e j || (isB ps k0 e && decide (j∈zaF ps e (ps.length + 1)))):=by
 unfold plcB
 cases hp : par ps j with
 | none=>
  have hn : decide (j∈zaF ps e (ps.length + 1)) = false:=decide_eq_false fun z=>by
   rw [(zay.mp z).2] at hp
   cases hp
  rw [hn,Bool.and_false,Bool.or_false]
  simp
 | some p=>
  have hm : j∈zaF ps e (ps.length + 1)↔p = e:=by
   rw [zay,hp]
   exact ⟨fun z=>Option.some.inj z.2,fun z=>⟨(zaO T hp).2,by rw [z]⟩⟩
  by_cases c : p = e
  ·subst c
   rw [decide_eq_true (hm.mpr rfl),← zjM T hk hp]
   cases isB ps k0 j <;> simp
  ·rw [decide_eq_false (fun z=>c (hm.mp z)),Bool.and_false,Bool.or_false]
   congr 2
   show decide (p < e + 1) = decide (p < e)
   exact decide_eq_decide.mpr (by omega)
theorem zg5 {ps : List Nat} (T : zaA ps) {k0 : Nat} (j : Nat) : plcB ps k0 k0 j = decide (j = k0):=by
 unfold plcB
 by_cases c : j = k0
 ·subst c
  rw [zci,decide_eq_true rfl]
  rfl
 ·rw [decide_eq_false c,Bool.false_or]
  cases hp : par ps j with
  | none=>rw [Bool.and_false]
  | some p=>
   show (isB ps k0 j && decide (p < k0)) = false
   by_cases d : p < k0
   ·rw [zbs T c hp,zda T d]
    rfl
   ·rw [decide_eq_false d,Bool.and_false]
theorem zgH {P : Nat→Bool} {c : Nat} (hc : P c = false) : ∀ {l : List Nat},l.Nodup→c∈l→(l.filter fun j=>P j || decide (j = c)).length = (l.filter P).length + 1
 | [],_,h=>absurd h List.not_mem_nil
 | a :: l,hn,h=>by
  rw [List.nodup_cons] at hn
  by_cases e : a = c
  ·subst e
   rw [List.filter_cons_of_pos (by simp),List.filter_cons_of_neg (by simp [hc]),List.length_cons]
   congr 2
   refine List.filter_congr fun j hj=>?_
   have : j≠a:=fun z=>hn.1 (z ▸ hj)
   simp [this]
  ·have ih:=zgH hc hn.2 ((List.mem_cons.mp h).resolve_left fun z=>e z.symm)
   cases hp : P a with
   | true=>rw [List.filter_cons_of_pos (by simp [hp]),List.filter_cons_of_pos hp,List.length_cons,List.length_cons,ih]
   | false=>rw [List.filter_cons_of_neg (by simp [hp,e]),List.filter_cons_of_neg (by simp [hp]),ih]
theorem znP {H : Hp} {Pt b : Addr} {pos : Pos} {q : Str} {o' o : HO} (x : zaG H Pt pos q) (hb : H b = some o') (n1 : ∀ tab,o'≠.tbl tab) (n2 : ∀ F,o'≠.ext F) : zaG (upd H b o) Pt pos q:=by
 obtain ⟨tab,h1,h2,h3⟩:=x.ex
 have m1 : Pt≠b:=fun z=>by
  rw [z,hb] at h1
  exact n1 _ (Option.some.inj h1)
 refine ⟨tab,by rw [zag m1]; exact h1,h2,?_⟩
 rcases h3 with h3 | ⟨c,h3,h4⟩
 ·exact .inl h3
 ·refine .inr ⟨c,h3,?_⟩
  have m2 : c≠b:=fun z=>by
   rw [z] at h4
   rw [show H b = _ from h4] at hb
   exact n2 _ (Option.some.inj hb).symm
  show upd H b o c = _
  rw [zag m2]
  exact h4
section
variable {P : Program} {w : World} {K : PySem.W.Frag} {mg : Str→Option Value} {base : Heap} {f : Addr} {Av : List Addr} {mp : Addr} {fp : Addr→Prop} {R : List (Nat×Nat)→Hp→Prop} {ps : List Nat} {rows : List (List Int)} {key : Int} {br : Addr} {xs : List V} {L L5 : List (Nat×Nat)} {H H5 H6 : Hp}
theorem za5.put {b : Addr} {o' : HO} (AF : AskF P w K mg base f Av mp fp R ps rows key) (S : za5 Av mp R ps rows br xs L H) (S5 : za5 Av mp R ps rows br xs L5 H5) (k : KpA Av mp H H5) (hb : H b = none) (nf : ¬ fp b) (h5 : H5 b = some o') (n1 : ∀ tab,o'≠.tbl tab) (n2 : ∀ F,o'≠.ext F) (o : HO) :
  za5 Av mp R ps rows br xs L5 (upd H5 b o)∧KpA Av mp H (upd H5 b o):=by
 have k' : KpA Av mp H (upd H5 b o):=fun c u m1 m2 e=>by
  rw [zag (zab e hb)]
  exact k _ _ m1 m2 e
 have hR : R L5 (upd H5 b o):=AF.keep _ _ _ S5.r fun c u hc e=>by
  have n : c≠b:=fun z=>by
   rw [z] at hc
   exact nf hc
  rw [zag n]
  exact e
 exact ⟨S.kp k' (znP S5.tb h5 n1 n2) hR (AF.avl _ _ hR),k'⟩
theorem za5.more (AF : AskF P w K mg base f Av mp fp R ps rows key) (S5 : za5 Av mp R ps rows br xs L5 H5) (s : Same H5 H6) : za5 Av mp R ps rows br xs L5 H6:=by
 have hR:=AF.keep _ _ _ S5.r fun b o _ e=>s b o e
 exact S5.kp (.of s) (S5.tb.ext s.ext) hR (AF.avl _ _ hR)
end
def zhI (H : Hp) (ps : List Nat) (rows : List (List Int)) (key : Int) (k : Nat) (z : V) : Prop:=∃ t,z = .ref t∧H t = some (.tup [.int (k : Nat),.int ((zan (zaj ps rows k) key : Nat) : Int),.int ((ownB rows k key : Nat) : Int)])
theorem ze9 {H H' : Hp} {ps : List Nat} {rows : List (List Int)} {key : Int} {ks : List Nat} {zs : List V} (k : ∀ b us,H b = some (.tup us)→H' b = some (.tup us)) (h : Paired (zhI H ps rows key) ks zs) : Paired (zhI H' ps rows key) ks zs:=zaw (fun _ _ ⟨t,e1,e2⟩=>⟨t,e1,k _ _ e2⟩) h
def zkt (P : Program) (w : World) (K : PySem.W.Frag) (mg : Str→Option Value) (base : Heap) (mp : Addr) : Sp:=fun vs H Q _=>∃ (br f : Addr) (xs : List V) (ps : List Nat) (rows : List (List Int)) (k0 : Nat) (key : Int) (Av : List Addr) (fp : Addr→Prop) (R : List (Nat×Nat)→Hp→Prop) (L : List (Nat×Nat)),vs = [.ref br,.int k0,.ref f]∧
 AskF P w K mg base f Av mp fp R ps rows key∧za5 Av mp R ps rows br xs L H∧zaA ps∧za4 rows∧ps.length≤40∧k0 < ps.length + 1∧L.length≤1000∧(∀ k,k < ps.length + 1→(zaj ps rows k).length≤1000)∧
 ∀ (D : Addr) (zs : List V) (H' : Hp) (L' : List (Nat×Nat)),za5 Av mp R ps rows br xs (L ++ L') H'→KpA Av mp H H'→H D = none→H' D = some (.lst zs)→Paired (zhI H' ps rows key) (benL ps k0 (ps.length + 1)) zs→
  L'.length≤figN (zaj ps rows k0).length + 2 * ((benL ps k0 (ps.length + 1)).length - 1)→Q (.ref D) H'
theorem zmx (T : Txt K mg) {mp : Addr} (D_search_beneath : DF K mg "search_beneath" zbq za0) (F_first_place : FC P w K mg base 5 "first_place" zaW (zhO P w K mg base mp)) (F_next_place : FC P w K mg base 3 "next_place" zbk (zko P w K mg base mp)) : FC P w K mg base 6 "search_beneath" za0 (zkt P w K mg base mp):=by
 refine D_search_beneath.ok sc_search_beneath (fun vs H Q E h=>?_) (fun f cdv A outer s H vs Q E hr h=>?_)
 ·obtain ⟨br,f,xs,ps,rows,k0,key,Av,fp,R,L,rfl,_⟩:=h
  rfl
 obtain ⟨br,f,xs,ps,rows,k0,key,Av,fp,R,L,rfl,AF,S,hT,hR,few,hk0,hLn,hFn,q⟩:=h
 refine ⟨_,(zaf (zaq (i:=3) sc_search_beneath.nd rfl (Or.inl rfl) (zkH (zeY (pv 1) (zaE F_first_place hr (zaa (pv 0) (zaa (pv 1) (zaa (pv 2) zad)))) zkB) rfl rfl (by simp) (by decide)))
   (zaf (zaq (i:=4) sc_search_beneath.nd rfl (Or.inl rfl) (zbQ zad))
   (zaf (zbd PassesOwn.never rfl (zc4 rfl T.m_range (zaa (pv 1) (zaa (zap zam rfl T.m_len boot_len (zaa (pv 0) zad)) zad))) (zas (i:=5) sc_search_beneath.nd rfl (Or.inl rfl)) (zah (zbO (zaC (op_inK (zcB hr)) (pv 5) (pv 3) (by with_unfolding_all rfl)) (zaf (zaq (i:=6) sc_search_beneath.nd rfl (Or.inl rfl) (zb3 (zcB hr) (pv 3) (pv 5) (fun _ _=>rfl)))
   (zaf (zbu (zd4 F.plainAttrs_list F.slot_list_append F.type_list_append za2 (pv 4) (zaa (zb2 (zaa (pv 5) (zaa (pv 6) (zaa (zaB zaz (zaB zaL (zaB zaz (pv 0) (pv 5) (fun _ _=>rfl)) zae (fun _ _=>rfl)) (pv 6) (fun _ _=>rfl)) zad)))) zad)))
   (zah (zbd PassesOwn.never rfl (zbD (zaB zaL (zaB zaz (pv 0) (pv 5) (fun _ _=>rfl)) zae (fun _ _=>rfl))) (zas (i:=7) sc_search_beneath.nd rfl (Or.inl rfl)) (zah (zdF (zcB hr) (pv 3) (zaB zaL (pv 7) zae (fun _ _=>rfl)) (zaE F_next_place hr (zaa (pv 0) (zaa (zaB zaL (pv 7) zae (fun _ _=>rfl)) (zaa (zaB zaz (zaB zaL (pv 7) zae (fun _ _=>rfl)) (pv 6) (fun _ _=>rfl)) (zaa (pv 2) zad))))) rfl)))))) zaN)))
   (zah (zat (pv 4)))))),?_⟩
 have hxl:=Paired.length S.ba
 rw [List.length_range] at hxl
 intro pl hpl
 have spl:=zak hpl (.dK [])
 obtain ⟨_,npA,npm⟩:=S.free (fun _ _ _ _ h=>h) hpl
 have nfp : ¬ fp pl:=fun z=>AF.alloc _ _ _ S.r z hpl
 refine ⟨_,rfl,_,rfl,_,rfl,_,rfl,br,f,xs,ps,rows,k0,key,Av,fp,R,L,rfl,AF,S.more AF spl,hT,hR,hk0,by omega,hFn _ hk0,fun H1 L1 S1 k1 hL1=>?_⟩
 have h1p : H1 pl = some (.dK []):=k1 _ _ npA npm zac
 refine ⟨h1p,[(.inl (k0 : Int),.int ((zan (zaj ps rows k0) key : Nat) : Int))],rfl,by show 1≤15; decide,?_⟩
 have k01 : KpA Av mp H H1:=KpA.trans (.of spl) k1
 obtain ⟨S2,k02⟩:=za5.put AF S S1 k01 hpl nfp h1p (fun _ z=>nomatch z) (fun _ z=>nomatch z) (.dK (zc7 [] [(.inl (k0 : Int),.int ((zan (zaj ps rows k0) key : Nat) : Int))]))
 have h2p : upd H1 pl (.dK (zc7 [] [(.inl (k0 : Int),.int ((zan (zaj ps rows k0) key : Nat) : Int))])) pl = some (.dK [(.inl (k0 : Int),.int ((zan (zaj ps rows k0) key : Nat) : Int))]):=zac
 generalize upd H1 pl (.dK (zc7 [] [(.inl (k0 : Int),.int ((zan (zaj ps rows k0) key : Nat) : Int))])) = H2 at S2 k02 h2p ⊢
 refine ⟨(by show 0≤sizeLine; decide),fun D hD=>?_⟩
 have sD:=zak hD (.lst [])
 obtain ⟨hDn,nDA,nDm⟩:=S2.free k02 hD
 have nfD : ¬ fp D:=fun z=>AF.alloc _ _ _ S2.r z hD
 have npD : pl≠D:=zab h2p hD
 have S3:=S2.more AF sD
 have k03 : KpA Av mp H _:=k02.trans (.of sD)
 have h3p:=sD _ _ h2p
 have h3D : upd H2 D (.lst []) D = some (.lst []):=zac
 generalize upd H2 D (.lst []) = H3 at S3 k03 h3p h3D ⊢
 refine ⟨_,rfl,_,rfl,_,_,rfl,.inl (SqL.of S3.at_),k0,_,rfl,⟨by omega,by omega,by omega,by omega⟩,?_⟩
 have en : (((xs.length : Nat) : Int) - (k0 : Int)).toNat = ps.length + 1 - k0:=by omega
 rw [en]
 refine za9 (n:=ps.length + 1 - k0) (fun i σ H5=>∃ (x5 x6 x7 : Option V) (kvs : List (Key×V)) (zs : List V) (L5 : List (Nat×Nat)),σ = [some (.ref br),some (.int k0),some (.ref f),some (.ref pl),some (.ref D),x5,x6,x7]∧H5 pl = some (.dK kvs)∧(∀ j : Nat,valV kvs (.inl (j : Int)) = if plcB ps k0 (k0 + i) j = true then some (.int ((zan (zaj ps rows j) key : Nat) : Int)) else none)∧kvs.length = ((List.range (ps.length + 1)).filter (plcB ps k0 (k0 + i))).length∧
  H5 D = some (.lst zs)∧Paired (zhI H5 ps rows key) (benL ps k0 (k0 + i)) zs∧za5 Av mp R ps rows br xs (L ++ L5) H5∧KpA Av mp H H5∧L5.length + 2≤figN (zaj ps rows k0).length + 2 * kvs.length) ?_ ?_ ?_
 ·refine ⟨_,_,_,_,[],L1,rfl,h3p,fun j=>?_,?_,h3D,?_,S3,k03,by show _≤_ + 2 * 1; omega⟩
  ·rw [Nat.add_zero,zg5 hT]
   unfold valV
   by_cases c : j = k0
   ·subst c
    rw [decide_eq_true rfl,List.find?_cons_of_pos (by simp)]
    rfl
   ·rw [decide_eq_false c,List.find?_cons_of_neg (by simp; omega)]
    rfl
  ·have e : (List.range (ps.length + 1)).filter (plcB ps k0 (k0 + 0)) = (List.range (ps.length + 1)).filter fun j=>(fun _=>false) j || decide (j = k0):=List.filter_congr fun j _=>by rw [Nat.add_zero,zg5 hT,Bool.false_or]
   rw [e,zgH rfl List.nodup_range (List.mem_range.mpr hk0),List.filter_eq_nil_iff.mpr (fun _ _=>by simp)]
   rfl
  ·have e : benL ps k0 (k0 + 0) = []:=List.filter_eq_nil_iff.mpr fun j hj=>by
    have:=List.mem_range.mp hj
    rw [zda hT (by omega)]
    decide
   rw [e]
   exact .nil
 ·rintro i σ H5 hi ⟨x5,x6,x7,kvs,zs,L5,rfl,h5p,hval,hkl,h5D,hTr,S5,k05,hL5⟩
  have ee : (k0 : Int) + (i : Int) = ((k0 + i : Nat) : Int):=by omega
  rw [ee]
  have he : k0 + i < ps.length + 1:=by omega
  have hke : k0≤k0 + i:=by omega
  have hsucc:=zkD hT hke
  have hself:=zkE hT (k0:=k0) (e:=k0 + i)
  have hev:=hval (k0 + i)
  have hbs : benL ps k0 (k0 + (i + 1)) = benL ps k0 (k0 + i) ++ (if isB ps k0 (k0 + i) = true then [k0 + i] else []):=zfB
  have hcn:=zdK ps (k0 + i) (ps.length + 1)
  have hcm:=fun j=>zay (ps:=ps) (k:=k0 + i) (n:=ps.length + 1) (j:=j)
  have ec : k0 + (i + 1) = k0 + i + 1:=by omega
  rw [ec] at hbs
  rw [ec]
  generalize k0 + i = e at *
  have hg:=DGet.k (k:=(.inl (e : Int))) h5p
  rw [hev,hself] at hg
  refine ⟨_,rfl,_,rfl,pl,_,rfl,hg,_,rfl,?_⟩
  cases hB : isB ps k0 e with
  | false=>
   refine iteF ?_
   refine ⟨_,_,_,kvs,zs,L5,rfl,h5p,fun j=>?_,?_,h5D,?_,S5,k05,hL5⟩
   ·rw [hval j,hsucc j,hB,Bool.false_and,Bool.or_false]
   ·rw [hkl]
    congr 1
    exact List.filter_congr fun j _=>by rw [hsucc j,hB,Bool.false_and,Bool.or_false]
   ·rw [hbs,hB,if_neg (by decide),List.append_nil]
    exact hTr
  | true=>
   rw [hB] at hg hbs
   rw [if_pos rfl] at hg hbs
   refine iteT ?_
   refine ⟨_,rfl,_,rfl,pl,_,rfl,hg,?_⟩
   obtain ⟨x,hx,b,o,jj,ys,rfl,_,njA,hb,ho,hj,hJ⟩:=zba S5.ba he
   have hzl:=Paired.length hTr
   have hbl:=zgM ps k0 e
   refine ⟨_,rfl,.inl ⟨rfl,_,SqL.of h5D⟩,_,rfl,_,rfl,_,rfl,_,rfl,_,_,_,_,rfl,rfl,SqL.of S5.at_,zaJ hx,_,_,_,_,rfl,rfl,SqT.of hb,rfl,_,rfl,_,_,_,_,rfl,rfl,SqL.of ho,zgt hT hR he key,(by show 3≤sizeLine; decide),fun t ht=>?_⟩
   have s6:=zak ht (.tup [.int (e : Int),.int ((zan (zaj ps rows e) key : Nat) : Int),.int ((ownB rows e key : Nat) : Int)])
   have S6:=S5.more AF s6
   have k06 : KpA Av mp H _:=k05.trans (.of s6)
   have h6t : upd H5 t (.tup [.int (e : Int),.int ((zan (zaj ps rows e) key : Nat) : Int),.int ((ownB rows e key : Nat) : Int)]) t = _:=zac
   have h6D:=s6 _ _ h5D
   have h6p:=s6 _ _ h5p
   have hTr6:=ze9 (fun b us h=>s6 b _ h) hTr
   have h6b:=s6 _ _ hb
   have h6j:=s6 _ _ hj
   have hJ6:=zaw (fun _ _ h=>zbp.same s6 h) hJ
   generalize upd H5 t (.tup [.int (e : Int),.int ((zan (zaj ps rows e) key : Nat) : Int),.int ((ownB rows e key : Nat) : Int)]) = H6 at S6 k06 h6t h6D h6p hTr6 h6b h6j hJ6 ⊢
   refine ⟨_,_,_,rfl,rfl,h6D,zar (by omega),?_⟩
   obtain ⟨S7,k07⟩:=za5.put AF S S6 k06 hDn nfD h6D (fun _ z=>nomatch z) (fun _ z=>nomatch z) (.lst (zs ++ [.ref t]))
   have nD : ∀ {x : Addr} {us : List V},H6 x = some (.tup us)→x≠D:=fun {x us} h z=>by
    rw [z,h6D] at h
    cases h
   have hTr7 : Paired (zhI (upd H6 D (.lst (zs ++ [.ref t]))) ps rows key) (benL ps k0 (e + 1)) (zs ++ [.ref t]):=by
    rw [hbs]
    exact zb4 (ze9 (fun b us h=>by rw [zag (nD h)]; exact h) hTr6) ⟨t,rfl,by rw [zag (nD h6t)]; exact h6t⟩
   have h7D : upd H6 D (.lst (zs ++ [.ref t])) D = some (.lst (zs ++ [.ref t])):=zac
   have h7p : upd H6 D (.lst (zs ++ [.ref t])) pl = some (.dK kvs):=by rw [zag npD]; exact h6p
   generalize upd H6 D (.lst (zs ++ [.ref t])) = H7 at S7 k07 hTr7 h7D h7p ⊢
   clear hJ6 h6j h6b hTr6 h6p h6D h6t k06 S6 s6 ht hJ hj hb ho hx
   obtain ⟨x,hx,b,o,jj,ys,rfl,_,njA,hb,ho,hj,hJ⟩:=zba S7.ba he
   have hyl:=Paired.length hJ
   have hcl:=zdr ps e (ps.length + 1)
   refine ⟨_,rfl,_,rfl,_,_,_,_,rfl,rfl,SqL.of S7.at_,zaJ hx,_,_,_,_,rfl,rfl,SqT.of hb,rfl,jj,rfl,⟨_,SqL.of hj⟩,?_⟩
   have npj : jj≠pl:=fun z=>by
    rw [z,h7p] at hj
    cases hj
   refine zed (xs:=ys) (fun m σ H8=>∃ (x7 : Option V) (kvs : List (Key×V)) (L8 : List (Nat×Nat)),σ = [some (.ref br),some (.int k0),some (.ref f),some (.ref pl),some (.ref D),some (.int e),some (.int ((zan (zaj ps rows e) key : Nat) : Int)),x7]∧H8 pl = some (.dK kvs)∧(∀ j : Nat,valV kvs (.inl (j : Int)) = if (plcB ps k0 e j || decide (j∈(zaF ps e (ps.length + 1)).take m)) = true then some (.int ((zan (zaj ps rows j) key : Nat) : Int)) else none)∧kvs.length = ((List.range (ps.length + 1)).filter fun j=>plcB ps k0 e j || decide (j∈(zaF ps e (ps.length + 1)).take m)).length∧
    za5 Av mp R ps rows br xs (L ++ L8) H8∧KpA Av mp H H8∧L8.length + 2≤figN (zaj ps rows k0).length + 2 * kvs.length∧∀ b o,b∉Av→b≠mp→b≠pl→H7 b = some o→H8 b = some o) ?_ ?_ ?_ ?_
   ·refine ⟨_,kvs,L5,rfl,h7p,fun j=>?_,?_,S7,k07,hL5,fun _ _ _ _ _ h=>h⟩
    ·rw [hval j]
     simp
    ·rw [hkl]
     simp
   ·rintro m σ H8 _ ⟨x7,kvs,L8,rfl,_,_,_,_,_,_,k78⟩
    exact SqL.of (k78 _ _ njA (S7.nm hj (fun _ z=>nomatch z)) npj hj)
   ·rintro m x σ H8 hxm ⟨x7,kvs,L8,rfl,h8p,hval8,hkl8,S8,k08,hL8,k78⟩
    obtain ⟨c,hc,a,sa,rfl,nsA,ha,hsa⟩:=zdH hJ hxm
    have hmi:=(List.getElem?_eq_some_iff.mp hc).1
    have hcm2:=(hcm c).mp (List.mem_of_getElem? hc)
    have hpar:=hcm2.2
    have hec:=(zaO hT hpar).1
    have npt : ∀ {x : Addr} {us : List V},H7 x = some (.tup us)→x≠pl:=fun {x us} h z=>by
     rw [z,h7p] at h
     cases h
    have h8a:=k78 _ _ (S7.na ha (fun _ z=>nomatch z)) (S7.nm ha (fun _ z=>nomatch z)) (npt ha) ha
    have h8s:=k78 _ _ nsA (S7.nm hsa (fun _ z=>nomatch z)) (fun z=>by rw [z,h7p] at hsa; cases hsa) hsa
    have NO:=zkY hT hR few he hpar (rows:=rows) key
    have hle:=zca (zaj ps rows e) key
    have hat : atI ((zei (zaj ps rows e) (zaj ps rows c)).map nV) ((zan (zaj ps rows e) key : Nat) : Int) = some (nV (stN (zaj ps rows c) ((zaj ps rows e).take (zan (zaj ps rows e) key)))):=zaJ (by
     rw [List.getElem?_map]
     unfold zei
     rw [List.getElem?_map,List.getElem?_range (by omega)]
     rfl)
    have hno : (plcB ps k0 e c || decide (c∈(zaF ps e (ps.length + 1)).take m)) = false:=by
     have h1 : plcB ps k0 e c = false:=by
      unfold plcB
      rw [hpar,decide_eq_false (show ¬ c = k0 by omega)]
      show (isB ps k0 c && (false || decide (e < e))) = false
      rw [decide_eq_false (Nat.lt_irrefl _),Bool.or_false,Bool.and_false]
     have h2 : decide (c∈(zaF ps e (ps.length + 1)).take m) = false:=decide_eq_false fun z=>by
      obtain ⟨i',hi',hi2⟩:=List.getElem_of_mem z
      rw [List.length_take] at hi'
      rw [List.getElem_take] at hi2
      have h3:=(List.getElem?_eq_some_iff.mp hc).2
      exact List.pairwise_iff_getElem.mp hcn i' m (by omega) hmi (by omega) (hi2.trans h3.symm)
     rw [h1,h2]
     rfl
    have hnone:=hval8 c
    rw [hno,if_neg (by decide)] at hnone
    refine ⟨_,rfl,_,rfl,_,_,_,_,rfl,rfl,SqT.of h8a,rfl,_,rfl,_,_,_,_,rfl,rfl,SqT.of h8a,rfl,_,rfl,_,_,_,_,rfl,rfl,SqL.of h8s,hat,_,rfl,br,f,xs,ps,rows,c,_,key,Av,fp,R,_,rfl,AF,S8,hT,hR,hcm2.1,(by have:=zgJ _ _ (Nat.le_refl (zaj ps rows k0).length); have:=hFn _ hk0; have h9 : kvs.length≤ps.length + 1:=by { rw [hkl8]; exact Nat.le_trans (List.length_filter_le _ _) (by rw [List.length_range]; exact Nat.le_refl _) }; rw [List.length_append]; omega),NO.lo,NO.hi,fun H9 L9 S9 k9 hL9=>?_⟩
    have k09:=k08.trans k9
    have h9p:=k9 _ _ npA npm h8p
    have h9a:=S8.tup k9 h8a
    have hkl9 : kvs.length≤ps.length + 1:=by
     rw [hkl8]
     exact Nat.le_trans (List.length_filter_le _ _) (by rw [List.length_range]; exact Nat.le_refl _)
    obtain ⟨S10,k010⟩:=za5.put AF S S9 k09 hpl nfp h9p (fun _ z=>nomatch z) (fun _ z=>nomatch z) (.dK (putK kvs (.inl (c : Int)) (.int ((zan (zaj ps rows c) key : Nat) : Int))))
    refine ⟨_,rfl,_,rfl,_,_,_,_,rfl,rfl,SqT.of h9a,rfl,pl,_,rfl,DPut.k (k:=.inl (c : Int)) h9p (zar (by omega)),?_⟩
    have htk : (zaF ps e (ps.length + 1)).take (m + 1) = (zaF ps e (ps.length + 1)).take m ++ [c]:=by
     rw [List.take_succ_eq_append_getElem hmi,(List.getElem?_eq_some_iff.mp hc).2]
    have hor : ∀ j,(plcB ps k0 e j || decide (j∈(zaF ps e (ps.length + 1)).take (m + 1))) = ((plcB ps k0 e j || decide (j∈(zaF ps e (ps.length + 1)).take m)) || decide (j = c)):=fun j=>by
     rw [htk,Bool.or_assoc]
     congr 1
     simp
    refine ⟨_,_,L8 ++ L9,rfl,zac,fun j=>?_,?_,by rw [← List.append_assoc]; exact S10,k010,?_,fun b o n1 n2 n3 h=>?_⟩
    ·rw [zl5,hor j]
     by_cases z : j = c
     ·subst z
      rw [if_pos rfl,decide_eq_true rfl,Bool.or_true,if_pos rfl]
     ·rw [if_neg (fun y=>z (by have:=Sum.inl.inj y; omega)),hval8 j,decide_eq_false z,Bool.or_false]
    ·rw [zcI _ hnone,List.length_append,List.length_singleton,hkl8]
     have e2 : ((List.range (ps.length + 1)).filter fun j=>plcB ps k0 e j || decide (j∈(zaF ps e (ps.length + 1)).take (m + 1))) = (List.range (ps.length + 1)).filter fun j=>(fun j=>plcB ps k0 e j || decide (j∈(zaF ps e (ps.length + 1)).take m)) j || decide (j = c):=List.filter_congr fun j _=>hor j
     rw [e2,zgH (P:=fun j=>plcB ps k0 e j || decide (j∈(zaF ps e (ps.length + 1)).take m)) hno List.nodup_range (List.mem_range.mpr hcm2.1)]
    ·rw [zcI _ hnone,List.length_append,List.length_append,List.length_singleton]
     omega
    ·rw [zag n3]
     exact k9 _ _ n1 n2 (k78 _ _ n1 n2 n3 h)
   ·rintro σ H8 ⟨x7,kvs,L8,rfl,h8p,hval8,hkl8,S8,k08,hL8,k78⟩
    rw [List.take_of_length_le (by omega)] at hkl8
    refine ⟨_,_,_,kvs,_,L8,rfl,h8p,fun j=>?_,?_,k78 _ _ nDA nDm (Ne.symm npD) h7D,?_,S8,k08,hL8⟩
    ·rw [hval8 j,List.take_of_length_le (by omega),hsucc j,hB,Bool.true_and]
    ·rw [hkl8]
     congr 1
     exact List.filter_congr fun j _=>by rw [hsucc j,hB,Bool.true_and]
    ·exact ze9 (fun b us h=>k78 _ _ (S7.na h (fun _ z=>nomatch z)) (S7.nm h (fun _ z=>nomatch z)) (fun z=>by rw [z,h7p] at h; cases h) h) hTr7
 rintro σ H5 ⟨x5,x6,x7,kvs,zs,L5,rfl,h5p,hval,hkl,h5D,hTr,S5,k05,hL5⟩
 have en2 : k0 + (ps.length + 1 - k0) = ps.length + 1:=by omega
 rw [en2] at hTr hkl
 refine ⟨_,rfl,q D zs H5 L5 S5 k05 hDn h5D hTr ?_⟩
 have hle : ((List.range (ps.length + 1)).filter (plcB ps k0 (ps.length + 1))).length≤(benL ps k0 (ps.length + 1)).length:=by
  unfold benL
  rw [← List.countP_eq_length_filter,← List.countP_eq_length_filter]
  refine List.countP_mono_left fun j _ hj=>?_
  unfold plcB at hj
  exact (Bool.and_eq_true_iff.mp hj).1
 omega
def zgc (K : PySem.W.Frag) : Sp:=fun vs H Q _=>∃ (ad pf : Addr) (zs : List V) (qs : List Addr) (ps : List Nat) (rows : List (List Int)) (key : Int) (kn i : Nat),vs = [.ref ad,.ref pf,.int key,.int kn,.int i]∧H ad = some (.lst zs)∧zs.length≤9000∧H pf = some (.lst (qs.map V.ref))∧zau K H ps rows (List.range (ps.length + 1)) qs∧kn < ps.length + 1∧i < (zaj ps rows kn).length∧ad≠pf∧ad∉qs∧
 ∀ t,H t = none→Q (.bl (decide (((zaj ps rows kn).getD i (0,0)).1 < key))) (upd (upd H t (.tup [nV kn,nV i])) ad (.lst (zs ++ [.ref t])))
theorem zmp (T : Txt K mg) (D_l_asked : DF K mg "_law_asked" zdV zbV) : FC P w K mg base 1 "_law_asked" zbV (zgc K):=by
 refine D_l_asked.ok sc_l_asked (fun vs H Q E h=>?_) (fun f cdv A outer s H vs Q E hr h=>?_)
 ·obtain ⟨ad,pf,zs,qs,ps,rows,key,kn,i,rfl,_⟩:=h
  rfl
 obtain ⟨ad,pf,zs,qs,ps,rows,key,kn,i,rfl,ha,hz,hp,hF,hkn,hi,n1,n2,q⟩:=h
 refine ⟨_,(zaf (zbu (zd4 F.plainAttrs_list F.slot_list_append F.type_list_append za2 (pv 0) (zaa (zb2 (zaa (pv 3) (zaa (pv 4) zad))) zad)))
   (zah (zat (zkJ (ziV op_le zgv zae (pv 4) (zap zam rfl T.m_len boot_len (zaa (zaB zaz (pv 1) (pv 3) (fun _ _=>rfl)) zad))) (zkG (zkI zgv (zaB zaL (zaB zaz (zaB zaz (pv 1) (pv 3) (fun _ _=>rfl)) (pv 4) (fun _ _=>rfl)) zae (fun _ _=>rfl)) (pv 2) (zaP _))))))),?_⟩
 refine ⟨_,rfl,.inl ⟨rfl,_,SqL.of ha⟩,_,rfl,_,rfl,(by show 2≤sizeLine; decide),fun t ht=>?_⟩
 have st:=zak ht (.tup [nV kn,nV i])
 have q1:=q t ht
 have hat:=st _ _ ha
 refine ⟨_,_,_,rfl,rfl,hat,Nat.lt_of_le_of_lt hz (by decide),?_⟩
 obtain ⟨qk,hqk,wk,hwk,hak⟩:=zba hF hkn
 have hge : (zaj ps rows kn)[i]? = some ((zaj ps rows kn).getD i (0,0)):=by
  rw [List.getD_eq_getElem?_getD,List.getElem?_eq_getElem hi]
  rfl
 obtain ⟨v,hv,bb,x1,x2,rfl,hb,e1,e2⟩ : ∃ v,wk[i]? = some v∧hasP K H ((zaj ps rows kn).getD i (0,0)) v:=zdm hak hge
 have e1' : x1 = .int ((zaj ps rows kn).getD i (0,0)).1:=e1
 subst e1'
 have hwl:=hak.length
 have kk : ∀ {b : Addr} {o : HO},b≠ad→H b = some o→upd (upd H t (.tup [nV kn,nV i])) ad (.lst (zs ++ [.ref t])) b = some o:=fun n e=>by
  rw [zag n]
  exact st _ _ e
 have hp':=kk (Ne.symm n1) hp
 have hw':=kk (fun z=>n2 (z ▸ List.mem_of_getElem? hqk)) hwk
 have hb':=kk (fun z=>by rw [z,ha] at hb; cases hb) hb
 refine ⟨_,rfl,_,_,rfl,rfl,_,rfl,?_⟩
 refine zol (by omega) ?_
 refine ⟨_,rfl,_,rfl,_,_,_,_,rfl,rfl,SqL.of hp',zaJ (v:=.ref qk) (by rw [List.getElem?_map,hqk]; rfl),_,_,rfl,.inl (SqL.of hw'),_,_,rfl,rfl,_,rfl,?_⟩
 refine zol (by omega) ?_
 refine ⟨_,rfl,_,rfl,_,_,_,_,rfl,rfl,SqL.of hp',zaJ (v:=.ref qk) (by rw [List.getElem?_map,hqk]; rfl),_,rfl,_,_,_,_,rfl,rfl,SqL.of hw',zaJ hv,_,_,_,_,rfl,rfl,SqT.of hb',rfl,_,rfl,_,_,rfl,rfl,?_⟩
 exact q1
def znW (K : PySem.W.Frag) : Sp:=fun vs H Q _=>∃ n : Nat,vs = [.int n]∧Q (.int (figN n : Nat)) H
theorem ok_fig (T : Txt K mg) (D_l_figures : DF K mg "_law_figures" zcF zbw) : FC P w K mg base 1 "_law_figures" zbw (znW K):=by
 refine D_l_figures.ok sc_l_figures (fun vs H Q E h=>?_) (fun f cdv A outer s H vs Q E hr h=>?_)
 ·obtain ⟨n,rfl,_⟩:=h
  rfl
 obtain ⟨n,rfl,q⟩:=h
 refine ⟨_,(zaf (zaq (i:=1) sc_l_figures.nd rfl (Or.inl rfl) zae)
   (zaf (zeX PassesOwn.never (zaC zjC (pv 0) zae (zaP _)) (zaf (zaq (i:=0) sc_l_figures.nd rfl (Or.inl rfl) (zax zgw (pv 0) zae))
   (zah (zaq (i:=1) sc_l_figures.nd rfl (Or.inl rfl) (zax zbf (pv 1) zae)))))
   (zah (zat (pv 1))))),?_⟩
 refine ze7 (fun σ H'=>∃ m c : Nat,σ = [some (.int m),some (.int c)]∧c + figN m = figN n∧H = H') (fun σ H'=>σ = [some (.int 0),some (.int (figN n : Nat))]∧H = H') (fun σ _=>match σ with | [some (.int m),_]=>m.toNat | _=>0) ?_ ?_ ?_ ?_
 ·exact ⟨n,0,rfl,Nat.zero_add _,rfl⟩
 ·rintro σ H' ⟨m,c,rfl,e,rfl⟩
  refine ⟨_,rfl,_,_,rfl,rfl,_,rfl,?_⟩
  refine ite2 (fun z=>?_) (fun z=>?_)
  ·have z : (m : Int) > 0:=of_decide_eq_true z
   refine ⟨_,rfl,_,_,rfl,rfl,⟨by decide,by decide⟩,?_⟩
   refine ⟨_,rfl,_,_,rfl,rfl,⟨m / 2,c + 1,?_,?_,rfl⟩,?_⟩
   ·show [some (V.int ((m : Int) / 2)),some (V.int ((c : Int) + 1))] = _
    rw [show ((m / 2 : Nat) : Int) = (m : Int) / 2 by omega,show ((c + 1 : Nat) : Int) = (c : Int) + 1 by omega]
   ·rw [zef (show m≠0 by omega)] at e
    omega
   ·show ((m : Int) / 2).toNat < (m : Int).toNat
    omega
  ·have z : ¬ (m : Int) > 0:=of_decide_eq_false (Bool.eq_false_iff.mpr z)
   have m0 : m = 0:=by omega
   subst m0
   rw [zee,Nat.add_zero] at e
   rw [e]
   exact ⟨rfl,rfl⟩
 ·intro σ H Q Q' m h
  obtain ⟨y1,e1,i2,j2,f2,g2,b2,e5,q⟩:=h
  exact ⟨y1,e1,i2,j2,f2,g2,b2,e5,m _ _ q⟩
 rintro σ H' ⟨rfl,rfl⟩
 exact ⟨_,rfl,q⟩
def znj (K : PySem.W.Frag) : Sp:=fun vs H Q _=>∃ (t : Addr) (ps : List Nat) (k : Nat),vs = [.ref t,.int k]∧H t = some (.tup (zco ps))∧zaA ps∧ps.length≤40∧k < ps.length + 1∧
 ∀ (p : Addr) (w : List Nat) (H' : Hp),H p = none→Same H H'→zeG H' p ps w→w.getD 0 0 = 0→w.getD (w.length - 1) 0 = k→Q (.ref p) H'
theorem zn9 (T : Txt K mg) (D_l_down : DF K mg "_law_down" zeS zc1) : FC P w K mg base 1 "_law_down" zc1 (znj K):=by
 refine D_l_down.ok sc_l_down (fun vs H Q E h=>?_) (fun f cdv A outer s H vs Q E hr h=>?_)
 ·obtain ⟨t,ps,k,rfl,_⟩:=h
  rfl
 obtain ⟨t,ps,k,rfl,ht,hT,hz,hk,q⟩:=h
 refine ⟨_,(zaf (zaq (i:=2) sc_l_down.nd rfl (Or.inl rfl) (zbQ (zaa (pv 1) zad)))
   (zaf (zeX PassesOwn.never (zaC op_ne (zaB zaz (pv 2) zae (fun _ _=>rfl)) zae (zaP _)) (zah (zbu (zd4 F.plainAttrs_list F.slot_list_insert F.type_list_insert zk0 (pv 2) (zaa zae (zaa (zaB zaL (pv 0) (zaB zaz (pv 2) zae (fun _ _=>rfl)) (fun _ _=>rfl)) zad))))))
   (zah (zat (pv 2))))),?_⟩
 refine ⟨_,rfl,(by show 1≤sizeLine; decide),fun p hp=>?_⟩
 have ntp : t≠p:=zab ht hp
 have k0 : But p H (upd H p (.lst [nV k])):=fun b o n e=>by rw [zag n]; exact e
 refine ze7 (fun σ H'=>∃ (c : Nat) (us : List Nat),σ = [some (.ref t),some (.int k),some (.ref p)]∧H' p = some (.lst ((c :: us).map nV))∧zis ps (c :: us)∧(∀ x∈c :: us,x < ps.length + 1)∧(c :: us).getD us.length 0 = k∧us.length + c≤k∧But p H H') (fun σ H'=>∃ us : List Nat,σ = [some (.ref t),some (.int k),some (.ref p)]∧H' p = some (.lst ((0 :: us).map nV))∧zis ps (0 :: us)∧(∀ x∈0 :: us,x < ps.length + 1)∧(0 :: us).getD us.length 0 = k∧us.length≤k∧But p H H') (fun _ H'=>match H' p with | some (.lst (.int c :: _))=>c.toNat | _=>0) ?_ ?_ ?_ ?_
 ·refine ⟨k,[],rfl,zac,fun t ht=>?_,fun x hx=>?_,rfl,by show 0 + k≤k; omega,k0⟩
  ·rw [List.length_singleton] at ht
   omega
  ·rw [List.mem_singleton.mp hx]
   exact hk
 ·rintro σ H' ⟨c,us,rfl,h1,hch,hkn,hla,hle,k1⟩
  have h1t:=k1 _ _ ntp ht
  have a0 : atI ((c :: us).map nV) 0 = some (nV c):=zaJ (j:=0) (v:=nV c) rfl
  have hc:=hkn c List.mem_cons_self
  refine ⟨_,rfl,_,_,_,_,rfl,rfl,SqL.of h1,a0,rfl,_,rfl,?_⟩
  refine ite2 (fun z=>?_) (fun z=>?_)
  ·have cn : c≠0:=fun y=>by
    subst y
    exact absurd z (by decide)
   obtain ⟨pp,hpp⟩:=zgr (ps:=ps) (k:=c) (by omega) hc
   have hlt:=zaO hT hpp
   refine ⟨_,rfl,.inl ⟨rfl,_,SqL.of h1⟩,_,rfl,_,rfl,_,_,_,_,rfl,rfl,SqL.of h1,a0,_,_,_,_,rfl,rfl,SqT.of h1t,(by rw [zgO hc,zhU.mpr hpp]),p,_,0,_,rfl,rfl,h1,by decide,by decide,zar (by rw [List.length_map,List.length_cons]; omega),?_⟩
   refine ⟨⟨pp,c :: us,rfl,zac,fun t ht=>?_,fun x hx=>?_,?_,?_,fun b o n e=>by rw [zag n]; exact k1 b o n e⟩,?_⟩
   ·cases t with
    | zero=>exact hpp
    | succ t=>exact hch t (by simpa using ht)
   ·rcases List.mem_cons.mp hx with y | y
    ·rw [y]
     omega
    ·exact hkn x y
   ·rw [List.length_cons,List.getD_cons_succ]
    exact hla
   ·rw [List.length_cons]
    omega
   ·show (match upd H' p (.lst (nV pp :: (c :: us).map nV)) p with | some (.lst (.int c :: _))=>c.toNat | _=>0) < (match H' p with | some (.lst (.int c :: _))=>c.toNat | _=>0)
    rw [zac,h1]
    show (pp : Int).toNat < (c : Int).toNat
    omega
  ·have c0 : c = 0:=Classical.byContradiction fun y=>z (by
    have : ¬ (V.int (c : Int) = V.int 0):=fun w=>y (by have:=V.int.inj w; omega)
    rw [decide_eq_false this]
    rfl)
   subst c0
   exact ⟨us,rfl,h1,hch,hkn,hla,by omega,k1⟩
 ·intro σ H Q Q' m h
  obtain ⟨y1,e1,y2,y3,y4,y5,e2,e3,e4,e5,e6,b2,e7,q⟩:=h
  exact ⟨y1,e1,y2,y3,y4,y5,e2,e3,e4,e5,e6,b2,e7,m _ _ q⟩
 rintro σ H' ⟨us,rfl,h1,hch,hkn,hla,hle,k1⟩
 refine ⟨_,rfl,q p (0 :: us) H' hp (fun b o e=>k1 b o (zab e hp) e) ⟨h1,by rw [List.length_cons]; omega,by simp,hch,hkn⟩ rfl ?_⟩
 rw [List.length_cons,Nat.add_sub_cancel]
 exact hla
inductive zgR (K : PySem.W.Frag) (H : Hp) : V→Bool→Prop where
 | int (i : Int) : zgR K H (.int i) true
 | bl (b : Bool) : zgR K H (.bl b) false
 | oth (x : V) (t : String) (ty : TyOf K H x (.type t)) (h2 : kitO t "int" = some false) : zgR K H x false
def zkj (K : PySem.W.Frag) : Sp:=fun vs H Q _=>∃ (x : V) (b : Bool),vs = [x]∧zgR K H x b∧Q (.bl b) H
theorem zml (T : Txt K mg) (D_is_whole : DF K mg "is_whole" zdh zb1) : FC P w K mg base 1 "is_whole" zb1 (zkj K):=by
 refine D_is_whole.ok sc_is_whole (fun vs H Q E h=>?_) (fun f cdv A outer s H vs Q E hr h=>?_)
 ·obtain ⟨x,b,rfl,_⟩:=h
  rfl
 obtain ⟨x,b,rfl,hk,q⟩:=h
 refine ⟨_,(zah (zat (zkJ (zap zgL rfl T.m_isinstance boot_isinstance (zaa (pv 0) (zaa (zhT (v:=.ty "int") rfl T.m_int boot_int rfl) zad))) (zkG (pe_not (zap zgL rfl T.m_isinstance boot_isinstance (zaa (pv 0) (zaa (zhT (v:=.ty "bool") rfl T.m_bool boot_bool rfl) zad)))))))),?_⟩
 cases hk with
 | int i=>
  refine ⟨_,rfl,_,_,_,_,rfl,.int _,kit_ii,_,rfl,?_⟩
  refine iteT ?_
  refine ⟨_,rfl,_,_,_,_,rfl,.int _,kit_ib,_,rfl,?_⟩
  exact q
 | bl c=>
  refine ⟨_,rfl,_,_,_,_,rfl,.bl _,(show kitO "bool" "int" = some true by decide +kernel),_,rfl,?_⟩
  refine iteT ?_
  refine ⟨_,rfl,_,_,_,_,rfl,.bl _,kit_bb,_,rfl,?_⟩
  exact q
 | oth x t ty h2=>
  refine ⟨_,rfl,_,_,_,_,rfl,ty,h2,_,rfl,?_⟩
  refine iteF ?_
  exact q
def zhE (row : List Int) (key : Int) : Nat:=(row.filter fun x=>decide (x < key)).length
theorem zm5 {row : List Int} {key : Int} {m : Nat} (hm : m≤row.length) (h1 : ∀ i,i < m→decide (row.getD i 0 < key) = true) (h2 : ∀ i,m≤i→i < row.length→decide (row.getD i 0 < key) = false) : zhE row key = m:=by
 unfold zhE
 conv=>lhs; rw [← List.take_append_drop m row]
 rw [List.filter_append,List.length_append]
 have e1 : (row.take m).filter (fun x=>decide (x < key)) = row.take m:=by
  rw [List.filter_eq_self]
  intro x hx
  obtain ⟨i,hi,rfl⟩:=List.getElem_of_mem hx
  rw [List.length_take] at hi
  have:=h1 i (by omega)
  rw [List.getD_eq_getElem?_getD,List.getElem?_eq_getElem (by omega)] at this
  rw [List.getElem_take]
  exact this
 have e2 : (row.drop m).filter (fun x=>decide (x < key)) = []:=by
  rw [List.filter_eq_nil_iff]
  intro x hx
  obtain ⟨i,hi,rfl⟩:=List.getElem_of_mem hx
  rw [List.length_drop] at hi
  have:=h2 (m + i) (by omega) (by omega)
  rw [List.getD_eq_getElem?_getD,List.getElem?_eq_getElem (by omega)] at this
  rw [List.getElem_drop]
  intro z
  rw [show decide (row[m + i] < key) = false from this] at z
  cases z
 rw [e1,e2,List.length_take,List.length_nil]
 omega
abbrev lamQ : Str:=(envOfC ("place" : Str) (zai zcU) 0 0 .none).qual ++ "<lambda>"
abbrev zey : Pos:=⟨25,36,25,60⟩
def zkm (K : PySem.W.Frag) (mp : Addr) : Sp:=fun vs H Q _=>∃ (r : Addr) (row : List Int) (key : Int),vs = [.ref r,.int key]∧H r = some (.tup (row.map V.int))∧row.Pairwise (· < ·)∧zaG H mp zey lamQ∧
 ∀ H' : Hp,Gro mp H H'→zaG H' mp zey lamQ→Q (.int (zhE row key : Nat)) H'
theorem zmn (T : Txt K mg) {mc mp : Addr} (D_place : DFT K mg "place" zcU zdk mc mp) (hBM : BMAt mg base) (F_how_many_below : ∀ base,FC P w K mg base 4 "how_many_below" zaM (zks P w K mg base)) : FC P w K mg base 5 "place" zdk (zkm K mp):=by
 refine D_place.ok sc_place (fun vs H Q E h=>?_) (fun f A outer s H vs Q E hr h=>?_)
 ·obtain ⟨r,row,key,rfl,_⟩:=h
  rfl
 obtain ⟨r,row,key,rfl,h0,hup,hT,q⟩:=h
 refine ⟨_,(zah (zat (zjx (kf:=0) F_how_many_below hr (zap zam rfl T.m_len boot_len (zaa (pv 0) zad)) (zi5 (osc:=zai zcU) (N:=["row","key"]) (ps:=["at"]) (caps:=["key","row"]) (cap:=[1,0]) ⟨rfl,rfl,rfl,by decide +kernel,by decide +kernel,by decide +kernel,by decide +kernel⟩ (by decide +kernel) (by decide +kernel) rfl rfl rfl rfl (fun _ _ _ _ us hl=>match us,hl with | [_],_=>rfl) (fun _=>rfl)) rfl D_place.hd hBM (fun _ _ _ _ _ _ _ _ _=>(zkI zgv (zaB (zfp (K:=K)) (pv 2) (pv 0) (fun _ _=>rfl)) (pv 1) (zaP _)))))),?_⟩
 refine ⟨_,rfl,_,_,rfl,.inr (SqT.of h0),hT,[.int key,.ref r],rfl,?_,fun base f c' H2 hg hT2 hC hV=>?_⟩
 ·intro j i v h1 h2
  rcases j with _ | _ | j
  ·cases h1; cases h2; rfl
  ·cases h1; cases h2; rfl
  ·cases h1
 have nmp : r≠mp:=fun z=>by
  obtain ⟨tab,e,_⟩:=hT.ex
  rw [← z,h0] at e
  cases e
 have h2r:=hg _ _ nmp h0
 rw [List.length_map]
 refine ⟨row.length,f,_,_,fun i=>decide (row.getD i 0 < key),fun _ H'=>H' = H2,rfl,FV.mono hV (by decide),rfl,fun i L1 H1 Q1 hi _ hR hQ=>?_,fun i j hij hj hb=>?_,fun m L1 H' hm hb1 hb2 _ hR=>?_⟩
 ·subst hR
  refine ⟨rfl,hC,?_⟩
  have hat : atI (row.map V.int) ((i : Nat) : Int) = some (.int (row.getD i 0)):=zaJ (by rw [List.getElem?_map,List.getElem?_eq_getElem hi,List.getD_eq_getElem?_getD,List.getElem?_eq_getElem hi]; rfl)
  refine ⟨_,rfl,_,rfl,_,_,_,_,rfl,rfl,SqT.of h2r,hat,_,rfl,_,_,rfl,rfl,?_⟩
  exact hQ _ rfl
 ·refine decide_eq_true ?_
  have hb:=of_decide_eq_true hb
  by_cases e : i = j
  ·subst e
   exact hb
  ·have:=List.pairwise_iff_getElem.mp hup i j (by omega) hj (by omega)
   rw [List.getD_eq_getElem?_getD,List.getElem?_eq_getElem (by omega)] at hb ⊢
   exact Int.lt_trans this hb
 ·subst hR
  have e:=zm5 hm hb1 hb2
  have q2:=q _ hg hT2
  rw [e] at q2
  exact q2
def zkn (K : PySem.W.Frag) : Sp:=fun vs H Q _=>∃ (m x : Int),vs = [.int m,.int x]∧0≤x∧x < m∧Q (.bl true) H
theorem zmo (T : Txt K mg) (D_is_one_of_first : DF K mg "is_one_of_first" zbj zaT) (F_is_whole : FC P w K mg base 1 "is_whole" zb1 (zkj K)) : FC P w K mg base 2 "is_one_of_first" zaT (zkn K):=by
 refine D_is_one_of_first.ok sc_is_one_of_first (fun vs H Q E h=>?_) (fun f cdv A outer s H vs Q E hr h=>?_)
 ·obtain ⟨m,x,rfl,_⟩:=h
  rfl
 obtain ⟨m,x,rfl,h0,h1,q⟩:=h
 refine ⟨_,(zah (zat (zkJ (zaE F_is_whole hr (zaa (pv 1) zad)) (zkG (ziV op_le zgv zae (pv 1) (pv 0)))))),?_⟩
 refine ⟨_,rfl,_,true,rfl,.int x,_,rfl,?_⟩
 refine iteT ?_
 refine ⟨_,rfl,_,_,rfl,rfl,_,rfl,?_⟩
 refine zol h0 ?_
 refine ⟨_,rfl,_,_,rfl,rfl,?_⟩
 show Q (.bl (decide (x < m))) H
 rw [decide_eq_true h1]
 exact q
def zkr (K : PySem.W.Frag) : Sp:=fun vs H Q _=>∃ (t a : Addr) (ps w : List Nat),vs = [.ref t,.ref a]∧H t = some (.tup (zco ps))∧ps.length≤900∧H a = some (.lst (w.map nV))∧w.length≤1000∧w≠[]∧zis ps w∧(∀ x∈w,x < ps.length + 1)∧Q (.bl true) H
theorem zmu (T : Txt K mg) (D_is_way : DF K mg "is_way" zeT zc2) (F_is_one_of_first : FC P w K mg base 2 "is_one_of_first" zaT (zkn K)) : FC P w K mg base 3 "is_way" zc2 (zkr K):=by
 refine D_is_way.ok sc_is_way (fun vs H Q E h=>?_) (fun f cdv A outer s H vs Q E hr h=>?_)
 ·obtain ⟨t,a,ps,w,rfl,_⟩:=h
  rfl
 obtain ⟨t,a,ps,w,rfl,ht,hz,ha,hwl,hne,hC,hlt,q⟩:=h
 have hpos : 0 < w.length:=List.length_pos_iff.mpr hne
 refine ⟨_,(zbc (zbO (PW.pt (pw_or (ziR (zfe (zap zgL rfl T.m_isinstance boot_isinstance (zaa (pv 1) (zaa (zhT (v:=.ty "list") rfl T.m_list boot_list rfl) zad))))) (znn (zaC zfF (zap zam rfl T.m_len boot_len (zaa (pv 1) zad)) zae (zaP _))))) (zah (zat zdt)) zaN)
   (zaf (zbd PassesOwn.never rfl (zbD (pv 1)) (zas (i:=2) sc_is_way.nd rfl (Or.inl rfl)) (zah (zbO (ziR (zfe (zaE F_is_one_of_first hr (zaa (zap zam rfl T.m_len boot_len (zaa (pv 0) zad)) (zaa (pv 2) zad))))) (zah (zat zdt)) zaN)))
   (zaf (zbd PassesOwn.never rfl (zc4 rfl T.m_range (zaa zae (zaa (zap zam rfl T.m_len boot_len (zaa (pv 1) zad)) zad))) (zas (i:=3) sc_is_way.nd rfl (Or.inl rfl)) (zah (zbO (zaC op_ne (zaB zaL (pv 0) (zaB zaz (pv 1) (pv 3) (fun _ _=>rfl)) (fun _ _=>rfl)) (zaB zaz (pv 1) (zax zbR (pv 3) zae) (fun _ _=>rfl)) (zaP _)) (zah (zat zdt)) zaN)))
   (zah (zat zdt))))),?_⟩
 refine ⟨fun σ' H'=>σ' = [some (.ref t),some (.ref a),none,none]∧H = H',?_,?_⟩
 ·refine ⟨_,rfl,_,_,_,_,rfl,.lst ha,kit_ll,_,rfl,?_⟩
  refine iteF ?_
  refine ⟨_,rfl,_,_,rfl,.inl (SqL.of ha),rfl,_,rfl,?_⟩
  refine zom (fun z=>?_) ?_
  ·have:=V.int.inj z
   rw [List.length_map] at this
   omega
  exact ⟨rfl,rfl⟩
 rintro σ' H' ⟨rfl,rfl⟩
 refine ⟨_,rfl,a,rfl,⟨_,SqL.of ha⟩,?_⟩
 refine zed (xs:=w.map nV) (fun i σ H2=>∃ x2 : Option V,σ = [some (.ref t),some (.ref a),x2,none]∧H2 = H) ?_ ?_ ?_ ?_
 ·exact ⟨_,rfl,rfl⟩
 ·rintro i σ H2 _ ⟨x2,rfl,rfl⟩
  exact SqL.of ha
 ·rintro i x σ H2 hx ⟨x2,rfl,rfl⟩
  obtain ⟨hi,rfl⟩:=zfY hx
  have hm:=hlt (w.getD i 0) (by rw [List.getD_eq_getElem?_getD,List.getElem?_eq_getElem hi]; exact List.getElem_mem hi)
  refine ⟨_,rfl,_,_,rfl,.inr (SqT.of ht),_,rfl,_,_,rfl,by omega,by rw [zav]; omega,_,rfl,?_⟩
  refine iteF ?_
  exact ⟨_,rfl,rfl⟩
 ·rintro σ H2 ⟨x2,rfl,rfl⟩
  refine ⟨_,rfl,_,_,rfl,.inl (SqL.of ha),1,_,rfl,⟨by omega,by omega,by rw [List.length_map]; omega,by rw [List.length_map]; omega⟩,?_⟩
  have en : ((((w.map nV).length : Nat) : Int) - 1).toNat = w.length - 1:=by rw [List.length_map]; omega
  rw [en]
  refine za9 (n:=w.length - 1) (fun i σ H3=>∃ x2 x3 : Option V,σ = [some (.ref t),some (.ref a),x2,x3]∧H3 = H2) ?_ ?_ ?_
  ·exact ⟨_,_,rfl,rfl⟩
  ·rintro i σ H3 hi ⟨x2,x3,rfl,rfl⟩
   have ek : (1 : Int) + (i : Int) = ((i + 1 : Nat) : Int):=by omega
   rw [ek]
   have h1:=hC i (by omega)
   have hm:=hlt (w.getD (i + 1) 0) (by rw [List.getD_eq_getElem?_getD,List.getElem?_eq_getElem (show i + 1 < w.length by omega)]; exact List.getElem_mem _)
   have hat1 : atI (w.map nV) ((i + 1 : Nat) : Int) = some (nV (w.getD (i + 1) 0)):=zhG (by omega)
   have hat0 : atI (w.map nV) (((i + 1 : Nat) : Int) - 1) = some (nV (w.getD i 0)):=by
    rw [show ((i + 1 : Nat) : Int) - 1 = ((i : Nat) : Int) by omega]
    exact zhG (by omega)
   have hatT:=zgO hm
   rw [zd5 h1] at hatT
   refine ⟨_,rfl,_,rfl,_,rfl,_,_,_,_,rfl,rfl,SqL.of ha,hat1,_,_,_,_,rfl,rfl,SqT.of ht,hatT,_,rfl,_,rfl,_,_,rfl,rfl,_,_,_,_,rfl,rfl,SqL.of ha,hat0,rfl,_,rfl,?_⟩
   refine zmL rfl ?_
   exact ⟨_,_,rfl,rfl⟩
  ·rintro σ H3 ⟨x2,x3,rfl,rfl⟩
   exact q
theorem zeG.same {H H' : Hp} {wa : Addr} {ps w : List Nat} (h : zeG H wa ps w) (e : Same H H') : zeG H' wa ps w:=⟨e _ _ h.at_,h.len,h.ne,h.ch,h.kn⟩
def zng (K : PySem.W.Frag) : Sp:=fun vs H Q _=>∃ (t a : Addr) (ps w : List Nat),vs = [.ref t,.ref a]∧H t = some (.tup (zco ps))∧ps.length≤900∧zeG H a ps w∧Q .non H
theorem zn7 (T : Txt K mg) (D_need_way : DF K mg "need_way" zdg zb0) (F_is_way : FC P w K mg base 3 "is_way" zc2 (zkr K)) : FC P w K mg base 4 "need_way" zb0 (zng K):=by
 refine D_need_way.ok sc_need_way (fun vs H Q E h=>?_) (fun f cdv A outer s H vs Q E hr h=>?_)
 ·obtain ⟨t,a,ps,w,rfl,_⟩:=h
  rfl
 obtain ⟨t,a,ps,w,rfl,ht,hl,W,q⟩:=h
 refine ⟨_,(zah (zbO (ziR (zfe (zaE F_is_way hr (zaa (pv 0) (zaa (pv 1) zad))))) (zah zmf) zaN)),?_⟩
 refine ⟨_,rfl,_,rfl,t,a,ps,w,rfl,ht,hl,W.at_,by have:=W.len; omega,W.ne,W.ch,W.kn,_,rfl,?_⟩
 refine iteF ?_
 exact q
def ziE (K : PySem.W.Frag) : Sp:=fun vs H Q _=>∃ (st wa : Addr) (ps : List Nat) (rows : List (List Int)) (t rs : Addr) (as : List Addr) (w : List Nat),vs = [.ref st,.ref wa]∧zbi H st ps rows t rs as∧zeG H wa ps w∧
 ∀ (p : Addr) (bs : List Addr) (H' : Hp),H p = none→Same H H'→H' p = some (.lst (bs.map V.ref))→zaQ H' bs (w.map (zbt rows))→Q (.ref p) H'
theorem ziu {w : List Nat} {i : Nat} (h : i < w.length) : w.take (i + 1) = w.take i ++ [w.getD i 0]:=by
 rw [List.take_succ_eq_append_getElem h,List.getD_eq_getElem?_getD,List.getElem?_eq_getElem h]
 rfl
theorem znH {w : List Nat} {i : Nat} (h : i < w.length) : w.getD i 0∈w:=by
 rw [List.getD_eq_getElem?_getD,List.getElem?_eq_getElem h]
 exact List.getElem_mem h
theorem zkQ (T : Txt K mg) (D_rows_on : DF K mg "rows_on" zdQ zcq) (F_need_way : FC P w K mg base 4 "need_way" zb0 (zng K)) : FC P w K mg base 5 "rows_on" zcq (ziE K):=by
 refine D_rows_on.ok sc_rows_on (fun vs H Q E h=>?_) (fun f cdv A outer s H vs Q E hr h=>?_)
 ·obtain ⟨st,wa,ps,rows,t,rs,as,w,rfl,_⟩:=h
  rfl
 obtain ⟨st,wa,ps,rows,t,rs,as,w,rfl,S,W,q⟩:=h
 have hwl:=W.len
 refine ⟨_,(zaf (zbu (zaE F_need_way hr (zaa (zaB zaL (pv 0) zae (fun _ _=>rfl)) (zaa (pv 1) zad))))
   (zah (zat (zcl (N:=["knot","stand"]) (own:=1) (cap:=[0]) rfl (zbD (pv 1)) ⟨rfl,rfl,rfl,rfl,rfl,rfl⟩ (fun _ _ _ _ _=>(zas (i:=0) (show List.Nodup (["knot","stand"] : List Str) by decide +kernel) rfl (Or.inl rfl))) (fun _ _ _ _ _=>zbY) (fun _ _ _ _ _=>(zaB (zfp (K:=K)) (zaB (zfp (K:=K)) (pv 1) zae (fun _ _=>rfl)) (pv 0) (fun _ _=>rfl))))))),?_⟩
 refine ⟨_,rfl,_,_,_,_,rfl,rfl,SqT.of S.st,rfl,_,rfl,t,wa,ps,w,rfl,S.tr,by have:=S.few; omega,W,?_⟩
 refine ⟨_,rfl,wa,rfl,⟨_,SqL.of W.at_⟩,fun D hD=>?_⟩
 refine zbG (xs:=w.map nV) (fun i σ H2=>∃ (bs : List Addr) (x0 : Option V),σ = [x0,some (.ref st)]∧H2 D = some (.lst (bs.map V.ref))∧zaQ H2 bs ((w.take i).map (zbt rows))∧But D H H2) ?_ ?_ ?_ ?_
 ·exact ⟨[],_,rfl,zac,.nil,fun b o n e=>by rw [zag n]; exact e⟩
 ·rintro i σ H2 _ ⟨bs,x0,rfl,_,_,k2⟩
  exact k2.sq (SqL.of W.at_) hD
 ·rintro i m x σ H2 hx hm ⟨bs,x0,rfl,h2,hB,k2⟩
  obtain ⟨hi,rfl⟩:=zfY hx
  have hbl:=hB.length
  rw [List.length_map,List.length_take] at hbl
  have s2 : Same H H2:=fun b o e=>k2 b o (zab e hD) e
  have S2:=S.same s2
  have hk:=W.kn _ (znH hi)
  rw [ziu hi,List.map_append]
  generalize w.getD i 0 = k at hk ⊢
  obtain ⟨b,hb1,hb2⟩:=S2.at_.get (k:=k) (by rw [S.len]; exact hk)
  rw [List.length_map] at hm
  refine zdA ?_
  refine ⟨_,rfl,_,_,_,_,rfl,rfl,SqT.of S2.st,rfl,_,rfl,_,_,_,_,rfl,rfl,SqT.of S2.rs,zhF hb1,_,h2,zar (by rw [List.length_map]; omega),m - 1,by omega,by rw [List.length_map]; omega,bs ++ [b],_,rfl,?_,?_,fun b o n e=>by rw [zag n]; exact k2 b o n e⟩
  ·rw [zac,List.map_append]
   rfl
  ·have kD : ∀ b o,b≠D→H2 b = some o→upd H2 D (.lst (bs.map V.ref ++ [.ref b])) b = some o:=fun b o n e=>by rw [zag n]; exact e
   have nT : ∀ {x : Addr} {o : List V},H2 x = some (.tup o)→x≠D:=fun {x o} e z=>by
    rw [z,h2] at e
    cases e
   refine zaQ.snoc (zaQ.keep (p:=D) (d:=D) (fun a row e=>nT e) (fun c o n e=>by rw [zag n]; exact e) hB) ?_
   rw [zag (nT hb2)]
   exact hb2
 ·rintro σ H2 ⟨bs,x0,rfl,h2,hB,k2⟩
  rw [List.length_map,List.take_of_length_le (Nat.le_refl _)] at hB
  exact q D bs H2 hD (fun b o e=>k2 b o (zab e hD) e) h2 hB
def ziF (K : PySem.W.Frag) (mp : Addr) : Sp:=fun vs H Q _=>∃ (st wa : Addr) (ps : List Nat) (rows : List (List Int)) (t rs : Addr) (as : List Addr) (w : List Nat) (key : Int),vs = [.ref st,.ref wa,.int key]∧zbi H st ps rows t rs as∧zeG H wa ps w∧zaG H mp zey lamQ∧
 ∀ (p : Addr) (H' : Hp),H p = none→Gro mp H H'→zaG H' mp zey lamQ→H' p = some (.lst ((w.map fun k=>zhE (zbt rows k) key).map nV))→Q (.ref p) H'
theorem zkR (T : Txt K mg) {mp : Addr} (D_places : DF K mg "places" zeN zcX) (F_rows_on : FC P w K mg base 5 "rows_on" zcq (ziE K)) (F_place : FC P w K mg base 5 "place" zdk (zkm K mp)) : FC P w K mg base 6 "places" zcX (ziF K mp):=by
 refine D_places.ok sc_places (fun vs H Q E h=>?_) (fun f cdv A outer s H vs Q E hr h=>?_)
 ·obtain ⟨st,wa,ps,rows,t,rs,as,w,key,rfl,_⟩:=h
  rfl
 obtain ⟨st,wa,ps,rows,t,rs,as,w,key,rfl,S,W,hT,q⟩:=h
 have hwl:=W.len
 refine ⟨_,(zah (zat (zcl (N:=["row","key"]) (own:=1) (cap:=[2]) rfl (zbD (zaE F_rows_on hr (zaa (pv 0) (zaa (pv 1) zad)))) ⟨rfl,rfl,rfl,rfl,rfl,rfl⟩ (fun _ _ _ _ _=>(zas (i:=0) (show List.Nodup (["row","key"] : List Str) by decide +kernel) rfl (Or.inl rfl))) (fun _ _ _ _ _=>zbY) (fun _ _ _ _ _=>(zaE F_place hr (zaa (pv 0) (zaa (pv 1) zad))))))),?_⟩
 refine ⟨_,rfl,_,rfl,st,wa,ps,rows,t,rs,as,w,rfl,S,W,fun p bs H1 hp s1 h1 hB=>?_⟩
 have hbl:=hB.length
 rw [List.length_map] at hbl
 have hT1:=hT.ext s1.ext
 have nmp : ∀ {H' : Hp} {x : Addr} {o : HO},zaG H' mp zey lamQ→H' x = some o→(∀ tab,o≠.tbl tab)→x≠mp:=fun {H' x o} hT e n z=>by
  obtain ⟨tab,e2,_⟩:=hT.ex
  rw [← z,e] at e2
  exact n _ (Option.some.inj e2)
 refine ⟨p,rfl,⟨_,SqL.of h1⟩,fun D hD=>?_⟩
 have hDm : D≠mp:=fun z=>by
  obtain ⟨tab,e2,_⟩:=hT1.ex
  rw [← z,hD] at e2
  cases e2
 refine zbG (xs:=bs.map V.ref) (fun i σ H2=>∃ x0 : Option V,σ = [x0,some (.int key)]∧H2 D = some (.lst (((w.take i).map fun k=>zhE (zbt rows k) key).map nV))∧(∀ b o,b≠D→b≠mp→H1 b = some o→H2 b = some o)∧zaG H2 mp zey lamQ) ?_ ?_ ?_ ?_
 ·refine ⟨_,rfl,zac,fun b o n _ e=>by rw [zag n]; exact e,hT1.ext (zak hD _).ext⟩
 ·rintro i σ H2 _ ⟨x0,rfl,_,k2,_⟩
  exact SqL.of (k2 _ _ (zab h1 hD) (nmp hT1 h1 (fun _ z=>nomatch z)) h1)
 ·rintro i m x σ H2 hx hm ⟨x0,rfl,h2,k2,hT2⟩
  rw [List.getElem?_map] at hx
  obtain ⟨b,hb,rfl⟩:=Option.map_eq_some_iff.mp hx
  obtain ⟨row,hrow,h1b⟩:=zdm hB hb
  have hi : i < w.length:=by
   have:=(List.getElem?_eq_some_iff.mp hb).1
   omega
  rw [List.getElem?_map] at hrow
  obtain ⟨k,hk,rfl⟩:=Option.map_eq_some_iff.mp hrow
  have hke : w.getD i 0 = k:=by rw [List.getD_eq_getElem?_getD,hk]; rfl
  rw [ziu hi,List.map_append,hke]
  have h2b:=k2 _ _ (zab h1b hD) (nmp hT1 h1b (fun _ z=>nomatch z)) h1b
  rw [List.length_map] at hm
  refine zdA ?_
  refine ⟨_,rfl,_,rfl,b,zbt rows k,key,rfl,h2b,S.R.at_up k,hT2,fun H3 hg3 hT3=>?_⟩
  have h3:=hg3 _ _ hDm h2
  refine ⟨_,h3,zar (by rw [List.length_map,List.length_map,List.length_take]; omega),m - 1,by omega,by rw [List.length_map]; omega,_,rfl,?_,fun b o n n2 e=>by rw [zag n]; exact hg3 _ _ n2 (k2 b o n n2 e),zkd hT3 h3⟩
  rw [zac,List.map_append]
  rfl
 ·rintro σ H2 ⟨x0,rfl,h2,k2,hT2⟩
  rw [List.length_map,hbl,List.take_of_length_le (Nat.le_refl _)] at h2
  exact q D H2 (s1.free hD) (fun b o n e=>k2 b o (zab (s1 _ _ e) hD) n (s1 _ _ e)) hT2 h2
def Kp0 (H H' : Hp) : Prop:=∀ b o,(∀ tab,o≠.tbl tab)→H b = some o→H' b = some o
theorem ziX {K : PySem.W.Frag} {H H' : Hp} (k : Kp0 H H') : ∀ {es : List (Int×Int)} {ws : List V},zal K H es ws→zal K H' es ws
 | _,_,.nil=>.nil
 | _,_,.cons h t=>by
  refine .cons ?_ (ziX k t)
  obtain ⟨a,x1,x2,rfl,hT,e1,e2⟩:=(show hasP K H _ _ from h)
  exact ⟨a,x1,x2,rfl,k _ _ (fun _ z=>nomatch z) hT,e1,e2⟩
theorem zec {K : PySem.W.Frag} {H H' : Hp} {ps : List Nat} {rows : List (List Int)} {js : List Nat} {qs : List Addr} (k : Kp0 H H') (h : zau K H ps rows js qs) : zau K H' ps rows js qs:=zaw (fun j q ⟨ws,h1,h2⟩=>⟨ws,k _ _ (fun _ z=>by cases z) h1,ziX k h2⟩) h
theorem br_kp {H H' : Hp} {ps : List Nat} {rows : List (List Int)} {js : List Nat} {xs : List V} (k : Kp0 H H') (h : Paired (BrAt [] H ps rows) js xs) : Paired (BrAt [] H' ps rows) js xs:=zaw (fun j x ⟨b,o,j',ys,h1,h2,h3,h4,h5,h6,h7⟩=>
 ⟨b,o,j',ys,h1,h2,h3,k _ _ (fun _ z=>by cases z) h4,k _ _ (fun _ z=>by cases z) h5,k _ _ (fun _ z=>by cases z) h6,zaw (fun c y ⟨a,s,g1,g2,g3,g4⟩=>⟨a,s,g1,g2,k _ _ (fun _ z=>by cases z) g3,k _ _ (fun _ z=>by cases z) g4⟩) h7⟩) h
theorem zhn {K : PySem.W.Frag} {H H' : Hp} {ps : List Nat} {rows : List (List Int)} {ad : Addr} : ∀ {js : List Nat} {qs : List Addr},ad∉qs→(∀ q∈qs,∀ ws,H q = some (.lst ws)→H' q = some (.lst ws))→(∀ b us,H b = some (.tup us)→H' b = some (.tup us))→zau K H ps rows js qs→zau K H' ps rows js qs
 | _,_,_,_,_,.nil=>.nil
 | _,_,hn,k1,k2,.cons ⟨ws,h1,h2⟩ t=>.cons ⟨ws,k1 _ List.mem_cons_self _ h1,zd6 k2 h2⟩ (zhn (fun z=>hn (List.mem_cons_of_mem _ z)) (fun q hq=>k1 q (List.mem_cons_of_mem _ hq)) k2 t)
theorem zhb {P : Program} {w : World} {K : PySem.W.Frag} {mg : Str→Option Value} {bs : Heap} {g ad pf mF c' : Addr} {q : Str} {pn : List Str} {tb : TE} {H4 : Hp} {qs : List Addr} {ps : List Nat} {rows : List (List Int)} {key : Int}
  (hV : FV P w K mg bs 2 g pn (zhM 2 tb [.ref ad,.ref pf,.int key] c' q)) (hC : zdD H4 c' q) (had : H4 ad = some (.lst [])) (hpf : H4 pf = some (.lst (qs.map V.ref))) (hF : zau K H4 ps rows (List.range (ps.length + 1)) qs) (n1 : ad≠pf) (n2 : ad∉qs) (ht : ∃ tab,H4 mF = some (.tbl tab))
  (htb : ∀ (kn i : Nat) (H : Hp) (Q : VK),zgc K [.ref ad,.ref pf,.int key,.int kn,.int i] H Q E0→tb [some (.int kn),some (.int i),some (.ref ad),some (.ref pf),some (.int key)] H Q) :
  AskF P w K mg bs g [ad] mF (fun b=>b≠mF∧H4 b≠none) (fun L H'=>(∃ zs,H' ad = some (.lst zs)∧zs.length = L.length)∧∀ b o,b≠mF→b≠ad→H4 b = some o→H' b = some o) ps rows key:=by
 have nm : ∀ {x : Addr} {o : HO},H4 x = some o→(∀ tab,o≠.tbl tab)→x≠mF:=fun {x o} e n z=>by
  obtain ⟨tab,e2⟩:=ht
  rw [← z,e] at e2
  exact n _ (Option.some.inj e2)
 have nad:=nm had (fun _ z=>nomatch z)
 refine ⟨fun L Ha Hb ⟨⟨zs,h1,h2⟩,hk⟩ k=>⟨⟨zs,k _ _ ⟨nad,by rw [had]; exact fun z=>nomatch z⟩ h1,h2⟩,fun b o m1 m2 e=>k b o ⟨m1,by rw [e]; exact fun z=>nomatch z⟩ (hk b o m1 m2 e)⟩,fun L Ha b ⟨⟨zs,h1,_⟩,hk⟩ hb=>?_,fun L Ha ⟨⟨zs,h1,_⟩,_⟩ a ha=>⟨zs,by rw [List.mem_singleton.mp ha]; exact h1⟩,fun z=>z.1 rfl,pn,_,hV,fun kn i L Ha Q hkn hi hL ⟨⟨zs,h1,h2⟩,hk⟩ hQ=>?_⟩
 ·by_cases c : b = ad
  ·rw [c,h1]
   exact fun z=>nomatch z
  ·cases e : H4 b with
   | none=>exact absurd e hb.2
   | some o=>
    rw [hk b o hb.1 c e]
    exact fun z=>nomatch z
 have nc : c'≠ad:=fun z=>by
  have hC' : H4 c' = _:=hC
  rw [z,had] at hC'
  cases hC'
 refine ⟨rfl,hk _ _ (nm hC (fun _ z=>nomatch z)) nc hC,htb kn i Ha Q ?_⟩
 have hp':=hk _ _ (nm hpf (fun _ z=>nomatch z)) (Ne.symm n1) hpf
 have hF' : zau K Ha ps rows (List.range (ps.length + 1)) qs:=zhn n2 (fun q hq ws e=>hk _ _ (nm e (fun _ z=>nomatch z)) (fun z=>n2 (z ▸ hq)) e) (fun b us e=>hk _ _ (nm e (fun _ z=>nomatch z)) (fun z=>by rw [z,had] at e; cases e) e) hF
 refine ⟨ad,pf,zs,qs,ps,rows,key,kn,i,rfl,h1,by omega,hp',hF',hkn,hi,n1,n2,fun t ht=>hQ _ ⟨⟨_,zac,by rw [List.length_append,List.length_append,h2]; rfl⟩,fun b o m1 m2 e=>?_⟩ fun b o m e=>?_⟩
 ·rw [zag m2]
  exact zak ht _ _ _ (hk b o m1 m2 e)
 ·rw [zag (fun z=>m (by rw [z]; exact List.mem_singleton.mpr rfl))]
  exact zak ht _ _ _ e
theorem znQ {σ : L2.St} {H : Hp} {Q : Bool→Hp→Prop} (h : Q true H) : tYes σ H Q:=h
theorem Kp0.trans {H H1 H2 : Hp} (a : Kp0 H H1) (b : Kp0 H1 H2) : Kp0 H H2:=fun c o n h=>b c o n (a c o n h)
theorem Kp0.of {H H1 : Hp} (a : Same H H1) : Kp0 H H1:=fun c o _ h=>a c o h
theorem Kp0.tup {H H1 : Hp} (a : Kp0 H H1) {b : Addr} {us : List V} (h : H b = some (.tup us)) : H1 b = some (.tup us):=a _ _ (fun _ z=>nomatch z) h
theorem Kp0.lst {H H1 : Hp} (a : Kp0 H H1) {b : Addr} {us : List V} (h : H b = some (.lst us)) : H1 b = some (.lst us):=a _ _ (fun _ z=>nomatch z) h
theorem zky {H H' : Hp} (e : Kp0 H H') : ∀ {as : List Addr} {rows : List (List Int)},zaQ H as rows→zaQ H' as rows
 | _,_,.nil=>.nil
 | _,_,.cons h t=>.cons (e.tup h) (zky e t)
theorem zeK {H H' : Hp} {st t rs : Addr} {ps : List Nat} {rows : List (List Int)} {as : List Addr} (e : Kp0 H H') (S : zbi H st ps rows t rs as) : zbi H' st ps rows t rs as:=
 ⟨e.tup S.st,e.tup S.tr,e.tup S.rs,zky e S.at_,S.len,S.T,S.R,S.few,S.keys⟩
theorem zj3 {H H' : Hp} {wa : Addr} {ps w : List Nat} (e : Kp0 H H') (h : zeG H wa ps w) : zeG H' wa ps w:=⟨e.lst h.at_,h.len,h.ne,h.ch,h.kn⟩
theorem ls_kp0 {L d : Addr} {H H' : Hp} (s : LS K L d H) (g : Kp0 H H') : LS K L d H':=by
 obtain ⟨ns,a,l,e,q⟩:=s.ex
 refine ⟨ns,a,l,g _ _ (fun _ z=>nomatch z) e,?_⟩
 rcases q with (q | ⟨o,q⟩) | q
 ·exact .inl (.inl (g _ _ (fun _ z=>nomatch z) q))
 ·exact .inl (.inr ⟨o,g _ _ (fun _ z=>nomatch z) q⟩)
 ·exact .inr q
theorem zmd {rows : List (List Int)} {r : List Int} (h : r∈rows) : r.length≤zfG rows:=by
 unfold zfG
 induction rows with
 | nil=>cases h
 | cons a l ih=>
  rw [List.map_cons,List.sum_cons]
  rcases List.mem_cons.mp h with z | z
  ·rw [z]
   omega
  ·have:=ih z
   omega
theorem row_in {rows : List (List Int)} {k : Nat} (h : k < rows.length) : zbt rows k∈rows:=by
 unfold zbt
 rw [List.getD_eq_getElem?_getD,List.getElem?_eq_getElem h]
 exact List.getElem_mem h
abbrev zoh : Str:=(envOfC ("_law_ways_right" : Str) (zai zaK) 0 0 .none).qual ++ "<lambda>"
abbrev zld : Pos:=⟨242,27,242,136⟩
structure Tab3 (m0 mF mW : Addr) (H : Hp) : Prop where
 p : zaG H m0 zey lamQ
 f : zaG H mF zgE zmH
 w : zaG H mW zld zoh
 n1 : m0≠mF
 n2 : m0≠mW
 n3 : mF≠mW
def K3 (m0 mF mW : Addr) (H H' : Hp) : Prop:=∀ b o,b≠m0→b≠mF→b≠mW→H b = some o→H' b = some o
theorem K3.trans {m0 mF mW : Addr} {H H1 H2 : Hp} (a : K3 m0 mF mW H H1) (b : K3 m0 mF mW H1 H2) : K3 m0 mF mW H H2:=fun c o x y z h=>b c o x y z (a c o x y z h)
theorem K3.of {m0 mF mW : Addr} {H H1 : Hp} (a : Same H H1) : K3 m0 mF mW H H1:=fun c o _ _ _ h=>a c o h
theorem Tab3.same {m0 mF mW : Addr} {H H' : Hp} (x : Tab3 m0 mF mW H) (e : Same H H') : Tab3 m0 mF mW H':=⟨x.p.ext e.ext,x.f.ext e.ext,x.w.ext e.ext,x.n1,x.n2,x.n3⟩
theorem zbb {H : Hp} {Pt : Addr} {pos : Pos} {q : Str} (x : zaG H Pt pos q) : ∃ tab,H Pt = some (.tbl tab):=by
 obtain ⟨tab,e,_⟩:=x.ex
 exact ⟨tab,e⟩
theorem Tab3.nt {m0 mF mW : Addr} {H : Hp} (x : Tab3 m0 mF mW H) {b : Addr} {o : HO} (h : H b = some o) (n : ∀ tab,o≠.tbl tab) : b≠m0∧b≠mF∧b≠mW:=by
 have go : ∀ {m : Addr},(∃ tab,H m = some (.tbl tab))→b≠m:=fun {m} ⟨tab,e⟩ z=>by
  rw [← z,h] at e
  exact n _ (Option.some.inj e)
 exact ⟨go (zbb x.p),go (zbb x.f),go (zbb x.w)⟩
theorem Tab3.k0 {m0 mF mW : Addr} {H H' : Hp} (x : Tab3 m0 mF mW H) (k : K3 m0 mF mW H H') : Kp0 H H':=fun b o n e=>by
 obtain ⟨a1,a2,a3⟩:=x.nt e n
 exact k _ _ a1 a2 a3 e
theorem Tab3.g0 {m0 mF mW : Addr} {H H' : Hp} (x : Tab3 m0 mF mW H) (g : Gro m0 H H') (t : zaG H' m0 zey lamQ) : Tab3 m0 mF mW H'∧K3 m0 mF mW H H':=
 ⟨⟨t,x.f.gro g (Ne.symm x.n1) (zbb x.p),x.w.gro g (Ne.symm x.n2) (zbb x.p),x.n1,x.n2,x.n3⟩,fun b o n _ _ e=>g b o n e⟩
theorem Tab3.gW {m0 mF mW : Addr} {H H' : Hp} (x : Tab3 m0 mF mW H) (g : Gro mW H H') (t : zaG H' mW zld zoh) : Tab3 m0 mF mW H'∧K3 m0 mF mW H H':=
 ⟨⟨x.p.gro g x.n2 (zbb x.w),x.f.gro g x.n3 (zbb x.w),t,x.n1,x.n2,x.n3⟩,fun b o _ _ n e=>g b o n e⟩
theorem br_av {H H' : Hp} {ad : Addr} {ps : List Nat} {rows : List (List Int)} {js : List Nat} {xs : List V} (hn : H ad = none) (k : Kp0 H H') (h : Paired (BrAt [] H ps rows) js xs) : Paired (BrAt [ad] H' ps rows) js xs:=by
 have na : ∀ {b : Addr} {o : HO},H b = some o→b∉[ad]:=fun {b o} e z=>by
  rw [List.mem_singleton.mp z,hn] at e
  cases e
 exact zaw (fun j x ⟨b,o,j',ys,h1,_,_,h4,h5,h6,h7⟩=>⟨b,o,j',ys,h1,na h5,na h6,k.tup h4,k.lst h5,k.lst h6,zaw (fun c y ⟨a,s,g1,_,g3,g4⟩=>⟨a,s,g1,na g4,k.tup g3,k.lst g4⟩) h7⟩) h
theorem zfa {H H' : Hp} {Pt mF ad : Addr} {pos : Pos} {q : Str} {zs : List V} (x : zaG H Pt pos q) (n : Pt≠mF) (ha : H ad = some (.lst zs)) (hm : ∃ tab,H mF = some (.tbl tab)) (k : KpA [ad] mF H H') : zaG H' Pt pos q:=by
 obtain ⟨tab,h1,h2,h3⟩:=x.ex
 have na : ∀ {b : Addr} {o : HO},H b = some o→(∀ zs,o≠.lst zs)→b∉[ad]:=fun {b o} e m z=>by
  rw [List.mem_singleton.mp z,ha] at e
  exact m _ (Option.some.inj e).symm
 refine ⟨tab,k _ _ (na h1 (fun _ z=>nomatch z)) n h1,h2,?_⟩
 rcases h3 with h3 | ⟨c,h3,h4⟩
 ·exact .inl h3
 ·refine .inr ⟨c,h3,k _ _ (na h4 (fun _ z=>nomatch z)) (fun z=>?_) h4⟩
  obtain ⟨t2,e2⟩:=hm
  rw [← z,show H c = _ from h4] at e2
  cases e2
theorem zl3 {ps w : List Nat} {H : Hp} {y : Addr} {j : Nat} (hj : j < w.length) (h : zis ps w) (hl : w.length≤900) (hk : ∀ x∈w,x < ps.length + 1) (hy : H y = some (.lst ((w.drop j).map nV))) : zeG H y ps (w.drop j):=by
 refine ⟨hy,by rw [List.length_drop]; omega,fun z=>?_,?_,fun x hx=>hk x (List.mem_of_mem_drop hx)⟩
 ·have:=congrArg List.length z
  rw [List.length_drop,List.length_nil] at this
  omega
 ·have:=zlO h j w.length
  rw [List.take_of_length_le (by rw [List.length_drop]; omega)] at this
  exact this
def zhJ (H : Hp) (td : Addr) (ps : List Nat) (rows : List (List Int)) (key : Int) : Prop:=∃ kvs : List (Key×V),H td = some (.dK kvs)∧∀ k : Nat,k < ps.length + 1→∃ a,valV kvs (.inl (k : Int)) = some (.ref a)∧H a = some (.tup [.int ((zan (zaj ps rows k) key : Nat) : Int),.int ((ownB rows k key : Nat) : Int)])
theorem zhJ.kp {H H' : Hp} {td : Addr} {ps : List Nat} {rows : List (List Int)} {key : Int} (h : zhJ H td ps rows key) (k : Kp0 H H') : zhJ H' td ps rows key:=by
 obtain ⟨kvs,h1,h2⟩:=h
 exact ⟨kvs,k _ _ (fun _ z=>nomatch z) h1,fun j hj=>by
  obtain ⟨a,e1,e2⟩:=h2 j hj
  exact ⟨a,e1,k.tup e2⟩⟩
def znc (K : PySem.W.Frag) (m0 mF mW : Addr) : Sp:=fun vs H Q _=>∃ (br st pf td : Addr) (key : Int) (ps : List Nat) (rows : List (List Int)) (t rs : Addr) (as qs : List Addr) (xs : List V),vs = [.ref br,.ref st,.ref pf,.int key,.ref td]∧zbi H st ps rows t rs as∧H br = some (.lst xs)∧Paired (BrAt [] H ps rows) (List.range (ps.length + 1)) xs∧H pf = some (.lst (qs.map V.ref))∧zau K H ps rows (List.range (ps.length + 1)) qs∧zhJ H td ps rows key∧Tab3 m0 mF mW H∧
 ∀ H',K3 m0 mF mW H H'→Tab3 m0 mF mW H'→Q (.bl true) H'
theorem zn4 (T : Txt K mg) {mc mp m0 mF : Addr} (D_l_ways_right : DFT K mg "_law_ways_right" zaK za1 mc mp) (hBM : BMAt mg base) (F_l_down : FC P w K mg base 1 "_law_down" zc1 (znj K)) (F_places : FC P w K mg base 6 "places" zcX (ziF K m0)) (F_l_asked : FC P w K mg base 1 "_law_asked" zbV (zgc K)) (F_l_figures : FC P w K mg base 1 "_law_figures" zbw (znW K)) (F_search : ∀ b,Sub K mg base b→FC P w K mg b 6 "search" zcW (ziD P w K mg b mF)) : FC P w K mg base 7 "_law_ways_right" za1 (znc K m0 mF mp):=by
 refine D_l_ways_right.ok sc_l_ways_right (fun vs H Q E h=>?_) (fun f A outer s H vs Q E hr h=>?_)
 ·obtain ⟨br,st,pf,td,key,ps,rows,t,rs,as,qs,xs,rfl,_⟩:=h
  rfl
 obtain ⟨br,st,pf,td,key,ps,rows,t,rs,as,qs,xs,rfl,S,hbr,hB,hpf,hF,hTd,TT,q⟩:=h
 refine ⟨_,(zaf (zbd PassesOwn.never rfl (zbC rfl T.m_range (zaa (zap zam rfl T.m_len boot_len (zaa (zaB zaL (pv 1) zae (fun _ _=>rfl)) zad)) zad)) (zas (i:=5) sc_l_ways_right.nd rfl (Or.inl rfl)) (zaf (zaq (i:=6) sc_l_ways_right.nd rfl (Or.inl rfl) (zaE F_l_down hr (zaa (zaB zaL (pv 1) zae (fun _ _=>rfl)) (zaa (pv 5) zad))))
   (zbc (zbO (zaC (zi0 (List Int) (huD hr)) (zaE F_places hr (zaa (pv 1) (zaa (zbL zeD rfl T.m_list boot_list (zaa (pv 6) zad)) (zaa (pv 3) zad)))) (zcl (N:=["_law_one","_law_told"]) (own:=1) (cap:=[4]) rfl (zbD (pv 6)) ⟨rfl,rfl,rfl,rfl,rfl,rfl⟩ (fun _ _ _ _ _=>(zas (i:=0) (show List.Nodup (["_law_one","_law_told"] : List Str) by decide +kernel) rfl (Or.inl rfl))) (fun _ _ _ _ _=>zbY) (fun _ _ _ _ _=>(zaB (zfp (K:=K)) (zb3 (zcB hr) (pv 1) (pv 0) (fun _ _=>rfl)) zae (fun _ _=>rfl)))) (zaP _)) (zah (zat zdt)) zaN)
   (zah (zbd PassesOwn.never rfl (zbC rfl T.m_range (zaa (zap zam rfl T.m_len boot_len (zaa (pv 6) zad)) zad)) (zas (i:=7) sc_l_ways_right.nd rfl (Or.inl rfl)) (zaf (zaq (i:=8) sc_l_ways_right.nd rfl (Or.inr rfl) (zbQ zad))
   (zff (ix:=9) (iy:=10) (kf:=1) sc_l_ways_right.nd rfl (Or.inl rfl) rfl (Or.inl rfl) (by decide) (zi5 (osc:=zai zaK) (N:=["_law_bridged","_law_stand_here","_law_fulls","_law_key_here","_law_told","_law_knot","_law_down_here","_law_at","_law_asked_here","_law_is_less","_law_found","_law_more"]) (ps:=["_law_spot","_law_number"]) (caps:=["_law_asked_here","_law_fulls","_law_key_here"]) (cap:=[8,2,3]) ⟨rfl,rfl,rfl,by decide +kernel,by decide +kernel,by decide +kernel,by decide +kernel⟩ (by decide +kernel) (by decide +kernel) rfl rfl rfl rfl (fun _ _ _ _ us hl=>match us,hl with | [_,_],_=>rfl) (fun _=>rfl)) rfl D_l_ways_right.hd hBM (fun b _ _ _ _ _ _ _ S hr=>(zaE (F_l_asked.lift S) hr (zaa (pv 2) (zaa (pv 3) (zaa (pv 4) (zaa (pv 0) (zaa (pv 1) zad))))))) F_search hr (pv 0) (zd3 zfc (pv 6) (zdG (pv 7)) zhQ) (pv 9)
   (zbc (zbO (zaC (zi0 (List (Int×Int)) (huD hr)) (pv 10) (zcl (N:=["_law_one","_law_told"]) (own:=1) (cap:=[4]) rfl (zbD (zd3 zfc (pv 6) (zdG (pv 7)) zhQ)) ⟨rfl,rfl,rfl,rfl,rfl,rfl⟩ (fun _ _ _ _ _=>(zas (i:=0) (show List.Nodup (["_law_one","_law_told"] : List Str) by decide +kernel) rfl (Or.inl rfl))) (fun _ _ _ _ _=>zbY) (fun _ _ _ _ _=>(zb3 (zcB hr) (pv 1) (pv 0) (fun _ _=>rfl)))) (zaP _)) (zah (zat zdt)) zaN)
   (zaf (zaq (i:=11) sc_l_ways_right.nd rfl (Or.inl rfl) (zax zb5 zae (zax zbR (zax zbR (zap zam rfl T.m_len boot_len (zaa (pv 6) zad)) (pv 7)) zae)))
   (zah (zbO (zaC zjC (zap zam rfl T.m_len boot_len (zaa (pv 8) zad)) (zax zbf (zaE F_l_figures hr (zaa (zap zam rfl T.m_len boot_len (zaa (zaB zaz (pv 2) (zaB zaz (pv 6) (pv 7) (fun _ _=>rfl)) (fun _ _=>rfl)) zad)) zad)) (pv 11)) (zaP _)) (zah (zat zdt)) zaN)))))))))))
   (zah (zat zdt))),?_⟩
 have hfew:=S.few
 refine ⟨_,rfl,_,_,_,_,rfl,rfl,SqT.of S.st,rfl,_,_,rfl,.inr (SqT.of S.tr),_,rfl,by omega,by rw [zav]; omega,?_⟩
 have el : ((((zco ps).length : Nat) : Int)).toNat = ps.length + 1:=by rw [zav,Int.toNat_natCast]
 rw [el]
 refine za9 (n:=ps.length + 1) (fun i σ H1=>∃ x5 x6 x7 x8 x9 x10 x11 : Option V,σ = [some (.ref br),some (.ref st),some (.ref pf),some (.int key),some (.ref td),x5,x6,x7,x8,x9,x10,x11]∧K3 m0 mF mp H H1∧Tab3 m0 mF mp H1) ?_ ?_ ?_
 ·exact ⟨_,_,_,_,_,_,_,rfl,fun _ _ _ _ _ e=>e,TT⟩
 ·rintro i σ H1 hi ⟨x5,x6,x7,x8,x9,x10,x11,rfl,k1,T1⟩
  rw [Int.zero_add]
  have kp1:=TT.k0 k1
  have S1:=zeK kp1 S
  refine ⟨_,rfl,_,_,_,_,rfl,rfl,SqT.of S1.st,rfl,_,rfl,t,ps,i,rfl,S1.tr,S1.T,hfew,hi,fun dn w H2 _ s2 W2 hw0 hwl=>?_⟩
  have S2:=S1.same s2
  have T2:=T1.same s2
  have kp2:=Kp0.trans kp1 (.of s2)
  have hTd2:=hTd.kp kp2
  have hwn:=W2.len
  refine ⟨fun σ' H'=>σ' = [some (.ref br),some (.ref st),some (.ref pf),some (.int key),some (.ref td),some (.int (i : Int)),some (.ref dn),x7,x8,x9,x10,x11]∧K3 m0 mF mp H2 H'∧Tab3 m0 mF mp H',?_,?_⟩
  ·refine ⟨_,rfl,_,rfl,dn,_,rfl,.inl (SqL.of W2.at_),fun y hy=>?_⟩
   have sy:=zak hy (.lst (w.map nV))
   have hyy : upd H2 y (.lst (w.map nV)) y = some (.lst (w.map nV)):=zac
   have T3:=T2.same sy
   have S3:=S2.same sy
   generalize upd H2 y (.lst (w.map nV)) = H3 at sy hyy T3 S3 ⊢
   refine ⟨_,rfl,st,y,ps,rows,t,rs,as,w,key,rfl,S3,⟨hyy,W2.len,W2.ne,W2.ch,W2.kn⟩,T3.p,fun pp H4 _ g4 t4 h4=>?_⟩
   obtain ⟨T4,k4⟩:=T3.g0 g4 t4
   have k24 : K3 m0 mF mp H2 H4:=(K3.of sy).trans k4
   have kp4:=T2.k0 k24
   obtain ⟨kvs,td4,hkv⟩:=hTd2.kp kp4
   have hdn4:=kp4.lst W2.at_
   refine ⟨_,rfl,dn,rfl,⟨_,SqL.of hdn4⟩,fun D hD=>?_⟩
   refine zbG (xs:=w.map nV) (fun m σ H5=>∃ x0 : Option V,σ = [x0,some (.ref td)]∧H5 D = some (.lst (((w.take m).map fun k=>((ownB rows k key : Nat) : Int)).map V.int))∧But D H4 H5) ?_ ?_ ?_ ?_
   ·exact ⟨_,rfl,zac,fun b o n e=>by rw [zag n]; exact e⟩
   ·rintro m σ H5 _ ⟨x0,rfl,_,k5⟩
    exact k5.sq (SqL.of hdn4) hD
   ·rintro m r x σ H5 hx hm ⟨x0,rfl,h5,k5⟩
    have hmi:=(List.getElem?_eq_some_iff.mp hx).1
    rw [List.length_map] at hmi hm
    rw [zfK hmi] at hx
    obtain rfl:=Option.some.inj hx
    obtain ⟨a,e1,e2⟩:=hkv _ (W2.kn _ (zfJ hmi))
    have h5t:=k5 _ _ (zab td4 hD) td4
    have hg:=DGet.k (k:=(.inl ((w.getD m 0 : Nat) : Int))) h5t
    rw [e1] at hg
    have h5a:=k5 _ _ (zab e2 hD) e2
    refine zdA ?_
    refine ⟨_,rfl,_,rfl,td,_,rfl,hg,_,_,_,_,rfl,rfl,SqT.of h5a,rfl,_,h5,zar (by rw [List.length_map,List.length_map,List.length_take]; omega),r - 1,by omega,by rw [List.length_map]; omega,_,rfl,?_,fun b o n e=>by rw [zag n]; exact k5 b o n e⟩
    rw [zac,zf9 _ hmi,List.map_append]
    rfl
   rintro σ H5 ⟨x0,rfl,h5,k5⟩
   rw [List.length_map,List.take_of_length_le (Nat.le_refl _)] at h5
   have s5 : Same H4 H5:=fun b o e=>k5 b o (zab e hD) e
   have h5p:=s5 _ _ h4
   rw [List.map_map] at h5p
   refine ⟨w.map fun k=>((ownB rows k key : Nat) : Int),w.map fun k=>((ownB rows k key : Nat) : Int),⟨_,_,rfl,SqL.of (by rw [h5p,List.map_map]; rfl),zal.ints⟩,⟨_,_,rfl,SqL.of h5,zal.ints⟩,_,rfl,?_⟩
   refine zmL rfl ?_
   exact ⟨rfl,k24.trans (.of s5),T4.same s5⟩
  rintro σ' H3 ⟨rfl,k3,T3⟩
  have kp23:=T2.k0 k3
  have kp3:=kp2.trans kp23
  have W3:=zj3 kp23 W2
  refine ⟨_,rfl,_,_,rfl,.inl (SqL.of W3.at_),_,rfl,by omega,by rw [List.length_map]; omega,?_⟩
  have el2 : ((((w.map nV).length : Nat) : Int)).toNat = w.length:=by rw [List.length_map,Int.toNat_natCast]
  rw [el2]
  refine za9 (n:=w.length) (fun j σ H4=>∃ x7 x8 x9 x10 x11 : Option V,σ = [some (.ref br),some (.ref st),some (.ref pf),some (.int key),some (.ref td),some (.int (i : Int)),some (.ref dn),x7,x8,x9,x10,x11]∧K3 m0 mF mp H3 H4∧Tab3 m0 mF mp H4) ?_ ?_ ?_
  ·exact ⟨_,_,_,_,_,rfl,fun _ _ _ _ _ e=>e,T3⟩
  ·rintro j σ H4 hj ⟨y7,y8,y9,y10,y11,rfl,k4,T4⟩
   rw [Int.zero_add]
   have kp4:=kp3.trans (T3.k0 k4)
   have hF4:=zec kp4 hF
   have hB4:=br_kp kp4 hB
   refine ⟨(by show 0≤sizeLine; decide),fun ad hd=>?_⟩
   have s5:=zak hd (.lst [])
   have h5a : upd H4 ad (.lst []) ad = some (.lst []):=zac
   have T5:=T4.same s5
   generalize upd H4 ad (.lst []) = H5 at s5 h5a T5 ⊢
   refine ⟨T5.w,[.ref ad,.ref pf,.int key],rfl,?_,fun g c' H6 hg hT6 hC=>?_⟩
   ·intro j i v h1 h2
    rcases j with _ | _ | _ | j
    ·cases h1; cases h2; rfl
    ·cases h1; cases h2; rfl
    ·cases h1; cases h2; rfl
    ·cases h1
   obtain ⟨T6,k6⟩:=T5.gW hg hT6
   have kp46 : Kp0 H4 H6:=Kp0.trans (.of s5) (T5.k0 k6)
   have h6a:=(T5.k0 k6).lst h5a
   have h6d:=(kp46.lst ((T3.k0 k4).lst W3.at_))
   refine ⟨_,rfl,_,rfl,_,rfl,_,rfl,dn,_,rfl,SqL.of h6d,fun y hy=>?_⟩
   rw [zfu,← List.map_drop]
   have s7:=zak hy (.lst ((w.drop j).map nV))
   have h7y : upd H6 y (.lst ((w.drop j).map nV)) y = some (.lst ((w.drop j).map nV)):=zac
   have T7:=T6.same s7
   have h7a:=s7 _ _ h6a
   have kp47:=kp46.trans (.of s7)
   have hC7 : zdD (upd H6 y (.lst ((w.drop j).map nV))) c' zoh:=s7 _ _ hC
   generalize upd H6 y (.lst ((w.drop j).map nV)) = H7 at s7 h7y T7 h7a kp47 hC7 ⊢
   intro bs SB hV
   have n1 : ad≠pf:=fun z=>by
    rw [z,kp4.lst hpf] at hd
    cases hd
   have n2 : ad∉qs:=fun z=>by
    obtain ⟨ws,e⟩:=hF4.alloc ad z
    rw [hd] at e
    cases e
   have AF:=zhb (mF:=mF) (ps:=ps) (rows:=rows) (qs:=qs) hV hC7 h7a (kp47.lst (kp4.lst hpf)) (zec kp47 hF4) n1 n2 (zbb T7.f) fun _ _ _ _ h=>⟨_,rfl,_,rfl,_,rfl,_,rfl,_,rfl,h⟩
   have SE : za5 [ad] mF (fun L H'=>(∃ zs,H' ad = some (.lst zs)∧zs.length = L.length)∧∀ b o,b≠mF→b≠ad→H7 b = some o→H' b = some o) ps rows br xs [] H7:=⟨⟨⟨[],h7a,rfl⟩,fun _ _ _ _ e=>e⟩,fun a ha=>⟨[],by rw [List.mem_singleton.mp ha]; exact h7a⟩,kp47.lst (kp4.lst hbr),(fun z=>by
    have e:=kp4.lst hbr
    rw [List.mem_singleton.mp z,hd] at e
    cases e),br_av hd kp47 hB4,T7.f⟩
   have nya : y∉[ad]:=fun z=>by
    rw [List.mem_singleton.mp z,h6a] at hy
    cases hy
   refine ⟨br,y,g,xs,ps,rows,w.drop j,key,[ad],_,_,[],rfl,AF,SE,S.T,S.R,hfew,zl3 hj W2.ch W2.len W2.kn h7y,nya,Nat.zero_le _,(fun k hk=>by have:=zem S.T S.len (rows:=rows) hk; have:=S.keys; omega),fun D zs H8 L' S8 k8 hDn h8 hA hL=>?_⟩
   obtain ⟨⟨zs',h8a,hzl'⟩,_⟩:=S8.r
   rw [List.nil_append] at hzl'
   have T8 : Tab3 m0 mF mp H8:=⟨zfa T7.p T7.n1 h7a (zbb T7.f) k8,S8.tb,zfa T7.w (Ne.symm T7.n3) h7a (zbb T7.f) k8,T7.n1,T7.n2,T7.n3⟩
   have k48 : K3 m0 mF mp H4 H8:=fun b o a1 a2 a3 e=>k8 _ _ (fun z=>by
    rw [List.mem_singleton.mp z,hd] at e
    cases e) a2 (s7 _ _ (k6 _ _ a1 a2 a3 (s5 _ _ e)))
   have kp48:=T4.k0 k48
   have W4:=zj3 (T3.k0 k4) W3
   have W8:=zj3 kp48 W4
   obtain ⟨kvs,td8,hkv⟩:=(hTd.kp kp4).kp kp48
   have hgd : (w.drop j).getD 0 0 = w.getD j 0:=by
    rw [List.getD_eq_getElem?_getD,List.getElem?_drop,Nat.add_zero,← List.getD_eq_getElem?_getD]
   rw [hgd,List.length_drop] at hL
   refine ⟨fun σ' H'=>σ' = [some (.ref br),some (.ref st),some (.ref pf),some (.int key),some (.ref td),some (.int (i : Int)),some (.ref dn),some (.int (j : Int)),some (.ref ad),some (.ref g),some (.ref D),y11]∧Same H8 H',?_,?_⟩
   ·refine ⟨_,rfl,_,rfl,_,rfl,_,rfl,dn,_,rfl,SqL.of W8.at_,fun y2 hy2=>?_⟩
    rw [zfu,← List.map_drop]
    have s9:=zak hy2 (.lst ((w.drop j).map nV))
    have h9y : upd H8 y2 (.lst ((w.drop j).map nV)) y2 = some (.lst ((w.drop j).map nV)):=zac
    generalize upd H8 y2 (.lst ((w.drop j).map nV)) = H9 at s9 h9y ⊢
    refine ⟨y2,rfl,⟨_,SqL.of h9y⟩,fun D2 hD2=>?_⟩
    refine zbG (xs:=(w.drop j).map nV) (fun m σ H10=>∃ (x0 : Option V) (us : List V),σ = [x0,some (.ref td)]∧H10 D2 = some (.lst us)∧zal K H10 (((w.drop j).take m).map fun k=>(((zan (zaj ps rows k) key : Nat) : Int),((ownB rows k key : Nat) : Int))) us∧But D2 H9 H10) ?_ ?_ ?_ ?_
    ·exact ⟨_,[],rfl,zac,.nil,fun b o n e=>by rw [zag n]; exact e⟩
    ·rintro m σ H10 _ ⟨x0,us,rfl,_,_,k10⟩
     exact k10.sq (SqL.of h9y) hD2
    ·rintro m r x σ H10 hx hm ⟨x0,us,rfl,h10,hA10,k10⟩
     have hmi:=(List.getElem?_eq_some_iff.mp hx).1
     rw [List.length_map] at hmi hm
     rw [zfK hmi] at hx
     obtain rfl:=Option.some.inj hx
     obtain ⟨a,e1,e2⟩:=hkv _ (W2.kn _ (List.mem_of_mem_drop (zfJ hmi)))
     have s910 : Same H9 H10:=fun b o e=>k10 b o (zab e hD2) e
     have hg:=DGet.k (k:=(.inl (((w.drop j).getD m 0 : Nat) : Int))) (s910 _ _ (s9 _ _ td8))
     rw [e1] at hg
     have h10a:=s910 _ _ (s9 _ _ e2)
     have hul:=hA10.length
     rw [List.length_map,List.length_take] at hul
     have hdl:=List.length_drop (i:=j) (l:=w)
     refine zdA ?_
     refine ⟨_,rfl,_,rfl,td,_,rfl,hg,_,h10,zar (by omega),r - 1,by omega,by rw [List.length_map]; omega,_,_,rfl,zac,?_,fun b o n e=>by rw [zag n]; exact k10 b o n e⟩
     rw [zf9 _ hmi]
     exact zal.append (zbE h10 hA10) (.cons ⟨a,_,_,rfl,by rw [zag (fun z=>by rw [z,h10] at h10a; cases h10a)]; exact h10a,rfl,rfl⟩ .nil)
    rintro σ H10 ⟨x0,us,rfl,h10,hA10,k10⟩
    rw [List.length_map,List.take_of_length_le (Nat.le_refl _)] at hA10
    have s810 : Same H8 H10:=fun b o e=>k10 b o (zab (s9 _ _ e) hD2) (s9 _ _ e)
    refine ⟨_,_,⟨_,_,rfl,SqL.of (s810 _ _ h8),zal.mono s810.ext hA⟩,⟨_,_,rfl,SqL.of h10,hA10⟩,_,rfl,?_⟩
    refine zmL rfl ?_
    exact ⟨rfl,s810⟩
   rintro σ' H9 ⟨rfl,s9⟩
   have W9 : zeG H9 dn ps w:=⟨s9 _ _ W8.at_,W8.len,W8.ne,W8.ch,W8.kn⟩
   have k49:=k48.trans (.of s9)
   have kp49:=T4.k0 k49
   have hF9:=zec kp49 hF4
   have hpf9:=kp49.lst (kp4.lst hpf)
   have hkj:=W2.kn _ (zfJ hj)
   obtain ⟨qk,hqk,wk,hwk,hak⟩:=zba hF9 hkj
   have hwk2:=hak.length
   refine ⟨_,rfl,_,_,rfl,.inl (SqL.of W9.at_),_,rfl,_,_,rfl,rfl,_,_,rfl,rfl,_,_,rfl,rfl,.inl ⟨by decide,by decide⟩,?_⟩
   refine ⟨_,rfl,_,_,rfl,.inl (SqL.of (s9 _ _ h8a)),_,rfl,_,rfl,_,rfl,_,_,_,_,rfl,rfl,SqL.of W9.at_,zaJ (zfK hj),_,_,_,_,rfl,rfl,SqL.of hpf9,zaJ (v:=.ref qk) (by rw [List.getElem?_map,hqk]; rfl),_,_,rfl,.inl (SqL.of hwk),wk.length,rfl,_,rfl,_,_,rfl,rfl,_,_,rfl,rfl,_,rfl,?_⟩
   refine zom ?_ ⟨_,_,_,_,_,rfl,k4.trans k49,T8.same s9⟩
   rw [← hwk2,List.length_map]
   omega
  rintro σ H4 ⟨y7,y8,y9,y10,y11,rfl,k4,T4⟩
  exact ⟨_,_,_,_,_,_,_,rfl,fun b o a1 a2 a3 e=>k4 _ _ a1 a2 a3 (k3 _ _ a1 a2 a3 (s2 _ _ (k1 _ _ a1 a2 a3 e))),T4⟩
 rintro σ H1 ⟨x5,x6,x7,x8,x9,x10,x11,rfl,k1,T1⟩
 exact q H1 k1 T1
abbrev lamQL : Str:=(envOfC ("law" : Str) (zai zfd) 0 0 .none).qual ++ "<lambda>"
abbrev zoi : Pos:=⟨261,23,261,132⟩
def znF (H : Hp) (ps : List Nat) (rows : List (List Int)) (key : Int) (k : Nat) (z : V) : Prop:=∃ b a,z = .ref b∧H b = some (.tup [.int (k : Nat),.ref a])∧H a = some (.tup [.int ((zan (zaj ps rows k) key : Nat) : Int),.int ((ownB rows k key : Nat) : Int)])
theorem zkc {H : Hp} {ps : List Nat} {rows : List (List Int)} {key : Int} : ∀ {ks : List Nat} {us : List V},Paired (znF H ps rows key) ks us→∃ kvs : List (Key×V),Paired (fun (z : V) (kv : Key×V)=>∃ b,z = .ref b∧H b = some (.tup [kV kv.1,kv.2])) us kvs∧kvs.map (·.1) = ks.map (fun c : Nat=>(Sum.inl (c : Int) : Key))∧
  ∀ c∈ks,ks.Nodup→∃ a,valV kvs (.inl (c : Int)) = some (.ref a)∧H a = some (.tup [.int ((zan (zaj ps rows c) key : Nat) : Int),.int ((ownB rows c key : Nat) : Int)])
 | _,_,.nil=>⟨[],.nil,rfl,fun c hc=>nomatch hc⟩
 | c0 :: ks,_,.cons ⟨b,a,e1,e3,e4⟩ t=>by
  obtain ⟨kvs,h1,h2,h3⟩:=zkc t
  refine ⟨(.inl (c0 : Int),.ref a) :: kvs,.cons ⟨b,e1,e3⟩ h1,by rw [List.map_cons,h2]; rfl,fun c hc hn=>?_⟩
  rw [List.nodup_cons] at hn
  unfold valV
  by_cases z : c = c0
  ·subst z
   exact ⟨a,by rw [List.find?_cons_of_pos (by simp)]; rfl,e4⟩
  ·rw [List.find?_cons_of_neg (by simp; omega)]
   rcases List.mem_cons.mp hc with y | y
   ·exact absurd y z
   ·exact h3 c y hn.2
structure Tab4 (m0 mF mW mL : Addr) (H : Hp) : Prop where
 t : Tab3 m0 mF mW H
 l : zaG H mL zoi lamQL
 n1 : mL≠m0
 n2 : mL≠mF
 n3 : mL≠mW
theorem Tab4.ext {m0 mF mW mL : Addr} {H H' : Hp} (x : Tab4 m0 mF mW mL H) (e : Ext H H') : Tab4 m0 mF mW mL H':=⟨⟨x.t.p.ext e,x.t.f.ext e,x.t.w.ext e,x.t.n1,x.t.n2,x.t.n3⟩,x.l.ext e,x.n1,x.n2,x.n3⟩
def zgZ (K : PySem.W.Frag) (m0 mF mW mL : Addr) : Sp:=fun vs H Q _=>∃ (a : Addr) (ns : List Int),vs = [.ref a]∧SqL K H a (ns.map V.int)∧ns.length≤63∧[m0,mF,mW,mL].Nodup∧H m0 = some (.tbl #[])∧H mF = some (.tbl #[])∧H mW = some (.tbl #[])∧H mL = some (.tbl #[])∧∀ H',Q (.bl true) H'
theorem ok_law (T : Txt K mg) {mc mp m0 mF mW : Addr} (D_law : DFT K mg "law" zfd zfU mc mp) (hBM : BMAt mg base) (F_l_begin : FC P w K mg base 1 "_law_begin" zcu (zku K)) (F_l_stand : FC P w K mg base 6 "_law_stand" zcs (zkl K)) (F_full_rows : FC P w K mg base 8 "full_rows" zbx (zhN K)) (F_bridges : FC P w K mg base 9 "bridges" zcw (spBr K)) (F_l_key : FC P w K mg base 3 "_law_key" zdl (znV K)) (F_l_take : FC P w K mg base 2 "_law_take" zbA (zfQ K)) (F_l_asked : FC P w K mg base 1 "_law_asked" zbV (zgc K)) (F_l_figures : FC P w K mg base 1 "_law_figures" zbw (znW K)) (F_l_ways_right : FC P w K mg base 7 "_law_ways_right" za1 (znc K m0 mF mW)) (F_search_beneath : ∀ b,Sub K mg base b→FC P w K mg b 6 "search_beneath" za0 (zkt P w K mg b mF)) : FC P w K mg base 10 "law" zfU (zgZ K m0 mF mW mp):=by
 refine D_law.ok sc_law (fun vs H Q E h=>?_) (fun f A outer s H vs Q E hr h=>?_)
 ·obtain ⟨a,ns,rfl,_⟩:=h
  rfl
 obtain ⟨a,ns,rfl,hS,_,hnd,hm0,hmF,hmW,hmL,q⟩:=h
 refine ⟨_,(zaf (zaq (i:=1) sc_law.nd rfl (Or.inl rfl) (zaE F_l_begin hr (zaa (pv 0) zad)))
   (zaf (zaq (i:=2) sc_law.nd rfl (Or.inl rfl) (zaE F_l_stand hr (zaa (pv 1) (zaa zae (zaa zae zad)))))
   (zaf (zaq (i:=3) sc_law.nd rfl (Or.inr rfl) (zaE F_full_rows hr (zaa (pv 2) zad)))
   (zaf (zaq (i:=4) sc_law.nd rfl (Or.inl rfl) (zaE F_bridges hr (zaa (pv 2) zad)))
   (zaf (zbd PassesOwn.never rfl (zbC rfl T.m_range (zaa zae zad)) (zas (i:=5) sc_law.nd rfl (Or.inl rfl)) (zaf (zaq (i:=6) sc_law.nd rfl (Or.inr rfl) (zaE F_l_key hr (zaa (pv 1) zad)))
   (zaf (zaq (i:=7) sc_law.nd rfl (Or.inl rfl) (zaB zaL (zaB zaL (pv 2) zae (fun _ _=>rfl)) (zaE F_l_take hr (zaa (pv 1) (zaa (zap zam rfl T.m_len boot_len (zaa (zaB zaL (pv 2) zae (fun _ _=>rfl)) zad)) zad))) (fun _ _=>rfl)))
   (zbc (zbO (PW.pt (ziP (zaC (zi0 (Tup Int) (huD hr)) (pv 7) (zb2 zad) (zaP _)) (zgn (zaC zjC (pv 5) zae (zaP _))))) (zah (zaq (i:=6) sc_law.nd rfl (Or.inr rfl) (zaB zaL (pv 7) (zaE F_l_take hr (zaa (pv 1) (zaa (zap zam rfl T.m_len boot_len (zaa (pv 7) zad)) zad))) (fun _ _=>rfl)))) zaN)
   (zaf (zaq (i:=8) sc_law.nd rfl (Or.inr rfl) (zbQ zad))
   (zff (ix:=9) (iy:=10) (kf:=1) sc_law.nd rfl (Or.inl rfl) rfl (Or.inl rfl) (by decide) (zi5 (osc:=zai zfd) (N:=["_law_script","_law_state","_law_stand_here","_law_fulls","_law_bridged","_law_turn","_law_key_here","_law_some","_law_asked_here","_law_is_less","_law_found","_law_told"]) (ps:=["_law_spot","_law_number"]) (caps:=["_law_asked_here","_law_fulls","_law_key_here"]) (cap:=[8,3,6]) ⟨rfl,rfl,rfl,by decide +kernel,by decide +kernel,by decide +kernel,by decide +kernel⟩ (by decide +kernel) (by decide +kernel) rfl rfl rfl rfl (fun _ _ _ _ us hl=>match us,hl with | [_,_],_=>rfl) (fun _=>rfl)) rfl D_law.hd hBM (fun b _ _ _ _ _ _ _ S hr=>(zaE (F_l_asked.lift S) hr (zaa (pv 2) (zaa (pv 3) (zaa (pv 4) (zaa (pv 0) (zaa (pv 1) zad))))))) F_search_beneath hr (pv 4) zae (pv 9)
   (zaf (zaq (i:=11) sc_law.nd rfl (Or.inl rfl) (zbL (zf5 rfl) rfl T.m_dict boot_dict (zaa (zcl (N:=["_law_knot","_law_wide","_law_own"]) (own:=3) (cap:=[]) rfl (zbD (pv 10)) ⟨rfl,rfl,rfl,rfl,rfl,rfl⟩ (fun _ _ _ _ _=>(zkF (K:=K) (n:=3) rfl (zbm (zas (i:=0) (show List.Nodup (["_law_knot","_law_wide","_law_own"] : List Str) by decide +kernel) rfl (Or.inl rfl)) (zbm (zas (i:=1) (show List.Nodup (["_law_knot","_law_wide","_law_own"] : List Str) by decide +kernel) rfl (Or.inl rfl)) (zbm (zas (i:=2) (show List.Nodup (["_law_knot","_law_wide","_law_own"] : List Str) by decide +kernel) rfl (Or.inl rfl)) zek))))) (fun _ _ _ _ _=>zbY) (fun _ _ _ _ _=>(zb2 (zaa (pv 0) (zaa (zb2 (zaa (pv 1) (zaa (pv 2) zad))) zad))))) zad)))
   (zbc (zbO (zaC (zi0 (List Int) (huD hr)) (zap (zjX rfl) rfl T.m_sorted boot_sorted (zaa (pv 11) zad)) (zg7 rfl rfl T.m_list rfl T.m_range (zaa (zap zam rfl T.m_len boot_len (zaa (zaB zaL (pv 2) zae (fun _ _=>rfl)) zad)) zad)) (zaP _)) (zah (zat zdt)) zaN)
   (zbc (zbO (zaC zjC (zap zam rfl T.m_len boot_len (zaa (pv 8) zad)) (zax zbf (zaE F_l_figures hr (zaa (zap zam rfl T.m_len boot_len (zaa (zaB zaz (pv 3) zae (fun _ _=>rfl)) zad)) zad)) (zax zb5 zae (zax zbR (zap zam rfl T.m_len boot_len (zaa (zaB zaL (pv 2) zae (fun _ _=>rfl)) zad)) zae))) (zaP _)) (zah (zat zdt)) zaN)
   (zah (zbO (ziR (zfe (zaE F_l_ways_right hr (zaa (pv 4) (zaa (pv 2) (zaa (pv 3) (zaa (pv 6) (zaa (pv 11) zad)))))))) (zah (zat zdt)) zaN)))))))))))
   (zah (zat zdt))))))),?_⟩
 have TT0 : Tab4 m0 mF mW mp H:=by
  simp only [List.nodup_cons,List.mem_cons,List.not_mem_nil,or_false,not_or] at hnd
  exact ⟨⟨⟨#[],hm0,trivial,.inl rfl⟩,⟨#[],hmF,trivial,.inl rfl⟩,⟨#[],hmW,trivial,.inl rfl⟩,hnd.1.1,hnd.1.2.1,hnd.2.1.1⟩,⟨#[],hmL,trivial,.inl rfl⟩,Ne.symm hnd.1.2.2,Ne.symm hnd.2.1.2,Ne.symm hnd.2.2.1⟩
 refine ⟨_,rfl,a,ns,rfl,hS,fun d H1 _ g1 s1=>?_⟩
 refine ⟨_,rfl,d,a,9,6,rfl,by decide,by decide,by decide,by decide,s1,fun st ps rows t rs as H2 _ S k2 s2=>?_⟩
 have TT2:=(TT0.ext g1.ext).ext (s1.ext k2)
 refine ⟨_,rfl,st,ps,rows,t,rs,as,rfl,S,fun pf qs H3 _ s3 h3 _ _ _ hF=>?_⟩
 refine ⟨_,rfl,st,ps,rows,t,rs,as,rfl,S.same s3,fun br xs H4 _ s4 h4 hB=>?_⟩
 have s24:=s3.trans s4
 have S4:=S.same s24
 have TT4:=TT2.ext s24.ext
 have hF4:=hF.same s4
 have h4f:=s4 _ _ h3
 have sl4:=s2.same s24
 clear s24 s3 s4 hF h3 S TT2 s2 k2 TT0
 have ndT : ∀ {H' : Hp} {a' : Addr} {o : HO},LS K a d H'→H' a' = some o→(∀ kvs,o≠.dK kvs)→a'≠d:=fun {H' a' o} s e n z=>by
  obtain ⟨_,_,_,e2,_⟩:=s.ex
  rw [← z,e] at e2
  exact n _ (Option.some.inj e2)
 have hfew:=S4.few
 refine ⟨3,rfl,by decide,by decide,?_⟩
 refine za9 (n:=3) (fun i σ HA=>∃ x5 x6 x7 x8 x9 x10 x11 : Option V,σ = [some (.ref a),some (.ref d),some (.ref st),some (.ref pf),some (.ref br),x5,x6,x7,x8,x9,x10,x11]∧(∀ b o,b≠d→(∀ tab,o≠.tbl tab)→H4 b = some o→HA b = some o)∧Tab4 m0 mF mW mp HA∧LS K a d HA) ?_ ?_ ?_
 ·exact ⟨_,_,_,_,_,_,_,rfl,fun _ _ _ _ e=>e,TT4,sl4⟩
 ·rintro i σ HA hi ⟨x5,x6,x7,x8,x9,x10,x11,rfl,kA,TA,sA⟩
  rw [Int.zero_add]
  refine ⟨_,rfl,d,a,rfl,sA,fun key0 HB _ _ kB sB=>?_⟩
  have stT : ∀ {HX HY : Hp},zbi HX st ps rows t rs as→(∀ b o,HX b = some (.tup o)→HY b = some (.tup o))→zbi HY st ps rows t rs as:=fun {HX HY} S e=>⟨e _ _ S.st,e _ _ S.tr,e _ _ S.rs,zaw (fun _ _ h=>e _ _ h) S.at_,S.len,S.T,S.R,S.few,S.keys⟩
  have ndt4 : ∀ {b : Addr} {o : HO},H4 b = some o→(∀ kvs,o≠.dK kvs)→b≠d:=fun e n=>ndT sl4 e n
  have tA : ∀ b o,H4 b = some (.tup o)→HA b = some (.tup o):=fun b o e=>kA _ _ (ndt4 e (fun _ z=>nomatch z)) (fun _ z=>nomatch z) e
  have tB : ∀ b o,HA b = some (.tup o)→HB b = some (.tup o):=fun b o e=>kB _ _ (ndT sA e (fun _ z=>nomatch z)) e
  have SB:=stT (stT S4 tA) tB
  refine ⟨_,rfl,_,_,_,_,rfl,rfl,SqT.of SB.st,rfl,_,rfl,_,rfl,_,_,_,_,rfl,rfl,SqT.of SB.st,rfl,_,_,rfl,.inr (SqT.of SB.tr),d,a,_,rfl,by rw [zav]; omega,sB,fun v HC v0 v1 kC sC=>?_⟩
  rw [zav] at v1
  obtain ⟨c,rfl⟩:=zkZ v0
  have tC : ∀ b o,HB b = some (.tup o)→HC b = some (.tup o):=fun b o e=>kC _ _ (ndT sB e (fun _ z=>nomatch z)) e
  have SC:=stT SB tC
  have kAC : Keep d HA HC:=kB.trans kC
  have TC : Tab4 m0 mF mW mp HC:=TA.ext (sA.ext kAC)
  obtain ⟨b,hb1,hb2⟩:=SC.at_.get (k:=c) (by rw [SC.len]; omega)
  refine ⟨_,_,_,_,rfl,rfl,SqT.of SC.rs,zhF hb1,?_⟩
  have hfit : (zbt rows c).length≤63:=Nat.le_trans (zmd (row_in (by rw [SC.len]; omega))) SC.keys
  generalize zbt rows c = row at hb2 hfit
  refine ⟨fun σ' H'=>∃ key : Int,σ' = [some (.ref a),some (.ref d),some (.ref st),some (.ref pf),some (.ref br),some (.int (i : Int)),some (.int key),some (.ref b),x8,x9,x10,x11]∧Keep d HC H'∧Tab4 m0 mF mW mp H'∧LS K a d H',?_,?_⟩
  ·refine ⟨_,rfl,(by show 0≤sizeLine; decide),fun e he=>?_⟩
   have se:=zak he (.tup [])
   have h5b:=se _ _ hb2
   have sD:=sC.same se
   have h5e : upd HC e (.tup []) e = some (.tup []):=zac
   have T5:=TC.ext se.ext
   generalize upd HC e (.tup []) = HD at se h5b sD h5e T5 ⊢
   refine ⟨(⟨row⟩ : Tup Int),(⟨[]⟩ : Tup Int),⟨_,_,rfl,SqT.of h5b,zal.ints⟩,⟨_,_,rfl,SqT.of h5e,.nil⟩,_,rfl,?_⟩
   refine ite2 (fun c1=>?_) (fun c1=>?_)
   ·refine ⟨_,rfl,_,_,rfl,rfl,_,rfl,?_⟩
    refine ite2 (fun c2=>?_) (fun c2=>?_)
    ·have hpos : 0 < row.length:=by
      rcases row with _ | ⟨x,row⟩
      ·exact absurd c1 (by decide)
      ·exact Nat.succ_pos _
     refine ⟨_,rfl,_,rfl,_,rfl,_,_,rfl,.inr (SqT.of h5b),d,a,_,rfl,by rw [List.length_map]; omega,sD,fun v HE v0 v1 kE sE=>?_⟩
     rw [List.length_map] at v1
     obtain ⟨j,rfl⟩:=zkZ v0
     have hj : j < row.length:=by omega
     refine ⟨_,_,_,_,rfl,rfl,SqT.of (kE _ _ (ndT sD h5b (fun _ z=>nomatch z)) h5b),zaJ (v:=.int row[j]) (by rw [List.getElem?_map,List.getElem?_eq_getElem hj]; rfl),?_⟩
     exact ⟨_,rfl,fun b o n e=>kE _ _ n (se _ _ e),T5.ext (sD.ext kE),sE⟩
    ·exact ⟨_,rfl,fun b o n e=>se _ _ e,T5,sD⟩
   ·refine iteF ?_
    exact ⟨_,rfl,fun b o n e=>se _ _ e,T5,sD⟩
  rintro σ' HD ⟨key,rfl,kD,TD,sD⟩
  have kkD : ∀ b o,b≠d→(∀ tab,o≠.tbl tab)→H4 b = some o→HD b = some o:=fun b o n1 n2 e=>kD _ _ n1 (kAC _ _ n1 (kA _ _ n1 n2 e))
  have kp4D : ∀ {b : Addr} {o : HO},(∀ kvs,o≠.dK kvs)→(∀ tab,o≠.tbl tab)→H4 b = some o→HD b = some o:=fun n1 n2 e=>kkD _ _ (ndt4 e n1) n2 e
  have SD:=stT S4 (fun b o e=>kp4D (fun _ z=>nomatch z) (fun _ z=>nomatch z) e)
  have hpfD : HD pf = some (.lst (qs.map V.ref)):=kp4D (fun _ z=>by cases z) (fun _ z=>by cases z) h4f
  have hbrD : HD br = some (.lst xs):=kp4D (fun _ z=>by cases z) (fun _ z=>by cases z) h4
  have hFD : zau K HD ps rows (List.range (ps.length + 1)) qs:=zaw (fun j q ⟨ws,g1,g2⟩=>⟨ws,kp4D (fun _ z=>nomatch z) (fun _ z=>nomatch z) g1,zd6 (fun _ _ e=>kp4D (fun _ z=>nomatch z) (fun _ z=>nomatch z) e) g2⟩) hF4
  have hBD : Paired (BrAt [] HD ps rows) (List.range (ps.length + 1)) xs:=zaw (fun j x ⟨b,o,j',ys,g1,g2,g3,g4,g5,g6,g7⟩=>⟨b,o,j',ys,g1,g2,g3,kp4D (fun _ z=>nomatch z) (fun _ z=>nomatch z) g4,kp4D (fun _ z=>nomatch z) (fun _ z=>nomatch z) g5,kp4D (fun _ z=>nomatch z) (fun _ z=>nomatch z) g6,zaw (fun c y ⟨a,s,f1,f2,f3,f4⟩=>⟨a,s,f1,f2,kp4D (fun _ z=>nomatch z) (fun _ z=>nomatch z) f3,kp4D (fun _ z=>nomatch z) (fun _ z=>nomatch z) f4⟩) g7⟩) hB
  refine ⟨(by show 0≤sizeLine; decide),fun ad hd=>?_⟩
  have s5:=zak hd (.lst [])
  have h5a : upd HD ad (.lst []) ad = some (.lst []):=zac
  have T5:=TD.ext s5.ext
  generalize upd HD ad (.lst []) = H5 at s5 h5a T5 ⊢
  refine ⟨T5.l,[.ref ad,.ref pf,.int key],rfl,?_,fun g c' H6 hg hT6 hC=>?_⟩
  ·intro j i v h1 h2
   rcases j with _ | _ | _ | j
   ·cases h1; cases h2; rfl
   ·cases h1; cases h2; rfl
   ·cases h1; cases h2; rfl
   ·cases h1
  have T6 : Tab4 m0 mF mW mp H6:=⟨⟨T5.t.p.gro hg (Ne.symm T5.n1) (zbb T5.l),T5.t.f.gro hg (Ne.symm T5.n2) (zbb T5.l),T5.t.w.gro hg (Ne.symm T5.n3) (zbb T5.l),T5.t.n1,T5.t.n2,T5.t.n3⟩,hT6,T5.n1,T5.n2,T5.n3⟩
  have kp56 : Kp0 H5 H6:=fun b o n e=>hg _ _ (fun z=>by
   obtain ⟨tab,e2⟩:=zbb T5.l
   rw [← z,e] at e2
   exact n _ (Option.some.inj e2)) e
  have kpD6 : Kp0 HD H6:=Kp0.trans (.of s5) kp56
  have h6a:=kp56.lst h5a
  refine ⟨_,rfl,fun bs SB hV=>?_⟩
  have n1 : ad≠pf:=fun z=>by
   rw [z,hpfD] at hd
   cases hd
  have n2 : ad∉qs:=fun z=>by
   obtain ⟨ws,e⟩:=hFD.alloc ad z
   rw [hd] at e
   cases e
  have AF:=zhb (mF:=mF) (ps:=ps) (rows:=rows) (qs:=qs) hV hC h6a (kpD6.lst hpfD) (zec kpD6 hFD) n1 n2 (zbb T6.t.f) fun _ _ _ _ h=>⟨_,rfl,_,rfl,_,rfl,_,rfl,_,rfl,h⟩
  have SE : za5 [ad] mF (fun L H'=>(∃ zs,H' ad = some (.lst zs)∧zs.length = L.length)∧∀ b o,b≠mF→b≠ad→H6 b = some o→H' b = some o) ps rows br xs [] H6:=⟨⟨⟨[],h6a,rfl⟩,fun _ _ _ _ e=>e⟩,fun a ha=>⟨[],by rw [List.mem_singleton.mp ha]; exact h6a⟩,kpD6.lst hbrD,(fun z=>by
   have e:=hbrD
   rw [List.mem_singleton.mp z,hd] at e
   cases e),br_av hd kpD6 hBD,T6.t.f⟩
  refine ⟨br,g,xs,ps,rows,0,key,[ad],_,_,[],rfl,AF,SE,S4.T,S4.R,hfew,by omega,Nat.zero_le _,(fun k hk=>by have:=zem S4.T S4.len (rows:=rows) hk; have:=S4.keys; omega),fun D zs H8 L' S8 k8 hDn h8 hTr hL=>?_⟩
  rw [zhD S4.T] at hTr hL
  rw [List.length_range] at hL
  obtain ⟨⟨zs',h8a,hzl'⟩,_⟩:=S8.r
  rw [List.nil_append] at hzl'
  have T8 : Tab4 m0 mF mW mp H8:=⟨⟨zfa T6.t.p T6.t.n1 h6a (zbb T6.t.f) k8,S8.tb,zfa T6.t.w (Ne.symm T6.t.n3) h6a (zbb T6.t.f) k8,T6.t.n1,T6.t.n2,T6.t.n3⟩,zfa T6.l T6.n2 h6a (zbb T6.t.f) k8,T6.n1,T6.n2,T6.n3⟩
  have kpD8 : Kp0 HD H8:=fun b o n e=>by
   have e6:=kpD6 _ _ n e
   exact k8 _ _ (fun z=>by
    rw [List.mem_singleton.mp z,hd] at e
    cases e) (SE.nm e6 n) e6
  have S8':=zeK kpD8 SD
  have hzn:=Paired.length hTr
  rw [List.length_range] at hzn
  refine ⟨_,rfl,D,rfl,⟨_,SqL.of h8⟩,fun D2 hD2=>?_⟩
  refine zbG (xs:=zs) (fun m σ H9=>∃ (x0 x1 x2 : Option V) (us : List V),σ = [x0,x1,x2]∧H9 D2 = some (.lst us)∧Paired (znF H9 ps rows key) (List.range m) us∧But D2 H8 H9) ?_ ?_ ?_ ?_
  ·exact ⟨_,_,_,[],rfl,zac,.nil,fun b o n e=>by rw [zag n]; exact e⟩
  ·rintro m σ H9 _ ⟨x0,x1,x2,us,rfl,_,_,k9⟩
   exact k9.sq (SqL.of h8) hD2
  ·rintro m r x σ H9 hx hm ⟨x0,x1,x2,us,rfl,h9,hP9,k9⟩
   have hmi:=(List.getElem?_eq_some_iff.mp hx).1
   obtain ⟨kn,hkn,tt,rfl,htt⟩:=zdH hTr hx
   have hmk : kn = m:=by
    have:=(List.getElem?_eq_some_iff.mp hkn).2
    rw [List.getElem_range] at this
    exact this.symm
   subst hmk
   have h9t:=k9 _ _ (zab htt hD2) htt
   have hul:=Paired.length hP9
   rw [List.length_range] at hul
   refine ⟨tt,_,rfl,SqT.of h9t,rfl,_,_,rfl,_,_,rfl,_,_,rfl,rfl,?_⟩
   refine znQ (iteT ?_)
   refine ⟨_,rfl,_,rfl,_,rfl,(by show 2≤sizeLine; decide),fun a1 ha1=>⟨(by show 2≤sizeLine; decide),fun b1 hb1'=>?_⟩⟩
   have sa:=zak ha1 (.tup [.int ((zan (zaj ps rows kn) key : Nat) : Int),.int ((ownB rows kn key : Nat) : Int)])
   have sb:=zak hb1' (.tup [.int (kn : Int),.ref a1])
   have h10:=sb _ _ (sa _ _ h9)
   have h10a:=sb _ _ (zac (H:=H9) (a:=a1) (o:=.tup [.int ((zan (zaj ps rows kn) key : Nat) : Int),.int ((ownB rows kn key : Nat) : Int)]))
   have h10b : upd (upd H9 a1 (.tup [.int ((zan (zaj ps rows kn) key : Nat) : Int),.int ((ownB rows kn key : Nat) : Int)])) b1 (.tup [.int (kn : Int),.ref a1]) b1 = some (.tup [.int (kn : Int),.ref a1]):=zac
   have s10:=sa.trans sb
   generalize upd (upd H9 a1 (.tup [.int ((zan (zaj ps rows kn) key : Nat) : Int),.int ((ownB rows kn key : Nat) : Int)])) b1 (.tup [.int (kn : Int),.ref a1]) = H10 at h10 h10a h10b s10 ⊢
   have nD : ∀ {x : Addr} {us : List V},H10 x = some (.tup us)→x≠D2:=fun {x us} h z=>by
    rw [z,h10] at h
    cases h
   refine ⟨_,h10,zar (by omega),r - 1,by omega,by omega,_,_,_,us ++ [.ref b1],rfl,zac,?_,fun b o n e=>by rw [zag n]; exact s10 _ _ (k9 b o n e)⟩
   rw [List.range_succ]
   exact zb4 (zaw (fun _ _ ⟨b,a,e1,e2,e3⟩=>⟨b,a,e1,by rw [zag (nD (s10 _ _ e2))]; exact s10 _ _ e2,by rw [zag (nD (s10 _ _ e3))]; exact s10 _ _ e3⟩) hP9) ⟨b1,a1,rfl,by rw [zag (nD h10b)]; exact h10b,by rw [zag (nD h10a)]; exact h10a⟩
  rintro σ H9 ⟨x0,x1,x2,us,rfl,h9,hP9,k9⟩
  rw [← hzn] at hP9
  have s89 : Same H8 H9:=fun b o e=>k9 b o (zab e hD2) e
  obtain ⟨kvs,p1,p2,p3⟩:=zkc hP9
  refine ⟨D2,us,kvs,rfl,SqL.of h9,p1,?_,fun td htd=>?_⟩
  ·rw [p2]
   exact List.Pairwise.map (R:=fun a b : Nat=>a≠b) _ (fun a b (n : a≠b) z=>n (by have:=Sum.inl.inj z; omega)) List.nodup_range
  have s10:=zak htd (.dK kvs)
  have h10 : upd H9 td (.dK kvs) td = some (.dK kvs):=zac
  have s810:=s89.trans s10
  have hTo : zhJ (upd H9 td (.dK kvs)) td ps rows key:=⟨kvs,h10,fun k hk=>by
   obtain ⟨a,e1,e2⟩:=p3 k (List.mem_range.mpr hk) List.nodup_range
   exact ⟨a,e1,s10 _ _ e2⟩⟩
  generalize upd H9 td (.dK kvs) = H10 at s10 h10 s810 hTo ⊢
  refine ⟨fun σ' H'=>σ' = [some (.ref a),some (.ref d),some (.ref st),some (.ref pf),some (.ref br),some (.int (i : Int)),some (.int key),some (.ref b),some (.ref ad),some (.ref g),some (.ref D),some (.ref td)]∧Same H10 H',?_,?_⟩
  ·refine ⟨_,rfl,td,kvs,(List.range (ps.length + 1)).map (fun n : Nat=>(n : Int)),rfl,h10,by rw [p2,List.map_map]; rfl,by rw [List.length_map,List.length_range]; omega,fun l hl=>?_⟩
   have sl:=zak hl (.lst ((zbX ((List.range (ps.length + 1)).map (fun n : Nat=>(n : Int)))).map V.int))
   have hll : upd H10 l (.lst ((zbX ((List.range (ps.length + 1)).map (fun n : Nat=>(n : Int)))).map V.int)) l = _:=zac
   generalize upd H10 l (.lst ((zbX ((List.range (ps.length + 1)).map (fun n : Nat=>(n : Int)))).map V.int)) = H11 at sl hll ⊢
   have S11:=zeK (.of (s810.trans sl)) S8'
   refine ⟨_,rfl,_,_,_,_,rfl,rfl,SqT.of S11.st,rfl,_,_,rfl,.inr (SqT.of S11.tr),(zco ps).length,rfl,by rw [zav]; omega,fun l2 hl2=>?_⟩
   rw [zav]
   have sl2:=zak hl2 (.lst ((List.range (ps.length + 1)).map fun i : Nat=>V.int i))
   have eso : zbX ((List.range (ps.length + 1)).map (fun n : Nat=>(n : Int))) = (List.range (ps.length + 1)).map (fun n : Nat=>(n : Int)):=zkv (List.Pairwise.map (R:=fun a b : Nat=>a < b) _ (fun a b h=>decide_eq_false (by omega)) List.pairwise_lt_range)
   rw [eso] at hll
   refine ⟨(List.range (ps.length + 1)).map (fun n : Nat=>(n : Int)),(List.range (ps.length + 1)).map (fun n : Nat=>(n : Int)),⟨_,_,rfl,SqL.of (sl2 _ _ hll),zal.ints⟩,⟨_,_,rfl,SqL.of (by rw [zac,List.map_map]; rfl),zal.ints⟩,_,rfl,?_⟩
   refine zmL rfl ?_
   exact ⟨rfl,sl.trans sl2⟩
  rintro σ' H11 ⟨rfl,s11⟩
  have s811:=s810.trans s11
  have kpD11 : Kp0 HD H11:=kpD8.trans (.of s811)
  have S11:=zeK kpD11 SD
  have hF11:=zec kpD11 hFD
  have hpf11:=kpD11.lst hpfD
  have T11:=T8.ext s811.ext
  obtain ⟨qk,hqk,wk,hwk,hak⟩:=zba hF11 (show 0 < ps.length + 1 by omega)
  have hwk2:=hak.length
  refine ⟨fun σ' H'=>σ' = [some (.ref a),some (.ref d),some (.ref st),some (.ref pf),some (.ref br),some (.int (i : Int)),some (.int key),some (.ref b),some (.ref ad),some (.ref g),some (.ref D),some (.ref td)]∧H11 = H',?_,?_⟩
  ·refine ⟨_,rfl,_,_,rfl,.inl (SqL.of (s811 _ _ h8a)),_,rfl,_,_,_,_,rfl,rfl,SqL.of hpf11,zaJ (j:=0) (v:=.ref qk) (by rw [List.getElem?_map,hqk]; rfl),_,_,rfl,.inl (SqL.of hwk),wk.length,rfl,_,rfl,_,_,_,_,rfl,rfl,SqT.of S11.st,rfl,_,_,rfl,.inr (SqT.of S11.tr),_,_,rfl,rfl,_,_,rfl,rfl,.inl ⟨by decide,by decide⟩,_,_,rfl,rfl,_,_,rfl,rfl,_,rfl,?_⟩
   refine zom ?_ ⟨rfl,rfl⟩
   rw [← hwk2,zav]
   omega
  rintro σ' H' ⟨rfl,rfl⟩
  refine ⟨_,rfl,_,rfl,_,rfl,_,rfl,_,rfl,br,st,pf,td,key,ps,rows,t,rs,as,qs,xs,rfl,S11,kpD11.lst hbrD,br_kp kpD11 hBD,hpf11,hF11,hTo.kp (.of s11),T11.t,fun H12 k12 T12=>⟨_,rfl,?_⟩⟩
  refine iteF ?_
  have kp12 : Kp0 H11 H12:=T11.t.k0 k12
  have kpD12:=kpD11.trans kp12
  refine ⟨_,_,_,_,_,_,_,rfl,fun b o n1 n2 e=>kpD12 _ _ n2 (kkD _ _ n1 n2 e),⟨T12,?_,T11.n1,T11.n2,T11.n3⟩,ls_kp0 sD kpD12⟩
  obtain ⟨tab,e1,e2,e3⟩:=T11.l.ex
  refine ⟨tab,k12 _ _ T11.n1 T11.n2 T11.n3 e1,e2,?_⟩
  rcases e3 with e3 | ⟨c,e3,e4⟩
  ·exact .inl e3
  ·exact .inr ⟨c,e3,kp12 _ _ (fun _ z=>nomatch z) e4⟩
 ·rintro σ HA ⟨x5,x6,x7,x8,x9,x10,x11,rfl,_⟩
  exact q _
abbrev lawRoom : Nat:=10
theorem all_ok (T : Txt K mg) {mc4 mp4 mc26 mp26 mc44 mp44 mc45 mp45 : Addr} (hBM : BMAt mg base) (D_is_whole : DF K mg "is_whole" zdh zb1) (D_code : DF K mg "code" ziM zfg) (D_how_many_below : DF K mg "how_many_below" zbr zaM) (D_place : DFT K mg "place" zcU zdk mc4 mp4) (D_joined_up : DF K mg "joined_up" zcG zbK) (D_lowest_unlike : DF K mg "lowest_unlike" zby za8) (D_turned : DF K mg "turned" zeL zcV) (D_labels : DF K mg "labels" zeO zcY) (D_neighbours : DF K mg "neighbours" zce zbl) (D_least_free : DF K mg "least_free" zcf zbz) (D_colours : DF K mg "colours" zdW zcv) (D_marks : DF K mg "marks" zgg zd0) (D_handed : DF K mg "handed" zeU zc3) (D_is_one_of_first : DF K mg "is_one_of_first" zbj zaT) (D_children : DF K mg "children" zdi zbH) (D_beneath : DF K mg "beneath" zdY zcx) (D_is_way : DF K mg "is_way" zeT zc2) (D_need_way : DF K mg "need_way" zdg zb0) (D_own_entries : DF K mg "own_entries" zbS zbo) (D_full_rows_beneath : DF K mg "full_rows_beneath" za6 zaI) (D_full_rows : DF K mg "full_rows" zcH zbx) (D_owns_of : DF K mg "owns_of" zdR zcr) (D_starts_of : DF K mg "starts_of" zcE zbJ) (D_bridges_of : DF K mg "bridges_of" zcg zbB) (D_bridges : DF K mg "bridges" zdX zcw) (D_first_place : DFT K mg "first_place" zaS zaW mc26 mp26) (D_start_in : DF K mg "start_in" zdf zbZ) (D_next_place : DF K mg "next_place" zcd zbk) (D_search : DF K mg "search" zeM zcW) (D_search_beneath : DF K mg "search_beneath" zbq za0) (D_rows_on : DF K mg "rows_on" zdQ zcq) (D_places : DF K mg "places" zeN zcX) (D_l_begin : DF K mg "_law_begin" zdU zcu) (D_l_mixed : DF K mg "_law_mixed" zdT zct) (D_l_take : DF K mg "_law_take" zeQ zbA) (D_l_key : DF K mg "_law_key" zgi zdl) (D_l_tree : DF K mg "_law_tree" zeP zcZ) (D_l_row : DF K mg "_law_row" zgh zd1) (D_l_rows : DF K mg "_law_rows" zeR zc0) (D_l_stand : DF K mg "_law_stand" zdS zcs) (D_l_asked : DF K mg "_law_asked" zdV zbV) (D_l_figures : DF K mg "_law_figures" zcF zbw) (D_l_down : DF K mg "_law_down" zeS zc1) (D_l_ways_right : DFT K mg "_law_ways_right" zaK za1 mc44 mp44) (D_law : DFT K mg "law" zfd zfU mc45 mp45) : FC P w K mg base 10 "law" zfU (zgZ K mp4 mp26 mp44 mp45):=
 have m:=zmq (P:=P) (w:=w) (base:=base) T D_l_mixed
 have t:=zn5 T D_l_take m
 have c:=zoa (P:=P) (w:=w) (base:=base) T D_code
 have nb:=zgx (P:=P) (w:=w) (base:=base) T D_neighbours
 have mk:=zmr T D_marks (zkU T D_labels c (zkN T D_turned (ok_low T D_lowest_unlike))) (zjD T D_colours nb (zgy T D_least_free)) nb
 have ch:=zhW (P:=P) (w:=w) (base:=base) T D_children
 have fr:=ok_frb T D_full_rows_beneath (zjF T D_beneath) ch (zkW T D_handed mk) (ok_own T D_own_entries) (zkV T D_joined_up)
 have fu:=zmv T D_full_rows fr
 have br:=zjE T D_bridges fu (zob T D_bridges_of ch (zkO T D_starts_of) (zn6 T D_owns_of))
 have ky:=ok_key T D_l_key t
 have ls:=zkT T D_l_stand (zms T D_l_tree t) (zmt T D_l_rows t (zn8 T D_l_row t ky))
 have fi:=fun (b : Heap) (S : Sub K mg base b)=>zmw (P:=P) (w:=w) (base:=b) T D_first_place (hBM.lift S) (fun b' _=>znu (base:=b') T D_how_many_below)
 have se:=fun (b : Heap) (S : Sub K mg base b)=>zkP (P:=P) (w:=w) (base:=b) (mp:=mp26) T D_search (fi b S) (zmm T D_start_in) (zkS T D_next_place)
 have be:=fun (b : Heap) (S : Sub K mg base b)=>zmx (P:=P) (w:=w) (base:=b) (mp:=mp26) T D_search_beneath (fi b S) (zkS T D_next_place)
 have nd:=zn7 T D_need_way (zmu T D_is_way (zmo T D_is_one_of_first (zml (P:=P) (w:=w) (base:=base) T D_is_whole)))
 have pl:=zkR T D_places (zkQ T D_rows_on nd) (zmn T D_place hBM (fun b=>znu (base:=b) T D_how_many_below))
 have no:=zmp (P:=P) (w:=w) (base:=base) T D_l_asked
 have fg:=ok_fig (P:=P) (w:=w) (base:=base) T D_l_figures
 have wy:=zn4 T D_l_ways_right hBM (zn9 T D_l_down) pl no fg se
 ok_law T D_law hBM (zmy T D_l_begin) ls fu br ky t no fg wy be
end
def rF (f : Addr) : Option (Option Value):=some (some (.ref f))
def oB (x : Str) (st : Stmt) (oc : Value) (od : Option Addr) (kV dc pm : Value) (an : Option Addr) (cd ct : Value) (sl : Array (Option Value)) : Option Obj:=some ⟨oc,od,.func (PySem.W.fnOf x x (zcN st) (zbP st) (zai st) .none kV dc pm an cd ct),sl⟩
theorem dM {K : PySem.W.Frag} {h : Heap} {mg : Str→Option Value} (X : K.In h) (G : h.Ns mainGlobals mg) {x : Str} {st : Stmt} {f : Addr} {oc : Value} {od : Option Addr} {kV dc pm : Value} {an : Option Addr} {cd ct : Value} {sl : Array (Option Value)} (ps : List Str) (a : PySem.W.nsIn K mainGlobals x = rF f) (l : K.lookup f = oB x st oc od kV dc pm an cd ct sl) (c : PySem.W.codeIn K cd x = true) (k : PySem.W.keepIn K (.ref f) = true)
  (hb : ∀ (kV doc pm : Value) (an : Option Addr) (cdv ct : Value) (us : List Value),us.length = ps.length→bindArgs (PySem.W.fnOf x x (zcN st) (zbP st) (zai st) .none kV doc pm an cdv ct) ⟨us,[]⟩ = pure (ps.zip us)) : DF K mg x st ps:=⟨_,_,zfZ l c k,(zfZ l c k).binds hb,PySem.W.mg_of X G a⟩
open PySem.W in
set_option autoImplicit true in
theorem all_mk {l : PySem.W.OpenLaw} {w : World} {K : PySem.W.Frag} {h : Heap} {mg : Str→Option Value} {fa mc4 mp4 mc26 mp26 mc44 mp44 mc45 mp45 : Addr} (X : K.In h) (G : h.Ns mainGlobals mg) (hfa : mg "law" = some (.ref fa))
   {t_KNOT_NUMBERS : Tok} {t_TURNS : Tok} {t_MOST_BEHIND_START : Tok}
  (a1 : nsIn K mainGlobals "is_whole" = rF f1) (l1 : K.lookup f1 = oB "is_whole" zdh oc1 od1 kV1 dc1 pm1 an1 cd1 ct1 sl1) (c1 : codeIn K cd1 "is_whole" = true) (k1 : keepIn K (.ref f1) = true)
  (a2 : nsIn K mainGlobals "code" = rF f2) (l2 : K.lookup f2 = oB "code" ziM oc2 od2 kV2 dc2 pm2 an2 cd2 ct2 sl2) (c2 : codeIn K cd2 "code" = true) (k2 : keepIn K (.ref f2) = true)
  (a3 : nsIn K mainGlobals "how_many_below" = rF f3) (l3 : K.lookup f3 = oB "how_many_below" zbr oc3 od3 kV3 dc3 pm3 an3 cd3 ct3 sl3) (c3 : codeIn K cd3 "how_many_below" = true) (k3 : keepIn K (.ref f3) = true)
  (a4 : nsIn K mainGlobals "place" = rF f4) (l4 : K.lookup f4 = oB "place" zcU oc4 od4 kV4 dc4 pm4 an4 cd4 ct4 sl4) (c4 : codeIn K cd4 "place" = true) (k4 : keepIn K (.ref f4) = true)
  (a5 : nsIn K mainGlobals "joined_up" = rF f5) (l5 : K.lookup f5 = oB "joined_up" zcG oc5 od5 kV5 dc5 pm5 an5 cd5 ct5 sl5) (c5 : codeIn K cd5 "joined_up" = true) (k5 : keepIn K (.ref f5) = true)
  (a6 : nsIn K mainGlobals "lowest_unlike" = rF f6) (l6 : K.lookup f6 = oB "lowest_unlike" zby oc6 od6 kV6 dc6 pm6 an6 cd6 ct6 sl6) (c6 : codeIn K cd6 "lowest_unlike" = true) (k6 : keepIn K (.ref f6) = true)
  (a7 : nsIn K mainGlobals "turned" = rF f7) (l7 : K.lookup f7 = oB "turned" zeL oc7 od7 kV7 dc7 pm7 an7 cd7 ct7 sl7) (c7 : codeIn K cd7 "turned" = true) (k7 : keepIn K (.ref f7) = true)
  (a8 : nsIn K mainGlobals "labels" = rF f8) (l8 : K.lookup f8 = oB "labels" zeO oc8 od8 kV8 dc8 pm8 an8 cd8 ct8 sl8) (c8 : codeIn K cd8 "labels" = true) (k8 : keepIn K (.ref f8) = true)
  (a9 : nsIn K mainGlobals "neighbours" = rF f9) (l9 : K.lookup f9 = oB "neighbours" zce oc9 od9 kV9 dc9 pm9 an9 cd9 ct9 sl9) (c9 : codeIn K cd9 "neighbours" = true) (k9 : keepIn K (.ref f9) = true)
  (a10 : nsIn K mainGlobals "least_free" = rF f10) (l10 : K.lookup f10 = oB "least_free" zcf oc10 od10 kV10 dc10 pm10 an10 cd10 ct10 sl10) (c10 : codeIn K cd10 "least_free" = true) (k10 : keepIn K (.ref f10) = true)
  (a11 : nsIn K mainGlobals "colours" = rF f11) (l11 : K.lookup f11 = oB "colours" zdW oc11 od11 kV11 dc11 pm11 an11 cd11 ct11 sl11) (c11 : codeIn K cd11 "colours" = true) (k11 : keepIn K (.ref f11) = true)
  (a12 : nsIn K mainGlobals "marks" = rF f12) (l12 : K.lookup f12 = oB "marks" zgg oc12 od12 kV12 dc12 pm12 an12 cd12 ct12 sl12) (c12 : codeIn K cd12 "marks" = true) (k12 : keepIn K (.ref f12) = true)
  (a13 : nsIn K mainGlobals "handed" = rF f13) (l13 : K.lookup f13 = oB "handed" zeU oc13 od13 kV13 dc13 pm13 an13 cd13 ct13 sl13) (c13 : codeIn K cd13 "handed" = true) (k13 : keepIn K (.ref f13) = true)
  (a14 : nsIn K mainGlobals "is_one_of_first" = rF f14) (l14 : K.lookup f14 = oB "is_one_of_first" zbj oc14 od14 kV14 dc14 pm14 an14 cd14 ct14 sl14) (c14 : codeIn K cd14 "is_one_of_first" = true) (k14 : keepIn K (.ref f14) = true)
  (a15 : nsIn K mainGlobals "children" = rF f15) (l15 : K.lookup f15 = oB "children" zdi oc15 od15 kV15 dc15 pm15 an15 cd15 ct15 sl15) (c15 : codeIn K cd15 "children" = true) (k15 : keepIn K (.ref f15) = true)
  (a16 : nsIn K mainGlobals "beneath" = rF f16) (l16 : K.lookup f16 = oB "beneath" zdY oc16 od16 kV16 dc16 pm16 an16 cd16 ct16 sl16) (c16 : codeIn K cd16 "beneath" = true) (k16 : keepIn K (.ref f16) = true)
  (a17 : nsIn K mainGlobals "is_way" = rF f17) (l17 : K.lookup f17 = oB "is_way" zeT oc17 od17 kV17 dc17 pm17 an17 cd17 ct17 sl17) (c17 : codeIn K cd17 "is_way" = true) (k17 : keepIn K (.ref f17) = true)
  (a18 : nsIn K mainGlobals "need_way" = rF f18) (l18 : K.lookup f18 = oB "need_way" zdg oc18 od18 kV18 dc18 pm18 an18 cd18 ct18 sl18) (c18 : codeIn K cd18 "need_way" = true) (k18 : keepIn K (.ref f18) = true)
  (a19 : nsIn K mainGlobals "own_entries" = rF f19) (l19 : K.lookup f19 = oB "own_entries" zbS oc19 od19 kV19 dc19 pm19 an19 cd19 ct19 sl19) (c19 : codeIn K cd19 "own_entries" = true) (k19 : keepIn K (.ref f19) = true)
  (a20 : nsIn K mainGlobals "full_rows_beneath" = rF f20) (l20 : K.lookup f20 = oB "full_rows_beneath" za6 oc20 od20 kV20 dc20 pm20 an20 cd20 ct20 sl20) (c20 : codeIn K cd20 "full_rows_beneath" = true) (k20 : keepIn K (.ref f20) = true)
  (a21 : nsIn K mainGlobals "full_rows" = rF f21) (l21 : K.lookup f21 = oB "full_rows" zcH oc21 od21 kV21 dc21 pm21 an21 cd21 ct21 sl21) (c21 : codeIn K cd21 "full_rows" = true) (k21 : keepIn K (.ref f21) = true)
  (a22 : nsIn K mainGlobals "owns_of" = rF f22) (l22 : K.lookup f22 = oB "owns_of" zdR oc22 od22 kV22 dc22 pm22 an22 cd22 ct22 sl22) (c22 : codeIn K cd22 "owns_of" = true) (k22 : keepIn K (.ref f22) = true)
  (a23 : nsIn K mainGlobals "starts_of" = rF f23) (l23 : K.lookup f23 = oB "starts_of" zcE oc23 od23 kV23 dc23 pm23 an23 cd23 ct23 sl23) (c23 : codeIn K cd23 "starts_of" = true) (k23 : keepIn K (.ref f23) = true)
  (a24 : nsIn K mainGlobals "bridges_of" = rF f24) (l24 : K.lookup f24 = oB "bridges_of" zcg oc24 od24 kV24 dc24 pm24 an24 cd24 ct24 sl24) (c24 : codeIn K cd24 "bridges_of" = true) (k24 : keepIn K (.ref f24) = true)
  (a25 : nsIn K mainGlobals "bridges" = rF f25) (l25 : K.lookup f25 = oB "bridges" zdX oc25 od25 kV25 dc25 pm25 an25 cd25 ct25 sl25) (c25 : codeIn K cd25 "bridges" = true) (k25 : keepIn K (.ref f25) = true)
  (a26 : nsIn K mainGlobals "first_place" = rF f26) (l26 : K.lookup f26 = oB "first_place" zaS oc26 od26 kV26 dc26 pm26 an26 cd26 ct26 sl26) (c26 : codeIn K cd26 "first_place" = true) (k26 : keepIn K (.ref f26) = true)
  (a27 : nsIn K mainGlobals "start_in" = rF f27) (l27 : K.lookup f27 = oB "start_in" zdf oc27 od27 kV27 dc27 pm27 an27 cd27 ct27 sl27) (c27 : codeIn K cd27 "start_in" = true) (k27 : keepIn K (.ref f27) = true)
  (a28 : nsIn K mainGlobals "next_place" = rF f28) (l28 : K.lookup f28 = oB "next_place" zcd oc28 od28 kV28 dc28 pm28 an28 cd28 ct28 sl28) (c28 : codeIn K cd28 "next_place" = true) (k28 : keepIn K (.ref f28) = true)
  (a29 : nsIn K mainGlobals "search" = rF f29) (l29 : K.lookup f29 = oB "search" zeM oc29 od29 kV29 dc29 pm29 an29 cd29 ct29 sl29) (c29 : codeIn K cd29 "search" = true) (k29 : keepIn K (.ref f29) = true)
  (a30 : nsIn K mainGlobals "search_beneath" = rF f30) (l30 : K.lookup f30 = oB "search_beneath" zbq oc30 od30 kV30 dc30 pm30 an30 cd30 ct30 sl30) (c30 : codeIn K cd30 "search_beneath" = true) (k30 : keepIn K (.ref f30) = true)
  (a31 : nsIn K mainGlobals "rows_on" = rF f31) (l31 : K.lookup f31 = oB "rows_on" zdQ oc31 od31 kV31 dc31 pm31 an31 cd31 ct31 sl31) (c31 : codeIn K cd31 "rows_on" = true) (k31 : keepIn K (.ref f31) = true)
  (a32 : nsIn K mainGlobals "places" = rF f32) (l32 : K.lookup f32 = oB "places" zeN oc32 od32 kV32 dc32 pm32 an32 cd32 ct32 sl32) (c32 : codeIn K cd32 "places" = true) (k32 : keepIn K (.ref f32) = true)
  (a33 : nsIn K mainGlobals "_law_begin" = rF f33) (l33 : K.lookup f33 = oB "_law_begin" zdU oc33 od33 kV33 dc33 pm33 an33 cd33 ct33 sl33) (c33 : codeIn K cd33 "_law_begin" = true) (k33 : keepIn K (.ref f33) = true)
  (a34 : nsIn K mainGlobals "_law_mixed" = rF f34) (l34 : K.lookup f34 = oB "_law_mixed" zdT oc34 od34 kV34 dc34 pm34 an34 cd34 ct34 sl34) (c34 : codeIn K cd34 "_law_mixed" = true) (k34 : keepIn K (.ref f34) = true)
  (a35 : nsIn K mainGlobals "_law_take" = rF f35) (l35 : K.lookup f35 = oB "_law_take" zeQ oc35 od35 kV35 dc35 pm35 an35 cd35 ct35 sl35) (c35 : codeIn K cd35 "_law_take" = true) (k35 : keepIn K (.ref f35) = true)
  (a36 : nsIn K mainGlobals "_law_key" = rF f36) (l36 : K.lookup f36 = oB "_law_key" zgi oc36 od36 kV36 dc36 pm36 an36 cd36 ct36 sl36) (c36 : codeIn K cd36 "_law_key" = true) (k36 : keepIn K (.ref f36) = true)
  (a37 : nsIn K mainGlobals "_law_tree" = rF f37) (l37 : K.lookup f37 = oB "_law_tree" zeP oc37 od37 kV37 dc37 pm37 an37 cd37 ct37 sl37) (c37 : codeIn K cd37 "_law_tree" = true) (k37 : keepIn K (.ref f37) = true)
  (a38 : nsIn K mainGlobals "_law_row" = rF f38) (l38 : K.lookup f38 = oB "_law_row" zgh oc38 od38 kV38 dc38 pm38 an38 cd38 ct38 sl38) (c38 : codeIn K cd38 "_law_row" = true) (k38 : keepIn K (.ref f38) = true)
  (a39 : nsIn K mainGlobals "_law_rows" = rF f39) (l39 : K.lookup f39 = oB "_law_rows" zeR oc39 od39 kV39 dc39 pm39 an39 cd39 ct39 sl39) (c39 : codeIn K cd39 "_law_rows" = true) (k39 : keepIn K (.ref f39) = true)
  (a40 : nsIn K mainGlobals "_law_stand" = rF f40) (l40 : K.lookup f40 = oB "_law_stand" zdS oc40 od40 kV40 dc40 pm40 an40 cd40 ct40 sl40) (c40 : codeIn K cd40 "_law_stand" = true) (k40 : keepIn K (.ref f40) = true)
  (a41 : nsIn K mainGlobals "_law_asked" = rF f41) (l41 : K.lookup f41 = oB "_law_asked" zdV oc41 od41 kV41 dc41 pm41 an41 cd41 ct41 sl41) (c41 : codeIn K cd41 "_law_asked" = true) (k41 : keepIn K (.ref f41) = true)
  (a42 : nsIn K mainGlobals "_law_figures" = rF f42) (l42 : K.lookup f42 = oB "_law_figures" zcF oc42 od42 kV42 dc42 pm42 an42 cd42 ct42 sl42) (c42 : codeIn K cd42 "_law_figures" = true) (k42 : keepIn K (.ref f42) = true)
  (a43 : nsIn K mainGlobals "_law_down" = rF f43) (l43 : K.lookup f43 = oB "_law_down" zeS oc43 od43 kV43 dc43 pm43 an43 cd43 ct43 sl43) (c43 : codeIn K cd43 "_law_down" = true) (k43 : keepIn K (.ref f43) = true)
  (a44 : nsIn K mainGlobals "_law_ways_right" = rF f44) (l44 : K.lookup f44 = oB "_law_ways_right" zaK oc44 od44 kV44 dc44 pm44 an44 cd44 ct44 sl44) (c44 : codeIn K cd44 "_law_ways_right" = true) (k44 : keepIn K (.ref f44) = true)
  (a45 : nsIn K mainGlobals "law" = rF f45) (l45 : K.lookup f45 = oB "law" zfd oc45 od45 kV45 dc45 pm45 an45 cd45 ct45 sl45) (c45 : codeIn K cd45 "law" = true) (k45 : keepIn K (.ref f45) = true)
  (t4 : PySem.W.tabIn K "place" = some (mc4,mp4)) (h4 : PySem.W.codeHdIn K mc4 mp4 = true)
  (t26 : PySem.W.tabIn K "first_place" = some (mc26,mp26)) (h26 : PySem.W.codeHdIn K mc26 mp26 = true)
  (t44 : PySem.W.tabIn K "_law_ways_right" = some (mc44,mp44)) (h44 : PySem.W.codeHdIn K mc44 mp44 = true)
  (t45 : PySem.W.tabIn K "law" = some (mc45,mp45)) (h45 : PySem.W.codeHdIn K mc45 mp45 = true)
  (z_abs : nsIn K mainGlobals "abs" = some none)
  (z_bool : nsIn K mainGlobals "bool" = some none)
  (z_dict : nsIn K mainGlobals "dict" = some none)
  (z_enumerate : nsIn K mainGlobals "enumerate" = some none)
  (z_int : nsIn K mainGlobals "int" = some none)
  (z_isinstance : nsIn K mainGlobals "isinstance" = some none)
  (z_len : nsIn K mainGlobals "len" = some none)
  (z_list : nsIn K mainGlobals "list" = some none)
  (z_max : nsIn K mainGlobals "max" = some none)
  (z_min : nsIn K mainGlobals "min" = some none)
  (z_range : nsIn K mainGlobals "range" = some none)
  (z_reversed : nsIn K mainGlobals "reversed" = some none)
  (z_sorted : nsIn K mainGlobals "sorted" = some none)
  (z_tuple : nsIn K mainGlobals "tuple" = some none)
  (z_zip : nsIn K mainGlobals "zip" = some none)
  (y_KNOT_NUMBERS : nsIn K mainGlobals "KNOT_NUMBERS" = some (some (.int 64 t_KNOT_NUMBERS)))
  (y_TURNS : nsIn K mainGlobals "TURNS" = some (some (.int 5 t_TURNS)))
  (y_MOST_BEHIND_START : nsIn K mainGlobals "MOST_BEHIND_START" = some (some (.int 2 t_MOST_BEHIND_START))) :
  ∃ fd : FuncData,(∀ (s : Shared) (v : Value),BindsTo s fd ⟨[v],[]⟩ [("_law_script",v)])∧∀ base : Heap,K.In base→base.Ns mainGlobals mg→L2.BMAt mg base→FnOk l.prog w K mg base CX0 lawRoom fa fd ["_law_script"] (zgZ K mp4 mp26 mp44 mp45):=by
 have e:=hfa.symm.trans (PySem.W.mg_of X G a45)
 cases e
 have D_is_whole:=dM X G zb1 a1 l1 c1 k1 (fun _ _ _ _ _ _ u h=>match u,h with | [_],_=>rfl)
 have D_code:=dM X G zfg a2 l2 c2 k2 (fun _ _ _ _ _ _ u h=>match u,h with | [_],_=>rfl)
 have D_how_many_below:=dM X G zaM a3 l3 c3 k3 (fun _ _ _ _ _ _ u h=>match u,h with | [_,_],_=>rfl)
 have E_place:=L2.zeH a4 l4 t4
 have E2_place : cd4 = .ref mc4:=E_place
 subst E2_place
 have D_place : DFT K mg "place" zcU zdk mc4 mp4:=⟨⟨_,_,_,_,_,_,_,_,_,l4,c4,k4,PySem.W.mg_of X G a4,(zfZ (st:=zcU) l4 c4 k4).binds (ps:=zdk) (fun _ _ _ _ _ _ us hl=>match us,hl with | [_,_],_=>rfl)⟩,h4⟩
 have D_joined_up:=dM X G zbK a5 l5 c5 k5 (fun _ _ _ _ _ _ u h=>match u,h with | [_],_=>rfl)
 have D_lowest_unlike:=dM X G za8 a6 l6 c6 k6 (fun _ _ _ _ _ _ u h=>match u,h with | [_,_],_=>rfl)
 have D_turned:=dM X G zcV a7 l7 c7 k7 (fun _ _ _ _ _ _ u h=>match u,h with | [_],_=>rfl)
 have D_labels:=dM X G zcY a8 l8 c8 k8 (fun _ _ _ _ _ _ u h=>match u,h with | [_],_=>rfl)
 have D_neighbours:=dM X G zbl a9 l9 c9 k9 (fun _ _ _ _ _ _ u h=>match u,h with | [_,_],_=>rfl)
 have D_least_free:=dM X G zbz a10 l10 c10 k10 (fun _ _ _ _ _ _ u h=>match u,h with | [_],_=>rfl)
 have D_colours:=dM X G zcv a11 l11 c11 k11 (fun _ _ _ _ _ _ u h=>match u,h with | [_],_=>rfl)
 have D_marks:=dM X G zd0 a12 l12 c12 k12 (fun _ _ _ _ _ _ u h=>match u,h with | [_],_=>rfl)
 have D_handed:=dM X G zc3 a13 l13 c13 k13 (fun _ _ _ _ _ _ u h=>match u,h with | [_],_=>rfl)
 have D_is_one_of_first:=dM X G zaT a14 l14 c14 k14 (fun _ _ _ _ _ _ u h=>match u,h with | [_,_],_=>rfl)
 have D_children:=dM X G zbH a15 l15 c15 k15 (fun _ _ _ _ _ _ u h=>match u,h with | [_,_],_=>rfl)
 have D_beneath:=dM X G zcx a16 l16 c16 k16 (fun _ _ _ _ _ _ u h=>match u,h with | [_,_],_=>rfl)
 have D_is_way:=dM X G zc2 a17 l17 c17 k17 (fun _ _ _ _ _ _ u h=>match u,h with | [_,_],_=>rfl)
 have D_need_way:=dM X G zb0 a18 l18 c18 k18 (fun _ _ _ _ _ _ u h=>match u,h with | [_,_],_=>rfl)
 have D_own_entries:=dM X G zbo a19 l19 c19 k19 (fun _ _ _ _ _ _ u h=>match u,h with | [_,_],_=>rfl)
 have D_full_rows_beneath:=dM X G zaI a20 l20 c20 k20 (fun _ _ _ _ _ _ u h=>match u,h with | [_,_],_=>rfl)
 have D_full_rows:=dM X G zbx a21 l21 c21 k21 (fun _ _ _ _ _ _ u h=>match u,h with | [_],_=>rfl)
 have D_owns_of:=dM X G zcr a22 l22 c22 k22 (fun _ _ _ _ _ _ u h=>match u,h with | [_,_],_=>rfl)
 have D_starts_of:=dM X G zbJ a23 l23 c23 k23 (fun _ _ _ _ _ _ u h=>match u,h with | [_,_],_=>rfl)
 have D_bridges_of:=dM X G zbB a24 l24 c24 k24 (fun _ _ _ _ _ _ u h=>match u,h with | [_,_],_=>rfl)
 have D_bridges:=dM X G zcw a25 l25 c25 k25 (fun _ _ _ _ _ _ u h=>match u,h with | [_],_=>rfl)
 have E_first_place:=L2.zeH a26 l26 t26
 have E2_first_place : cd26 = .ref mc26:=E_first_place
 subst E2_first_place
 have D_first_place : DFT K mg "first_place" zaS zaW mc26 mp26:=⟨⟨_,_,_,_,_,_,_,_,_,l26,c26,k26,PySem.W.mg_of X G a26,(zfZ (st:=zaS) l26 c26 k26).binds (ps:=zaW) (fun _ _ _ _ _ _ us hl=>match us,hl with | [_,_,_],_=>rfl)⟩,h26⟩
 have D_start_in:=dM X G zbZ a27 l27 c27 k27 (fun _ _ _ _ _ _ u h=>match u,h with | [_,_,_,_],_=>rfl)
 have D_next_place:=dM X G zbk a28 l28 c28 k28 (fun _ _ _ _ _ _ u h=>match u,h with | [_,_,_,_],_=>rfl)
 have D_search:=dM X G zcW a29 l29 c29 k29 (fun _ _ _ _ _ _ u h=>match u,h with | [_,_,_],_=>rfl)
 have D_search_beneath:=dM X G za0 a30 l30 c30 k30 (fun _ _ _ _ _ _ u h=>match u,h with | [_,_,_],_=>rfl)
 have D_rows_on:=dM X G zcq a31 l31 c31 k31 (fun _ _ _ _ _ _ u h=>match u,h with | [_,_],_=>rfl)
 have D_places:=dM X G zcX a32 l32 c32 k32 (fun _ _ _ _ _ _ u h=>match u,h with | [_,_,_],_=>rfl)
 have D_l_begin:=dM X G zcu a33 l33 c33 k33 (fun _ _ _ _ _ _ u h=>match u,h with | [_],_=>rfl)
 have D_l_mixed:=dM X G zct a34 l34 c34 k34 (fun _ _ _ _ _ _ u h=>match u,h with | [_,_],_=>rfl)
 have D_l_take:=dM X G zbA a35 l35 c35 k35 (fun _ _ _ _ _ _ u h=>match u,h with | [_,_],_=>rfl)
 have D_l_key:=dM X G zdl a36 l36 c36 k36 (fun _ _ _ _ _ _ u h=>match u,h with | [_],_=>rfl)
 have D_l_tree:=dM X G zcZ a37 l37 c37 k37 (fun _ _ _ _ _ _ u h=>match u,h with | [_,_],_=>rfl)
 have D_l_row:=dM X G zd1 a38 l38 c38 k38 (fun _ _ _ _ _ _ u h=>match u,h with | [_,_],_=>rfl)
 have D_l_rows:=dM X G zc0 a39 l39 c39 k39 (fun _ _ _ _ _ _ u h=>match u,h with | [_,_,_],_=>rfl)
 have D_l_stand:=dM X G zcs a40 l40 c40 k40 (fun _ _ _ _ _ _ u h=>match u,h with | [_,_,_],_=>rfl)
 have D_l_asked:=dM X G zbV a41 l41 c41 k41 (fun _ _ _ _ _ _ u h=>match u,h with | [_,_,_,_,_],_=>rfl)
 have D_l_figures:=dM X G zbw a42 l42 c42 k42 (fun _ _ _ _ _ _ u h=>match u,h with | [_],_=>rfl)
 have D_l_down:=dM X G zc1 a43 l43 c43 k43 (fun _ _ _ _ _ _ u h=>match u,h with | [_,_],_=>rfl)
 have E_l_ways_right:=L2.zeH a44 l44 t44
 have E2_l_ways_right : cd44 = .ref mc44:=E_l_ways_right
 subst E2_l_ways_right
 have D_l_ways_right : DFT K mg "_law_ways_right" zaK za1 mc44 mp44:=⟨⟨_,_,_,_,_,_,_,_,_,l44,c44,k44,PySem.W.mg_of X G a44,(zfZ (st:=zaK) l44 c44 k44).binds (ps:=za1) (fun _ _ _ _ _ _ us hl=>match us,hl with | [_,_,_,_,_],_=>rfl)⟩,h44⟩
 have E_law:=L2.zeH a45 l45 t45
 have E2_law : cd45 = .ref mc45:=E_law
 subst E2_law
 have D_law : DFT K mg "law" zfd zfU mc45 mp45:=⟨⟨_,_,_,_,_,_,_,_,_,l45,c45,k45,PySem.W.mg_of X G a45,(zfZ (st:=zfd) l45 c45 k45).binds (ps:=zfU) (fun _ _ _ _ _ _ us hl=>match us,hl with | [_],_=>rfl)⟩,h45⟩
 have T : Txt K mg:=⟨PySem.W.mg_none_of X G z_abs,PySem.W.mg_none_of X G z_bool,PySem.W.mg_none_of X G z_dict,PySem.W.mg_none_of X G z_enumerate,PySem.W.mg_none_of X G z_int,PySem.W.mg_none_of X G z_isinstance,PySem.W.mg_none_of X G z_len,PySem.W.mg_none_of X G z_list,PySem.W.mg_none_of X G z_max,PySem.W.mg_none_of X G z_min,PySem.W.mg_none_of X G z_range,PySem.W.mg_none_of X G z_reversed,PySem.W.mg_none_of X G z_sorted,PySem.W.mg_none_of X G z_tuple,PySem.W.mg_none_of X G z_zip,⟨_,PySem.W.mg_of X G y_KNOT_NUMBERS⟩,⟨_,PySem.W.mg_of X G y_TURNS⟩,⟨_,PySem.W.mg_of X G y_MOST_BEHIND_START⟩⟩
 refine ⟨PySem.W.fnOf "law" "law" (zcN zfd) (zbP zfd) (zai zfd) .none kV45 dc45 pm45 an45 (.ref mc45) ct45,fun s v=>.of_eq rfl,fun base _ _ hBM=>?_⟩
 exact (all_ok (P:=l.prog) (w:=w) (base:=base) T hBM D_is_whole D_code D_how_many_below D_place D_joined_up D_lowest_unlike D_turned D_labels D_neighbours D_least_free D_colours D_marks D_handed D_is_one_of_first D_children D_beneath D_is_way D_need_way D_own_entries D_full_rows_beneath D_full_rows D_owns_of D_starts_of D_bridges_of D_bridges D_first_place D_start_in D_next_place D_search D_search_beneath D_rows_on D_places D_l_begin D_l_mixed D_l_take D_l_key D_l_tree D_l_row D_l_rows D_l_stand D_l_asked D_l_figures D_l_down D_l_ways_right D_law).at (PySem.W.mg_of X G a45) l45
theorem walk {l : PySem.W.OpenLaw} {q : Program} {loose : List Str} {XP : (Str→Option Value)→Heap→Prop} {YP : World→Heap→Prop} {d : DefRec} {K : Params→PySem.W.Frag} {mc4 mp4 mc26 mp26 mc44 mp44 mc45 mp45 : Addr} (hn : l.most = some 63) (hdf : d.params.defaults = [])
  (hY : ∀ (w : World) (h : Heap),YP w h→(K w.params).In h) (hYT4 : ∀ (w : World) (h : Heap),YP w h→h.get? mp4 = some (PySem.W.tabObj #[])) (hC4 : ∀ (w : World),PySem.W.codeHdIn (K w.params) mc4 mp4 = true) (hD4 : ∀ (w : World),(K w.params).lookup mp4 = none) (hYT26 : ∀ (w : World) (h : Heap),YP w h→h.get? mp26 = some (PySem.W.tabObj #[])) (hC26 : ∀ (w : World),PySem.W.codeHdIn (K w.params) mc26 mp26 = true) (hD26 : ∀ (w : World),(K w.params).lookup mp26 = none) (hYT44 : ∀ (w : World) (h : Heap),YP w h→h.get? mp44 = some (PySem.W.tabObj #[])) (hC44 : ∀ (w : World),PySem.W.codeHdIn (K w.params) mc44 mp44 = true) (hD44 : ∀ (w : World),(K w.params).lookup mp44 = none) (hYT45 : ∀ (w : World) (h : Heap),YP w h→h.get? mp45 = some (PySem.W.tabObj #[])) (hC45 : ∀ (w : World),PySem.W.codeHdIn (K w.params) mc45 mp45 = true) (hD45 : ∀ (w : World),(K w.params).lookup mp45 = none) (hNE : [mp4,mp26,mp44,mp45].Nodup)
  (F : ∀ (w : World) (mg : Str→Option Value) (fa : Addr) (h : Heap),(K w.params).In h→h.Ns mainGlobals mg→mg d.name = some (.ref fa)→
   ∃ fd : FuncData,(∀ (s : Shared) (u : Value),BindsTo s fd ⟨[u],[]⟩ [("_law_script",u)])∧∀ base : Heap,(K w.params).In base→base.Ns mainGlobals mg→L2.BMAt mg base→FnOk l.prog w (K w.params) mg base CX0 lawRoom fa fd ["_law_script"] (zgZ (K w.params) mp4 mp26 mp44 mp45)) :
  PySem.W.WalkO q loose XP YP l.row.toRowW d [] (fun f vs=>PySem.call f vs):=
 L2.zl4 (n:=63) (k:=lawRoom) (x := "_law_script") (tabs:=[(mc4,mp4),(mc26,mp26),(mc44,mp44),(mc45,mp45)]) (sp:=fun w=>zgZ (K w.params) mp4 mp26 mp44 mp45) hn (by decide) hdf ⟨rfl,by decide,by decide,rfl⟩ hY (fun w h Y q hq=>(List.mem_cons.mp hq).elim (fun z=>z ▸ hYT4 w h Y) (fun hq=>(List.mem_cons.mp hq).elim (fun z=>z ▸ hYT26 w h Y) (fun hq=>(List.mem_cons.mp hq).elim (fun z=>z ▸ hYT44 w h Y) (fun hq=>(List.mem_cons.mp hq).elim (fun z=>z ▸ hYT45 w h Y) (fun hq=>absurd hq List.not_mem_nil))))) (fun w q hq=>(List.mem_cons.mp hq).elim (fun z=>z ▸ ⟨hC4 w,hD4 w⟩) (fun hq=>(List.mem_cons.mp hq).elim (fun z=>z ▸ ⟨hC26 w,hD26 w⟩) (fun hq=>(List.mem_cons.mp hq).elim (fun z=>z ▸ ⟨hC44 w,hD44 w⟩) (fun hq=>(List.mem_cons.mp hq).elim (fun z=>z ▸ ⟨hC45 w,hD45 w⟩) (fun hq=>absurd hq List.not_mem_nil))))) F (fun _ _ a ns hl hT hS=>⟨a,ns,rfl,hS,hl,hNE,hT _ List.mem_cons_self,hT _ (List.mem_cons_of_mem _ List.mem_cons_self),hT _ (List.mem_cons_of_mem _ (List.mem_cons_of_mem _ List.mem_cons_self)),hT _ (List.mem_cons_of_mem _ (List.mem_cons_of_mem _ (List.mem_cons_of_mem _ List.mem_cons_self))),fun _=>rfl⟩)
end My
open PySem PySem.W PyProof.Rows
def PySem.W.Fast.tw14742000439503144620 : Nat := 0
def PySem.W.Fast.tw412402950630673248 : Nat := 0
def PySem.W.Fast.tw17942921000761080997 : Nat := 0
def PySem.W.Fast.tw14610542859838717855 : Nat := 0
def PySem.W.Fast.tw7119443345910437107 : Nat := 0
def PySem.W.Fast.tw602452679727543127 : Nat := 0
def PySem.W.Fast.tw16968995487734805043 : Nat := 0
def PySem.W.Fast.tw15002235714274417123 : Nat := 0
def PySem.W.Fast.tw4531193827167941147 : Nat := 0
def PySem.W.Fast.tw2622579654282582446 : Nat := 0
def PySem.W.Fast.tw1622168918419429731 : Nat := 0
def PySem.W.Fast.tw10311200351585997190 : Nat := 0
set_option maxRecDepth 100000 in
set_option maxHeartbeats 0 in
theorem PySem.Challenge.cw_bridgefind_k73_whole_one_search_down_all_holds : PySem.Challenge.rw_bridgefind_k73_whole_one_search_down_all.Holds := by
 w_on; o_law; k_head; (case hw=>w_witness2)
 k_fill
 refine My.walk (l:=PySem.Challenge.rw_bridgefind_k73_whole_one_search_down_all) (mc4:=66) (mp4:=62) (mc26:=202) (mp26:=198) (mc44:=322) (mp44:=320) (mc45:=327) (mp45:=325) rfl rfl (fun w h Y=>PySem.W.km_in_of Y) (fun w h Y=>PySem.W.km_tabs_of Y 62 (by decide)) (fun w=>by kernel_rfl) (fun w=>by kernel_rfl) (fun w h Y=>PySem.W.km_tabs_of Y 198 (by decide)) (fun w=>by kernel_rfl) (fun w=>by kernel_rfl) (fun w h Y=>PySem.W.km_tabs_of Y 320 (by decide)) (fun w=>by kernel_rfl) (fun w=>by kernel_rfl) (fun w h Y=>PySem.W.km_tabs_of Y 325 (by decide)) (fun w=>by kernel_rfl) (fun w=>by kernel_rfl) (by decide) ?F
 case F=>
  intro w mg fa h KX G hmg
  refine' My.all_mk (mc4:=66) (mp4:=62) (mc26:=202) (mp26:=198) (mc44:=322) (mp44:=320) (mc45:=327) (mp45:=325) KX G hmg ?_ ?_ ?_ ?_ ?_ ?_ ?_ ?_ ?_ ?_ ?_ ?_ ?_ ?_ ?_ ?_ ?_ ?_ ?_ ?_ ?_ ?_ ?_ ?_ ?_ ?_ ?_ ?_ ?_ ?_ ?_ ?_ ?_ ?_ ?_ ?_ ?_ ?_ ?_ ?_ ?_ ?_ ?_ ?_ ?_ ?_ ?_ ?_ ?_ ?_ ?_ ?_ ?_ ?_ ?_ ?_ ?_ ?_ ?_ ?_ ?_ ?_ ?_ ?_ ?_ ?_ ?_ ?_ ?_ ?_ ?_ ?_ ?_ ?_ ?_ ?_ ?_ ?_ ?_ ?_ ?_ ?_ ?_ ?_ ?_ ?_ ?_ ?_ ?_ ?_ ?_ ?_ ?_ ?_ ?_ ?_ ?_ ?_ ?_ ?_ ?_ ?_ ?_ ?_ ?_ ?_ ?_ ?_ ?_ ?_ ?_ ?_ ?_ ?_ ?_ ?_ ?_ ?_ ?_ ?_ ?_ ?_ ?_ ?_ ?_ ?_ ?_ ?_ ?_ ?_ ?_ ?_ ?_ ?_ ?_ ?_ ?_ ?_ ?_ ?_ ?_ ?_ ?_ ?_ ?_ ?_ ?_ ?_ ?_ ?_ ?_ ?_ ?_ ?_ ?_ ?_ ?_ ?_ ?_ ?_ ?_ ?_ ?_ ?_ ?_ ?_ ?_ ?_ ?_ ?_ ?_ ?_ ?_ ?_ ?_ ?_ ?_ ?_ ?_ ?_ ?_ ?_ ?_ ?_ ?_ ?_ ?_ ?_ ?_ ?_ ?_ ?_ ?_ ?_ ?_ ?_ ?_ ?_ ?_ ?_ ?_ ?_ ?_ ?_ ?_ ?_
  any_goals k_is
  all_goals kernel_rfl

