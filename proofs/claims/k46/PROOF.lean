import PyProof.Rows.All
import Wide.All
import OpenK.AllK
import Wide.FinOn
import PyProof.EqAt
import PyProof.EqKinds
import PyProof.TupleCall
import PyProof.NeKinds
import Lean
import PyProof.ExcBaseAll.ValueError
import PyProof.NsDelKeeps
import PyProof.ExcArgsOwn
import KE.KIsAll
import PyProof.FString
import PyProof.ReprRoads
import PyProof.CallStr
import PyProof.Rows.SeqMore2
import PySem.Challenge.RW_bridgefind_k46_shelves_refuse
set_option Elab.async false
set_option linter.all false
set_option maxRecDepth 100000
local macro_rules | `(tactic| omega)=>`(tactic| lia)
open PySem.W (Frag nsIn codeIn keepIn tabIn codeHdIn mg_of mg_none_of fnOf OpenLaw kitOne mroIn findIn)
abbrev yaa:=@Nat.le_refl
abbrev yab:=@List.length_map
abbrev yac:=@List.getElem?_eq_getElem
abbrev yad:=@Option.some.inj
abbrev yae:=@PySem.Heap.lt_size
abbrev yaf:=@decide_eq_false
abbrev yag:=@List.getD_eq_getElem?_getD
abbrev yah:=@List.mem_cons
abbrev yai:=@PySem.Heap.get?_push_of_some
abbrev yaj:=@decide_eq_true
abbrev yak:=@List.mem_append
abbrev yal:=@List.mem_singleton
abbrev yam:=@Nat.ne_of_lt
abbrev yan:=@List.map_cons
abbrev yao:=@List.length_take
abbrev yap:=@List.getElem?_eq_some_iff
abbrev yaq:=@List.getElem?_map
abbrev yar:=@Array.length_toList
abbrev yas:=@List.length_append
abbrev yat:=@List.size_toArray
abbrev yau:=@List.mem_cons_of_mem
abbrev yav:=@List.take_of_length_le
abbrev yaw:=@List.map_append
abbrev yax:=@List.mem_map
abbrev yay:=@List.append_nil
abbrev yaz:=@Nat.lt_of_lt_of_le
abbrev yaA:=@List.mem_cons_self
abbrev yaB:=@Nat.le_trans
abbrev yaC:=@Bool.false_ne_true
abbrev yaD:=@PySem.Heap.get?_push_size
abbrev yaE:=@List.mem_append_right
abbrev yaF:=@List.pairwise_append
abbrev yaG:=@List.sum_cons
abbrev yaH:=@Nat.zero_le
abbrev yaI:=@List.length_cons
abbrev yaJ:=@List.mem_of_getElem?
abbrev yaK:=@of_decide_eq_true
abbrev yaL:=@Bool.false_eq_true
abbrev yaM:=@List.append_assoc
abbrev yaN:=@List.length_drop
abbrev yaO:=@List.take_append_drop
abbrev yaP:=@Array.toList_append
abbrev yaQ:=@List.not_mem_nil
abbrev yaR:=@List.all_eq_true
abbrev yaS:=@List.nodup_cons
abbrev yaT:=@List.getElem_mem
abbrev yaU:=@List.take_succ_eq_append_getElem
abbrev yaV:=@List.mem_append_left
abbrev yaW:=@Nat.lt_of_le_of_lt
abbrev yaX:=@Array.getElem?_toList
abbrev yaY:=@List.getElem?_eq_none
abbrev yaZ:=@Array.getElem?_eq_getElem
abbrev ya0:=@List.drop_eq_nil_of_le
abbrev ya1:=@List.getElem_of_mem
abbrev ya2:=@List.lookup_cons
abbrev ya3:=@Nat.le_of_lt
abbrev ya4:=@List.length_range
abbrev ya5:=@List.mem_range
abbrev ya6:=@Int.toNat_natCast
abbrev ya7:=@List.ext_getElem?
abbrev ya8:=@List.nodup_append
abbrev ya9:=@List.length_filter_le
abbrev yba:=@List.mem_filter
abbrev ybb:=@Nat.le_succ
abbrev ybc:=@List.any_cons
abbrev ybd:=@List.nodup_nil
abbrev ybe:=@List.pairwise_iff_getElem
abbrev ybf:=@Nat.add_le_add_right
abbrev ybg:=@List.filter_append
abbrev ybh:=@Nat.lt_irrefl
abbrev ybi:=@Nat.ne_of_gt
abbrev ybj:=@List.getElem?_append_right
abbrev ybk:=@List.length_singleton
abbrev ybl:=@List.map_map
abbrev ybm:=@Int.natCast_nonneg
abbrev ybn:=@List.getElem?_append_left
abbrev ybo:=@Bool.and_eq_true
abbrev ybp:=@PySem.Heap.get?_update_other
abbrev ybq:=@List.length_nil
abbrev ybr:=@Nat.add_zero
abbrev ybs:=@Nat.min_eq_left
abbrev ybt:=@Nat.lt_or_ge
abbrev ybu:=@List.pairwise_map
abbrev ybv:=@List.getElem?_set
abbrev ybw:=@List.filter_cons_of_pos
abbrev ybx:=@List.filterMap_cons
abbrev yby:=@List.length_replicate
abbrev ybz:=@List.find?_cons
abbrev ybA:=@Option.map_eq_some_iff
abbrev ybB:=@List.drop_drop
abbrev ybC:=@List.mem_of_mem_take
abbrev ybD:=@List.mem_of_mem_drop
abbrev ybE:=@Bool.not_eq_true'
abbrev ybF:=@Nat.testBit_succ
abbrev ybG:=@Nat.not_lt_zero
abbrev ybH:=@List.filter_eq_nil_iff
abbrev ybI:=@Int.zero_add
abbrev ybJ:=@List.flatten_cons
abbrev ybK:=@List.mem_or_eq_of_mem_set
abbrev ybL:=@List.of_mem_zip
abbrev ybM:=@List.all_cons
abbrev ybN:=@List.map_nil
abbrev ybO:=@List.perm_append_comm
abbrev ybP:=@Array.toList_push
abbrev ybQ:=@Array.toList_reverse
abbrev ybR:=@List.getElem?_take
abbrev ybS:=@Bool.not_true
abbrev ybT:=@Bool.eq_false_iff
abbrev ybU:=@List.mem_reverse
abbrev ybV:=@Nat.pow_succ
abbrev ybW:=@List.filter_cons_of_neg
abbrev ybX:=@List.map_set
abbrev ybY:=@List.length_reverse
abbrev ybZ:=@Bool.eq_iff_iff
abbrev yb0:=@PySem.Heap.size_push
abbrev yb1:=@Nat.lt_succ_self
abbrev yb2:=@Option.isSome_iff_exists
abbrev yb3:=@List.length_set
abbrev yb4:=@Bool.and_false
abbrev yb5:=@List.drop_sublist
abbrev yb6:=@List.drop_eq_getElem_cons
abbrev yb7:=@List.pairwise_cons
abbrev yb8:=@Array.toList_extract
abbrev yb9:=@List.extract_eq_take_drop
abbrev yca:=@List.drop_take
abbrev ycb:=@List.reverse_append
abbrev ycc:=@List.drop_zero
abbrev ycd:=@List.take_zero
abbrev yce:=@List.getElem?_drop
abbrev ycf:=@List.getElem?_cons_succ
abbrev ycg:=@Int.emod_nonneg
abbrev ych:=@Int.emod_lt_of_pos
abbrev yci:=@Bool.and_true
abbrev ycj:=@List.getElem?_range
abbrev yck:=@List.reverse_cons
abbrev ycl:=@List.length_zip
abbrev ycm:=@List.range_succ
abbrev ycn:=@List.mem_flatten
abbrev yco:=@List.map_congr_left
abbrev ycp:=@Nat.min_eq_right
abbrev ycq:=@List.flatten_append
abbrev ycr:=@List.map_take
abbrev ycs:=@List.getElem?_set_ne
abbrev yct:=@Nat.add_le_add_left
abbrev ycu:=@Array.perm_iff_toList_perm
abbrev ycv:=@Bool.not_eq_false'
abbrev ycw:=@List.reverse_reverse
abbrev ycx:=@List.zip_cons_cons
abbrev ycy:=@List.getElem?_reverse
abbrev ycz:=@List.eq_nil_of_length_eq_zero
abbrev ycA:=@List.perm_ext_iff_of_nodup
abbrev ycB:=@List.pairwise_singleton
abbrev ycC:=@List.length_eq_zero_iff
namespace L2
open PySem PySem.Spec PyProof.Rows
abbrev Key:=Sum Int Str
def zi8:Key→Value→Bool
  | .inl k,v=>Value.isInt k v
  | .inr x,v=>Value.isStrOf x v
def keyH (w:World):Key→Int
  | .inl k=>hashInt k
  | .inr x=>hashStr w x
theorem za2:∀{k:Key} {v:Value},zi8 k v=true→(∃ i t,k=Sum.inl i∧v=Value.int i t)∨(∃ x t,k=Sum.inr x∧v=Value.str x t)
  | .inl i,v,h=>by
    obtain ⟨t,e⟩:=Value.isInt_shape (k:=i) (v:=v) h;exact .inl ⟨i,t,rfl,e⟩
  | .inr x,v,h=>by
    obtain ⟨t,e⟩:=Value.isStrOf_shape (x:=x) (v:=v) h;exact .inr ⟨x,t,rfl,e⟩
theorem zmE (i:Int)(t:Tok):zi8 (.inl i) (.int i t)=true:=by simp[zi8,Value.isInt]
theorem zmD (x:Str)(t:Tok):zi8 (.inr x) (.str x t)=true:=by simp[zi8,Value.isStrOf]
theorem zr5 (a b:Int):decide ((Sum.inl a:Key)=Sum.inl b)=(a == b):=by
  by_cases e:a=b
  · subst e;simp
  · have h:¬ (Sum.inl a:Key)=Sum.inl b:=fun q=>e (Sum.inl.inj q)
    rw[yaf h];exact (beq_eq_false_iff_ne.mpr e).symm
theorem zr2 (a b:Str):decide ((Sum.inr a:Key)=Sum.inr b)=decide (a=b):=by
  by_cases e:a=b
  · subst e;simp
  · have h:¬ (Sum.inr a:Key)=Sum.inr b:=fun q=>e (Sum.inr.inj q)
    rw[yaf h,yaf e]
theorem zr4 (a:Int)(b:Str):decide ((Sum.inl a:Key)=Sum.inr b)=false:=yaf (fun q=>nomatch q)
theorem zr3 (a:Str)(b:Int):decide ((Sum.inr a:Key)=Sum.inl b)=false:=yaf (fun q=>nomatch q)
def zbc (prog:Program)(w:World):PySem.KeyKind prog w Key where
  is:=zi8
  hash:=keyH w
  inj:=fun v a b ha hb=>by
    rcases za2 ha with ⟨i,t,rfl,rfl⟩ | ⟨x,t,rfl,rfl⟩
    · rcases za2 hb with ⟨j,u,rfl,e⟩ | ⟨y,u,rfl,e⟩
      · injection e with e1 _;rw[e1]
      · exact nomatch e
    · rcases za2 hb with ⟨j,u,rfl,e⟩ | ⟨y,u,rfl,e⟩
      · exact nomatch e
      · injection e with e1 _;rw[e1]
  byValue:=fun k v h=>by
    rcases za2 h with ⟨i,t,rfl,rfl⟩ | ⟨x,t,rfl,rfl⟩ <;> rfl
  pyHash:=fun hv h=>by
    rcases za2 hv with ⟨i,t,rfl,rfl⟩ | ⟨x,t,rfl,rfl⟩
    · exact wpAny_pyHash_int h
    · exact wpAny_pyHash_str h
  eqBool:=fun hu hv h=>by
    rcases za2 hu with ⟨i,t,rfl,rfl⟩ | ⟨x,t,rfl,rfl⟩
    · rcases za2 hv with ⟨j,u,rfl,rfl⟩ | ⟨y,u,rfl,rfl⟩
      · rw[zr5]at h;exact wpAny_eqBool_int h
      · rw[zr4]at h;exact SeqAt.EqAt.int_str i t y u _ _ _ _ h
    · rcases za2 hv with ⟨j,u,rfl,rfl⟩ | ⟨y,u,rfl,rfl⟩
      · rw[zr3]at h;exact SeqAt.EqAt.str_int x t j u _ _ _ _ h
      · rw[zr2]at h;exact wpAny_eqBool_str h
  «strs»:=fun k x t v h=>by
    rcases za2 h with ⟨i,u,rfl,e⟩ | ⟨y,u,rfl,e⟩
    · exact nomatch e
    · injection e with e1 _
      subst e1;cases v <;> rfl
theorem zkQ (prog:Program)(w:World)(k:Key)(v:Value):(zbc prog w).is k v=zi8 k v:=rfl
theorem zi1 (prog:Program)(w:World)(i:Int)(t:Tok):(zbc prog w).is (.inl i) (.int i t)=true:=zmE i t
theorem zi0 (prog:Program)(w:World)(x:Str)(t:Tok):(zbc prog w).is (.inr x) (.str x t)=true:=zmD x t
end L2
namespace L2
open PySem PySem.Spec PyProof.Rows
inductive V where
  | non | bl (b:Bool) | int (i:Int) | str (x:Str) | byt (b:Array UInt8) | flt (b:UInt64) | ref (a:Addr) | ty (n:String)
  deriving DecidableEq
def RelV:V→Value→Prop
  | .non,u=>u=Value.none
  | .bl b,u=>u=Value.bool b
  | .int i,u=>∃ t,u=Value.int i t
  | .str x,u=>∃ t,u=Value.str x t
  | .byt b,u=>∃ t,u=Value.bytes b t
  | .flt b,u=>∃ t,u=Value.float b t
  | .ref a,u=>u=Value.ref a
  | .ty n,u=>u=Value.type n
abbrev Vals:List V→List Value→Prop:=Paired RelV
theorem Vals.length {xs:List V}{us:List Value}(r:Vals xs us):xs.length=us.length:=Paired.length r
theorem Vals.get:∀{xs:List V} {us:List Value} {i:Nat} {x:V},Vals xs us→xs[i]?=some x→∃ u,us[i]?=some u∧RelV x u
  | _,_,_,_,.nil,e=>by simp at e
  | _,_,0,_,.cons r _,e=>by simp at e;subst e;exact ⟨_,rfl,r⟩
  | _,_,i+1,x,.cons _ t,e=>by
    obtain ⟨u,h1,h2⟩:=Vals.get (i:=i) (x:=x) t (by simpa using e);exact ⟨u,by simpa using h1,h2⟩
theorem Vals.set {x:V}{u:Value}(r:RelV x u):∀{xs:List V} {us:List Value} (i:Nat),Vals xs us→Vals (xs.set i x) (us.set i u)
  | _,_,_,.nil=>.nil
  | _,_,0,.cons _ t=>.cons r t
  | _,_,i+1,.cons q t=>.cons q (Vals.set r i t)
theorem Vals.append:∀{xs ys:List V} {us ws:List Value},Vals xs us→Vals ys ws→Vals (xs++ys) (us++ws)
  | _,_,_,_,.nil,s=>s
  | _,_,_,_,.cons r t,s=>.cons r (Vals.append t s)
theorem Vals.take:∀{xs:List V} {us:List Value} (n:Nat),Vals xs us→Vals (xs.take n) (us.take n)
  | _,_,0,_=>.nil
  | _,_,_+1,.nil=>.nil
  | _,_,n+1,.cons r t=>.cons r (Vals.take n t)
theorem Vals.drop:∀{xs:List V} {us:List Value} (n:Nat),Vals xs us→Vals (xs.drop n) (us.drop n)
  | _,_,0,r=>r
  | _,_,_+1,.nil=>.nil
  | _,_,n+1,.cons _ t=>Vals.drop n t
def RelO:Option V→Option Value→Prop
  | some v,some u=>RelV v u
  | none,none=>True
  | _,_=>False
def KV {κ:Type}:List (κ×V)→List (κ×Value)→Prop:=Paired fun (p:κ×V) (q:κ×Value)=>p.1=q.1∧RelV p.2 q.2
def kV:Key→V
  | .inl i=>.int i
  | .inr x=>.str x
inductive HO where
  | lst (xs:List V)
  | tup (xs:List V)
  | dK (kvs:List (Key×V)) | dT (kvs:List (List Key×V))
  | set (S:Int→Bool) (n:Nat)
  | ins (C dx:Addr) (fs:List (Str×V))
  | own (x:Addr)
  | xd (fs:List (Str×V))
  | met (f x:Addr)
  | rng (lo hi:Int)
  | frz (o:Obj) (u:HO)
  | tbl (ps:Array Value)
  | ext (φ:Heap→Prop)
abbrev Hp:=Addr→Option HO
def upd (H:Hp)(a:Addr)(o:HO):Hp:=fun b=>if b=a then some o else H b
theorem zac {H:Hp}{a:Addr}{o:HO}:upd H a o a=some o:=by unfold upd;rw[if_pos rfl]
theorem zaj {H:Hp}{a b:Addr}{o:HO}(h:b≠a):upd H a o b=H b:=by unfold upd;rw[if_neg h]
theorem zpA {H:Hp}{a:Addr}{o u:HO}:upd (upd H a o) a u=upd H a u:=by
  funext b;unfold upd;split <;> rfl
theorem zrJ {H:Hp}{a b:Addr}{o u:HO}(h:H a=some o)(h':H b=some u)(d:o≠u):a≠b:=by
  intro e;subst e;rw[h]at h';exact d (yad h')
theorem zad {H:Hp}{a b:Addr}{o:HO}(h:H a=some o)(h':H b=none):a≠b:=by
  intro e;subst e;rw[h]at h';cases h'
section
variable (P:Program)(w:World)
def zbe (H:Hp)(h:Heap)(a:Addr):HO→Prop
  | .lst xs=>xs.length≤sizeLine∧∃(its:List Value) (n:Nat),Vals xs its∧h.get? a=some { cls:=.type "list",data:=.seq its.toArray n }
  | .tup xs=>xs.length≤sizeLine∧∃ its:List Value,Vals xs its∧IsTup h a its.toArray
  | .dK kvs=>kvs.length≤sizeLine∧(a == sysModules)=false∧∃ vs,KV kvs vs∧h.DictOf (zbc P w) a vs
  | .dT kvs=>kvs.length≤sizeLine∧(a == sysModules)=false∧∃ xs:List (List Key×Addr×Value),
      Paired (fun (p:List Key×V) (q:List Key×Addr×Value)=>p.1=q.1∧H q.2.1=some (.tup (p.1.map kV))∧RelV p.2 q.2.2) kvs xs∧
      ∃ o es ep,h.get? a=some o∧o.ExactDict∧o.data=.dict es ep∧es.toList=xs.map (entryOfKey (tupleKind (zbc P w)))∧(xs.map (·.1)).Nodup
  | .set S n=>h.SetOf (intKind P w) a S n
  | .ins C dx fs=>H dx=some (.own a)∧fs.length≤1000∧dx≠a∧h.get? a=some (PySem.W.instObj C dx)∧
      ∃ mA,h.Ns1 dx mA∧(∀ f,RelO (fs.lookup f) (mA f))∧PySem.Within mA (fs.map (·.1))
  | .own _=>∃ o,h.get? a=some o
  | .xd fs=>∃ mA,h.Ns1 a mA∧∀ f,RelO (fs.lookup f) (mA f)
  | .rng lo hi=>∃ t u v,h.get? a=some { cls:=.type "range",data:=.fields #[.int lo t,.int hi u,.int 1 v] }
  | .frz o u=>h.get? a=some o∧zbe H h a u
  | .tbl ps=>h.get? a=some { cls:=.none,data:=.fields ps }
  | .met f x=>h.get? a=some (PySem.W.methodObj (.ref f) (.ref x))
  | .ext φ=>φ h∧(∃ o,h.get? a=some o)∧∀ h1 h2:Heap,φ h1→(∀ o,h1.get? a=some o→h2.get? a=some o)→φ h2
def HOk (H:Hp)(h:Heap):Prop:=∀ a o,H a=some o→zbe P w H h a o
end
section
variable {P:Program}{w:World}{H H':Hp}{h h':Heap}{a:Addr}{o:HO}
theorem zbe.lt (x:zbe P w H h a o):a < h.objs.size:=by
  cases o with
  | lst xs=>obtain ⟨_,_,_,_,e⟩:=x;exact yae e
  | tup xs=>obtain ⟨_,_,_,p⟩:=x;exact p.lt
  | dK kvs=>obtain ⟨_,_,_,_,o,_,_,e,_⟩:=x;exact yae e
  | dT kvs=>obtain ⟨_,_,_,_,o,_,_,e,_⟩:=x;exact yae e
  | set S n=>obtain ⟨o,_,_,_,e,_⟩:=x;exact yae e
  | ins C dx fs=>obtain ⟨_,_,_,e,_⟩:=x;exact yae e
  | own y=>obtain ⟨_,e⟩:=x;exact yae e
  | xd fs=>obtain ⟨_,⟨_,_,_,e,_⟩,_⟩:=x;exact yae e
  | rng lo hi=>obtain ⟨_,_,_,e⟩:=x;exact yae e
  | frz ob u=>obtain ⟨e,_⟩:=x;exact yae e
  | tbl ps=>exact yae (show h.get? a=some _ from x)
  | met f y=>exact yae (show h.get? a=some _ from x)
  | ext φ=>obtain ⟨_,⟨_,e⟩,_⟩:=x;exact yae e
theorem Paired.mapP {α β:Type}{F G:α→β→Prop}:∀{l₁:List α} {l₂:List β},Paired F l₁ l₂→(∀ a b,F a b→G a b)→Paired G l₁ l₂
  | _,_,.nil,_=>.nil
  | _,_,.cons r t,f=>.cons (f _ _ r) (Paired.mapP t f)
theorem zbe.stay (x:zbe P w H h a o)(k:∀ b u,(b=a∨H b=some (.own a))→h.get? b=some u→h'.get? b=some u)
    (ho:∀ b,H b=some (.own a)→H' b=some (.own a)) (ht:∀ b xs,H b=some (.tup xs)→H' b=some (.tup xs)):zbe P w H' h' a o:=by
  induction o with
  | lst xs=>obtain ⟨z,its,n,r,e⟩:=x;exact ⟨z,its,n,r,k _ _ (.inl rfl) e⟩
  | tup xs=>obtain ⟨z,its,r,ob,e,c⟩:=x;exact ⟨z,its,r,ob,k _ _ (.inl rfl) e,c⟩
  | dK kvs=>obtain ⟨z,y,vs,r,ob,es,ep,e,c⟩:=x;exact ⟨z,y,vs,r,ob,es,ep,k _ _ (.inl rfl) e,c⟩
  | dT kvs=>
    obtain ⟨z,y,xs,r,ob,es,ep,e,c⟩:=x;exact ⟨z,y,xs,Paired.mapP r fun p q z=>⟨z.1,ht _ _ z.2.1,z.2.2⟩,ob,es,ep,k _ _ (.inl rfl) e,c⟩
  | set S n=>obtain ⟨ob,es,ep,t,e,c⟩:=x;exact ⟨ob,es,ep,t,k _ _ (.inl rfl) e,c⟩
  | ins C dx fs=>
    obtain ⟨d,z,ne,e,mA,⟨od,es,ep,e2,c⟩,r⟩:=x;exact ⟨ho _ d,z,ne,k _ _ (.inl rfl) e,mA,⟨od,es,ep,k _ _ (.inr d) e2,c⟩,r⟩
  | own y=>obtain ⟨ob,e⟩:=x;exact ⟨ob,k _ _ (.inl rfl) e⟩
  | xd fs=>obtain ⟨mA,⟨od,es,ep,e,c⟩,r⟩:=x;exact ⟨mA,⟨od,es,ep,k _ _ (.inl rfl) e,c⟩,r⟩
  | rng lo hi=>obtain ⟨t,u,v,e⟩:=x;exact ⟨t,u,v,k _ _ (.inl rfl) e⟩
  | frz ob u ih=>obtain ⟨e,q⟩:=x;exact ⟨k _ _ (.inl rfl) e,ih q⟩
  | tbl ps=>
    have e:h.get? a=some { cls:=.none,data:=.fields ps }:=x;show h'.get? a=some { cls:=.none,data:=.fields ps };exact k a _ (.inl rfl) e
  | met f y=>
    have e:h.get? a=some (PySem.W.methodObj (.ref f) (.ref y)):=x;show h'.get? a=some (PySem.W.methodObj (.ref f) (.ref y));exact k a _ (.inl rfl) e
  | ext φ=>obtain ⟨p,⟨o,e⟩,st⟩:=x;exact ⟨st _ _ p fun o q=>k _ _ (.inl rfl) q,⟨o,k _ _ (.inl rfl) e⟩,st⟩
theorem HOk.lt (x:HOk P w H h)(e:H a=some o):a < h.objs.size:=(x a o e).lt
theorem HOk.fresh (x:HOk P w H h)(e:h.objs.size≤a):H a=none:=by
  cases q:H a with
  | none=>rfl
  | some u=>exact absurd (yaz (x.lt q) e) (ybh _)
theorem HOk.kept (x:HOk P w H h)(k:∀ b u,h.get? b=some u→h'.get? b=some u):HOk P w H h':=fun a o e=>
  (x a o e).stay (fun b u _ q=>k b u q) (fun _ q=>q) fun _ _ q=>q
theorem HOk.laid (x:HOk P w H h)(k:∀ b u,h.get? b=some u→h'.get? b=some u)(hp:h.objs.size≤a)(new:zbe P w (upd H a o) h' a o):HOk P w (upd H a o) h':=fun b u e=>by
  have hn:=x.fresh hp;by_cases hb:b=a
  · subst hb;rw[zac]at e;cases e;exact new
  · rw[zaj hb]at e
    exact (x b u e).stay (fun c v _ q=>k c v q) (fun c q=>by rw[zaj (zad q hn)];exact q) fun c xs q=>by rw[zaj (zad q hn)];exact q
end
def Rd (H:Hp)(a:Addr)(u:HO):Prop:=H a=some u∨∃ o,H a=some (.frz o u)
theorem Rd.ok {P:Program}{w:World}{H:Hp}{h:Heap}{a:Addr}{u:HO}(r:Rd H a u)(x:HOk P w H h):zbe P w H h a u:=by
  rcases r with r | ⟨o,r⟩
  · exact x a u r
  · obtain ⟨_,q⟩:=x a _ r
    exact q
def Mut:Option HO→Prop
  | some (.lst _)=>True
  | some (.dK _)=>True
  | some (.dT _)=>True
  | some (.set _ _)=>True
  | some (.ins _ _ _)=>True
  | some (.ext _)=>True
  | _=>False
section
variable {P:Program}{w:World}{H:Hp}{h h':Heap}{x e:Addr}{o':HO}
theorem HOk.write (ok:HOk P w H h)(mu:Mut (H x))(he:e=x∨H e=some (.own x))(k:∀ b u,b≠e→h.get? b=some u→h'.get? b=some u)(heo:∃ u,h'.get? e=some u)
    (new:zbe P w (upd H x o') h' x o'):HOk P w (upd H x o') h':=fun b u q=>by
  have nown:∀ c y,H c=some (.own y)→c≠x:=fun c y r z=>by subst z;rw[r]at mu;exact mu
  have ntup:∀ c xs,H c=some (.tup xs)→c≠x:=fun c xs r z=>by subst z;rw[r]at mu;exact mu
  by_cases hb:b=x
  · subst hb;rw[zac]at q;cases q;exact new
  · rw[zaj hb]at q
    by_cases hbe:b=e
    · have q':H b=some (.own x):=by
        rcases he with z | z
        · exact absurd (hbe.trans z) hb
        · rw[hbe];exact z
      rw[q]at q';cases q'
      obtain ⟨v,hv⟩:=heo;exact ⟨v,by rw[hbe];exact hv⟩
    · refine (ok b u q).stay (fun c v hc r=>k c v ?_ r) (fun c r=>by rw[zaj (nown c b r)];exact r) fun c xs r=>by rw[zaj (ntup c xs r)];exact r
      rcases hc with rfl | hc
      · exact hbe
      · rintro rfl
        rcases he with z | z
        · exact nown c b hc z
        · rw[hc]at z;cases z;exact hb rfl
end
structure Un (fs ex:List Addr)(H H':Hp)(h h':Heap):Prop where
  keep:∀ b o,h.get? b=some o→H b=none→b∉fs→b∉ex→h'.get? b=some o
  slot:∀ b o,h.get? b=some o→H b=none→b∈fs→b∉ex→∃ sl,h'.get? b=some { o with slots:=sl }
  free:∀ b o,h.get? b=some o→H b=none→b∉ex→H' b=none
  there:∀ b o,h.get? b=some o→b∉ex→∃ o',h'.get? b=some o'
  tups:∀ b xs,H b=some (.tup xs)→H' b=some (.tup xs)
  frzs:∀ b o u,H b=some (.frz o u)→H' b=some (.frz o u)
  tbls:∀ b ps,H b=some (.tbl ps)→∃ more,H' b=some (.tbl (ps++more))
section
variable {fs fs' ex ex':List Addr}{H H1 H2:Hp}{h h1 h2 h':Heap}{a x e:Addr}{o:HO}
theorem Un.any (u:Un fs ex H H1 h h1){b:Addr}{ob:Obj}(q:h.get? b=some ob)(n:H b=none)(hx:b∉ex):∃ sl,h1.get? b=some { ob with slots:=sl }:=by
  by_cases hb:b∈fs
  · exact u.slot b ob q n hb hx
  · exact ⟨ob.slots,u.keep b ob q n hb hx⟩
theorem Un.kept (k:∀ b u,h.get? b=some u→h'.get? b=some u):Un fs ex H H h h':=
  ⟨fun b ob q _ _ _=>k b ob q,fun b ob q _ _ _=>⟨ob.slots,k b ob q⟩,fun _ _ _ n _=>n,fun b ob q _=>⟨ob,k b ob q⟩,fun _ _ q=>q,fun _ _ _ q=>q,fun _ ps q=>⟨#[],by rw[q];simp⟩⟩
theorem Un.refl:Un fs ex H H h h:=Un.kept fun _ _ q=>q
theorem Un.laid (k:∀ b u,h.get? b=some u→h'.get? b=some u)(hp:h.objs.size≤a)(hn:H a=none):Un fs ex H (upd H a o) h h' where
  keep:=fun b u q _ _ _=>k b u q
  slot:=fun b u q _ _ _=>⟨u.slots,k b u q⟩
  free:=fun b u q n _=>by rw[zaj (yam (yaz (yae q) hp))];exact n
  there:=fun b u q _=>⟨u,k b u q⟩
  tups:=fun b xs q=>by rw[zaj (zad q hn)];exact q
  frzs:=fun b u xs q=>by rw[zaj (zad q hn)];exact q
  tbls:=fun b ps q=>⟨#[],by rw[zaj (zad q hn),q];simp⟩
theorem Un.write (mu:Mut (H x))(he:e=x∨H e=some (.own x))(k:∀ b u,b≠e→h.get? b=some u→h'.get? b=some u)(heo:∃ u,h'.get? e=some u):Un fs ex H (upd H x o) h h':=by
  have hx:∀ b,H b=none→b≠x:=fun b n z=>by subst z;rw[n]at mu;exact mu
  have hb:∀ b,H b=none→b≠e:=fun b n z=>by
    subst z;rcases he with r | r
    · exact hx b n r
    · rw[n]at r;cases r
  have hm:∀ b u,H b=some u→¬ Mut (some u)→b≠x:=fun b u q nm z=>by subst z;rw[q]at mu;exact nm mu
  refine ⟨fun b u q n _ _=>k b u (hb b n) q,fun b u q n _ _=>⟨u.slots,k b u (hb b n) q⟩,fun b u q n _=>by rw[zaj (hx b n)];exact n,fun b u q _=>?_,
    fun b xs q=>by rw[zaj (hm b _ q fun z=>z)];exact q,fun b u xs q=>by rw[zaj (hm b _ q fun z=>z)];exact q,fun b ps q=>⟨#[],by rw[zaj (hm b _ q fun z=>z),q];simp⟩⟩
  by_cases hbe:b=e
  · subst hbe;exact heo
  · exact ⟨u,k b u hbe q⟩
end
def trk (h:Heap)(H:Hp):List Addr:=(List.range h.objs.size).filter fun a=>(H a).isSome
def hidT (h:Heap)(H:Hp):Heap:=PySem.W.hideAll h (trk h H)
theorem zmK (h:Heap)(H:Hp):(hidT h H).objs.size=h.objs.size:=PySem.W.hideAll_size _ _
theorem zos {h:Heap}{H:Hp}{b:Addr}{o:Obj}(e:h.get? b=some o)(n:H b=none):(hidT h H).get? b=some o:=
  PySem.W.hideAll_get _ e fun hm=>by
    have q:(H b).isSome=true:=(yba.mp hm).2;rw[n]at q;simp at q
theorem zqd {h:Heap}{H:Hp}{b:Addr}{o:Obj}(e:(hidT h H).get? b=some o):h.get? b=some o∧H b=none:=by
  have e':h.get? b=some o:=PySem.W.of_hideAll (trk h H) e;refine ⟨e',?_⟩;cases q:H b with
  | none=>rfl
  | some x=>
    have hm:b∈trk h H:=yba.mpr ⟨ya5.mpr (yae e'),by simp[q]⟩;have z:(hidT h H).get? b=none:=PySem.W.hideAll_none (trk h H) hm;rw[z]at e;cases e
def zqM (g h:Heap)(L:Addr):List (Addr×Obj):=(List.range h.objs.size).filterMap fun a=>if a=L∨(g.get? a).isSome=true then none else (h.get? a).map fun o=>(a,o)
def rest (g h:Heap)(L d:Addr):List (Addr×Obj):=(zqM g h L).filter fun p=>decide (p.1≠d)
end L2
namespace L2
open PySem PySem.Spec PyProof.Rows
structure Mod (K:Frag)(mg:Str→Option Value)(base:Heap):Prop where
  kin:K.In base
  glob:base.Ns mainGlobals mg
  blt:∃ mb,base.Ns builtinsNs mb∧∀ x:Str,x ≠ "__name__"→mb x=bootBuiltins x
  nolimit:base.NoLimit
structure Cx where
  prog:Program
  w:World
  K:Frag
  mg:Str→Option Value
  base:Heap
  A:Around
  N:List Str
  s₀:Shared
  H₀:Hp
  env:Env
  outer:List Env
  stack:List Env
  ex:List Addr
  fn:Str→Bool
  calm:Bool
  pn:List (Addr×Obj)
  xe:Value→Shared→Prop
def frs (l:List Env):List Addr:=l.filterMap (·.frame)
abbrev Cx.fs (X:Cx):List Addr:=frs X.outer
def Vis (sc:Scope)(x:Str):Prop:=sc.names.lookup x=some .local∨sc.names.lookup x=some .cell∨sc.names.lookup x=some .free
def Loc (sc:Scope)(x:Str):Prop:=sc.names.lookup x=some .local∨sc.names.lookup x=some .cell
def Look (env:Env)(h:Heap)(m:Str→Option Value)(x:Str)(u:Value):Prop:=
  (env.kindOf x=some .local∧m x=some u)∨((env.kindOf x=some .cell∨env.kindOf x=some .free)∧∃ c,env.cells.lookup x=some c∧h.IsCell c (some u))
structure Cx.Ok (X:Cx):Prop where
  mod:Mod X.K X.mg X.base
  kind:X.env.scope.kind=.function
  glob:X.env.globals=mainGlobals
  blt:X.env.builtins=builtinsNs
  above:X.s₀.heap.objs.size≤X.env.locals
  inj:∀ x y c,X.env.cells.lookup x=some c→X.env.cells.lookup y=some c→x=y
  has:∀ x,(X.env.kindOf x=some .cell∨X.env.kindOf x=some .free)→∃ c,X.env.cells.lookup x=some c
  cab:∀ x c,X.fn x=true→X.env.cells.lookup x=some c→X.s₀.heap.objs.size≤c
  hd:X.calm=true→X.A.handled=none
  frames:X.A.frames=some X.stack
  stk:X.stack=X.outer∨(X.stack=X.env::X.outer∧X.env.frame=some X.env.locals)
  exf:∀ b∈X.ex,b≠X.env.locals∧∀ x c,X.env.cells.lookup x=some c→c≠b
  bs:∀ b o,X.base.get? b=some o→X.s₀.heap.get? b=some o∧X.H₀ b=none
  bsz:X.base.objs.size≤X.s₀.heap.objs.size
  noex:∀ b o,X.base.get? b=some o→b∉X.ex
  exfs:∀ b∈X.ex,b∉X.fs
  funs:X.s₀.heap.FunFrames X.base X.outer
  frf:∀ b∈X.fs,X.H₀ b=none
structure Inv (X:Cx)(pins:List (Addr×Obj))(σ:List (Option V))(H:Hp)(s:Shared):Prop where
  ok:X.Ok
  os:s.os=X.s₀.os
  bare:AllBare s.gens
  base:Un X.fs X.ex X.H₀ H X.s₀.heap s.heap
  loc:∃ m,s.heap.Ns X.env.locals m∧∀(i:Nat) (x:Str) (v:V),X.N[i]?=some x→σ[i]?=some (some v)→Vis X.env.scope x→∃ u,RelV v u∧Look X.env s.heap m x u
  cell:∀ x c,X.env.cells.lookup x=some c→∃ v,s.heap.IsCell c v
  free:H X.env.locals=none
  freeC:∀ x c,X.env.cells.lookup x=some c→H c=none
  pin:∀ p∈X.pn++pins,s.heap.get? p.1=some p.2∧H p.1=none∧p.1≠X.env.locals∧p.1∉X.fs∧∀ v,p.2.data≠.cell v
  hok:HOk X.prog X.w H s.heap
  len:σ.length=X.N.length
section
variable {X:Cx}{pins:List (Addr×Obj)}{σ:List (Option V)}{H H':Hp}{s:Shared}{h':Heap}
theorem Cx.Ok.nofr (ok:X.Ok){b:Addr}{o:Obj}(e:X.base.get? b=some o):b∉X.fs:=fun hb=>by
  have:=(ok.funs.mem hb).1;rw[e]at this;cases this
theorem Inv.bs (I:Inv X pins σ H s):∀ b o,X.base.get? b=some o→s.heap.get? b=some o∧H b=none:=fun b o e=>
  ⟨I.base.keep b o (I.ok.bs b o e).1 (I.ok.bs b o e).2 (I.ok.nofr e) (I.ok.noex b o e),I.base.free b o (I.ok.bs b o e).1 (I.ok.bs b o e).2 (I.ok.noex b o e)⟩
theorem Inv.bk (I:Inv X pins σ H s):∀ b o,X.base.get? b=some o→s.heap.get? b=some o:=fun b o e=>(I.bs b o e).1
theorem Inv.mod (I:Inv X pins σ H s):Mod X.K X.mg X.base:=I.ok.mod
theorem Inv.kIn (I:Inv X pins σ H s):X.K.In s.heap:=I.ok.mod.kin.keeps I.bk
theorem Inv.lt (I:Inv X pins σ H s):X.env.locals < s.heap.objs.size:=let ⟨_,hn,_⟩:=I.loc;hn.lt
theorem Inv.sz (I:Inv X pins σ H s):X.s₀.heap.objs.size≤s.heap.objs.size:=yaB I.ok.above (ya3 I.lt)
theorem Inv.nofs (I:Inv X pins σ H s){a:Addr}(h:s.heap.objs.size≤a):a∉X.fs:=fun hb=>by
  obtain ⟨_,o,ho,_⟩:=I.ok.funs.mem hb;exact absurd (yaz (yae ho) (yaB I.sz h)) (ybh _)
theorem Inv.cne (I:Inv X pins σ H s):∀ x c,X.env.cells.lookup x=some c→c≠X.env.locals:=fun x c e z=>by
  obtain ⟨v,o,ho,hd⟩:=I.cell x c e;obtain ⟨m,⟨o',es,ep,ho',hd',_⟩,_⟩:=I.loc;rw[z,ho']at ho;cases ho;rw[hd']at hd;cases hd
theorem Inv.funs (I:Inv X pins σ H s):s.heap.FunFrames X.base X.outer:=by
  have all:∀(l:List Env),(∀ b∈frs l,b∈X.fs)→X.s₀.heap.FunFrames X.base l→s.heap.FunFrames X.base l:=by
    intro l
    induction l with
    | nil=>intro _ _;trivial
    | cons env r ih=>
      intro hs hl;obtain ⟨hk,⟨L,o,hf,hn,ho,hd⟩,hr⟩:=hl;have hL:L∈X.fs:=hs L (by unfold frs;rw[ybx,hf];exact yaA);obtain ⟨sl,e⟩:=I.base.slot L o ho (I.ok.frf L hL) hL fun z=>I.ok.exfs L z hL;exact ⟨hk,⟨L,_,hf,hn,e,hd⟩,ih (fun b hb=>hs b (by unfold frs;rw[ybx,hf];exact yau _ hb)) hr⟩
  exact all X.outer (fun _ hb=>hb) I.ok.funs
theorem Inv.stack (I:Inv X pins σ H s):s.heap.FunFrames X.base X.stack:=by
  rcases I.ok.stk with e | ⟨e,hf⟩
  · rw[e];exact I.funs
  · rw[e]
    obtain ⟨m,hn,_⟩:=I.loc;refine .cons (by rw[I.ok.kind];decide) hf hn ?_ I.funs;exact Heap.get?_none_of_le (yaB I.ok.bsz I.ok.above)
theorem Inv.stkSub (I:Inv X pins σ H s):∀ b∈frs X.stack,b∈X.env.locals::X.fs:=fun b hb=>by
  rcases I.ok.stk with e | ⟨e,hf⟩
  · rw[e]at hb;exact yau _ hb
  · rw[e]at hb
    unfold frs at hb;rw[ybx,hf]at hb;exact hb
theorem Inv.stkFree (I:Inv X pins σ H s):∀ b∈frs X.stack,H b=none:=fun b hb=>by
  rcases yah.mp (I.stkSub b hb) with e | hb
  · rw[e];exact I.free
  · obtain ⟨_,o,ho,_⟩:=I.ok.funs.mem hb
    exact I.base.free b o ho (I.ok.frf b hb) fun z=>I.ok.exfs b z hb
theorem Inv.step {g':Array GenState}{t':Nat}{d':Drawn}{ch:List Addr}(I:Inv X pins σ H s)
    (hch:∀ b∈ch,(b∈X.ex∨X.s₀.heap.objs.size≤b)∧b≠X.env.locals∧(∀ x c,X.env.cells.lookup x=some c→c≠b)∧∀ p∈X.pn++pins,p.1≠b)
    (keep:∀ b o,b≠X.env.locals→b∉X.fs→b∉ch→s.heap.get? b=some o→H b=none→h'.get? b=some o)
    (slot:∀ b o,b≠X.env.locals→b∈X.fs→b∉ch→s.heap.get? b=some o→H b=none→∃ sl,h'.get? b=some { o with slots:=sl }) (free:∀ b o,b∉ch→s.heap.get? b=some o→H b=none→H' b=none)
    (there:∀ b o,b∉ch→s.heap.get? b=some o→∃ o',h'.get? b=some o')
    (tups:∀ b xs,H b=some (.tup xs)→H' b=some (.tup xs)) (frzs:∀ b o u,H b=some (.frz o u)→H' b=some (.frz o u)) (tbls:∀ b ps,H b=some (.tbl ps)→∃ more,H' b=some (.tbl (ps++more)))
    (ns:∀ m,s.heap.Ns X.env.locals m→h'.Ns X.env.locals m) (hok:HOk X.prog X.w H' h') (hg:AllBare g') :
    Inv X pins σ H' { s with heap:=h',gens:=g',drawn:=d',toks:=t' }:=by
  have neL:∀ b o,X.s₀.heap.get? b=some o→b≠X.env.locals:=fun b o e=>yam (yaz (yae e) I.ok.above);have neC:∀ b o,X.s₀.heap.get? b=some o→b∉X.ex→b∉ch:=fun b o e hx hb=>by
    rcases (hch b hb).1 with z | z
    · exact hx z
    · exact absurd (yaz (yae e) z) (ybh _)
  have cellK:∀ x c,X.env.cells.lookup x=some c→∀ v,s.heap.IsCell c v→h'.IsCell c v:=fun x c e v ⟨o,ho,hd⟩=>by
    have nch:c∉ch:=fun z=>(hch c z).2.2.1 x c e rfl;by_cases hc:c∈X.fs
    · obtain ⟨sl,q⟩:=slot c o (I.cne x c e) hc nch ho (I.freeC x c e)
      exact ⟨_,q,hd⟩
    · exact ⟨o,keep c o (I.cne x c e) hc nch ho (I.freeC x c e),hd⟩
  refine ⟨I.ok,I.os,hg,⟨fun b o e n hb hx=>?_,fun b o e n hb hx=>?_,fun b o e n hx=>?_,fun b o e hx=>?_,fun b xs e=>tups b xs (I.base.tups b xs e),fun b o xs e=>frzs b o xs (I.base.frzs b o xs e),fun b ps e=>?_⟩,?_,fun x c e=>?_,?_,fun x c e=>?_,fun p hp=>?_,hok,I.len⟩
  · exact keep b o (neL b o e) hb (neC b o e hx) (I.base.keep b o e n hb hx) (I.base.free b o e n hx)
  · obtain ⟨sl,e1⟩:=I.base.slot b o e n hb hx
    obtain ⟨sl',e2⟩:=slot b _ (neL b o e) hb (neC b o e hx) e1 (I.base.free b o e n hx);exact ⟨sl',e2⟩
  · obtain ⟨o',e1⟩:=I.base.there b o e hx
    exact free b o' (neC b o e hx) e1 (I.base.free b o e n hx)
  · obtain ⟨o',e1⟩:=I.base.there b o e hx
    exact there b o' (neC b o e hx) e1
  · obtain ⟨m1,e1⟩:=I.base.tbls b ps e
    obtain ⟨m2,e2⟩:=tbls b _ e1;exact ⟨m1++m2,by rw[e2,Array.append_assoc]⟩
  · obtain ⟨m,hn,hl⟩:=I.loc
    refine ⟨m,ns m hn,fun i x v e1 e2 e3=>?_⟩;obtain ⟨u,r,l⟩:=hl i x v e1 e2 e3;refine ⟨u,r,?_⟩;rcases l with l | ⟨k,c,e,z⟩
    · exact .inl l
    · exact .inr ⟨k,c,e,cellK x c e _ z⟩
  · obtain ⟨v,z⟩:=I.cell x c e
    exact ⟨v,cellK x c e v z⟩
  · obtain ⟨m,⟨o,_,_,ho,_⟩,_⟩:=I.loc
    exact free _ o (fun z=>(hch _ z).2.1 rfl) ho I.free
  · obtain ⟨v,o,ho,hd⟩:=I.cell x c e
    exact free c o (fun z=>(hch c z).2.2.1 x c e rfl) ho (I.freeC x c e)
  · obtain ⟨e,n,ne,nf,d⟩:=I.pin p hp
    have nch:p.1∉ch:=fun z=>(hch p.1 z).2.2.2 p hp rfl;exact ⟨keep p.1 p.2 ne nf nch e n,free p.1 p.2 nch e n,ne,nf,d⟩
theorem Inv.un {t':Nat}(I:Inv X pins σ H s)(u:Un X.fs [] H H' s.heap h')(hok:HOk X.prog X.w H' h'):Inv X pins σ H' { s with heap:=h',toks:=t' }:=by
  obtain ⟨m,⟨o,es,ep,ho,r⟩,_⟩:=id I.loc;obtain ⟨sl,hL⟩:=u.any ho I.free (by simp);exact I.step (g':=s.gens) (d':=s.drawn) (ch:=[]) (fun _ z=>nomatch z) (fun b o _ hb _ e n=>u.keep b o e n hb (by simp)) (fun b o _ hb _ e n=>u.slot b o e n hb (by simp)) (fun b o _ e n=>u.free b o e n (by simp)) (fun b o _ e=>u.there b o e (by simp)) u.tups u.frzs u.tbls (fun m' hm=>by
    obtain ⟨o',es',ep',ho',r'⟩:=hm;rw[ho]at ho';cases ho'
    exact ⟨_,es',ep',hL,r'⟩) hok I.bare
theorem Inv.call {g':Array GenState}{t':Nat}{d':Drawn}{ch:List Addr}(I:Inv X pins σ H s)(u:Un (frs X.stack) ch H H' s.heap h')(hok:HOk X.prog X.w H' h')(hg:AllBare g')
    (hch:∀ b∈ch,(b∈X.ex∨X.s₀.heap.objs.size≤b)∧b≠X.env.locals∧(∀ x c,X.env.cells.lookup x=some c→c≠b)∧∀ p∈X.pn++pins,p.1≠b) :
    Inv X pins σ H' { s with heap:=h',gens:=g',drawn:=d',toks:=t' }:=by
  obtain ⟨m,⟨o,es,ep,ho,r⟩,_⟩:=id I.loc;obtain ⟨sl,hL⟩:=u.any ho I.free fun z=>(hch _ z).2.1 rfl;exact I.step (ch:=ch) hch (fun b o hL hb hc e n=>u.keep b o e n (fun z=>(yah.mp (I.stkSub b z)).elim hL hb) hc) (fun b o _ _ hc e n=>u.any e n hc) (fun b o hc e n=>u.free b o e n hc) (fun b o hc e=>u.there b o e hc) u.tups u.frzs u.tbls (fun m' hm=>by
    obtain ⟨o',es',ep',ho',r'⟩:=hm;rw[ho]at ho';cases ho'
    exact ⟨_,es',ep',hL,r'⟩) hok hg
theorem Inv.turned {t':Nat}{it:Addr}(I:Inv X pins σ H s)(k:∀ b o,b≠it→s.heap.get? b=some o→h'.get? b=some o)(hn:H it=none)(hL:it≠X.env.locals)
    (h1:it∈X.ex∨X.s₀.heap.objs.size≤it) (h2:∀ x c,X.env.cells.lookup x=some c→c≠it) (h3:∀ p∈X.pn++pins,p.1≠it):Inv X pins σ H { s with heap:=h',toks:=t' }:=by
  have nit:∀ b u,H b=some u→b≠it:=fun b u e z=>by rw[z,hn]at e;cases e
  refine I.step (g':=s.gens) (d':=s.drawn) (ch:=[it]) (fun b hb=>?_) (fun b o _ _ hc e _=>k b o (fun z=>hc (by simp[z])) e) (fun b o _ _ hc e _=>⟨o.slots,k b o (fun z=>hc (by simp[z])) e⟩) (fun _ _ _ _ n=>n)
    (fun b o hc e=>⟨o,k b o (fun z=>hc (by simp[z])) e⟩) (fun _ _ e=>e) (fun _ _ _ e=>e) (fun b ps e=>⟨#[],by rw[e];simp⟩) (fun m hm=>?_) (fun b u e=>?_) I.bare
  · have e:b=it:=by simpa using hb
    subst e;exact ⟨h1,hL,h2,h3⟩
  · obtain ⟨o,es,ep,ho,r⟩:=hm
    exact ⟨o,es,ep,k _ o (Ne.symm hL) ho,r⟩
  · refine (I.hok b u e).stay (fun c v hc q=>k c v ?_ q) (fun _ q=>q) fun _ _ q=>q
    rcases hc with z | z
    · rw[z];exact nit b u e
    · exact nit c _ z
theorem Inv.tok (I:Inv X pins σ H s)(t:Nat):Inv X pins σ H { s with toks:=t }:=I.un (h':=s.heap) (t':=t) Un.refl I.hok
theorem Inv.kept {t':Nat}(I:Inv X pins σ H s)(k:∀ b u,s.heap.get? b=some u→h'.get? b=some u):Inv X pins σ H { s with heap:=h',toks:=t' }:=I.un (Un.kept k) (I.hok.kept k)
theorem Inv.laid {a:Addr}{o:HO}{t':Nat}(I:Inv X pins σ H s)(k:∀ b u,s.heap.get? b=some u→h'.get? b=some u)(hp:s.heap.objs.size≤a)(new:zbe X.prog X.w (upd H a o) h' a o) :
    Inv X pins σ (upd H a o) { s with heap:=h',toks:=t' }:=I.un (Un.laid k hp (I.hok.fresh hp)) (I.hok.laid k hp new)
theorem Inv.write {x e:Addr}{o:HO}{t':Nat}(I:Inv X pins σ H s)(mu:Mut (H x))(he:e=x∨H e=some (.own x))(k:∀ b u,b≠e→s.heap.get? b=some u→h'.get? b=some u)(heo:∃ u,h'.get? e=some u)
    (new:zbe X.prog X.w (upd H x o) h' x o):Inv X pins σ (upd H x o) { s with heap:=h',toks:=t' }:=I.un (Un.write mu he k heo) (I.hok.write mu he k heo new)
theorem Inv.pins_of {pins':List (Addr×Obj)}(I:Inv X pins σ H s)(h:∀ p∈pins',s.heap.get? p.1=some p.2∧H p.1=none∧p.1≠X.env.locals∧p.1∉X.fs∧∀ v,p.2.data≠.cell v):Inv X pins' σ H s:=
  ⟨I.ok,I.os,I.bare,I.base,I.loc,I.cell,I.free,I.freeC,fun p hp=>(yak.mp hp).elim (fun z=>I.pin p (yaV _ z)) (h p),I.hok,I.len⟩
theorem zhw {N:List Str}(hN:N.Nodup){i j:Nat}{x:Str}(a:N[i]?=some x)(b:N[j]?=some x):i=j:=by
  obtain ⟨h1,e1⟩:=yap.mp a;obtain ⟨h2,e2⟩:=yap.mp b;exact (List.getElem_inj hN).mp (e1.trans e2.symm)
theorem zhY {M:Model}{A:Around}{E:Value→Shared→Prop}{i:Nat}{x:Str}{v:V}{u:Value}{Q:Unit→Shared→Prop}(I:Inv X pins σ H s)(hN:X.N.Nodup)(hi:X.N[i]?=some x)(hx:Loc X.env.scope x)(r:RelV v u)
    (h:∀ s',Inv X pins (σ.set i (some v)) H s'→(∃ a,Heap.SameBut a s.heap s'.heap∧(a=X.env.locals∨X.env.cells.lookup x=some a))→Q () s') (hf:X.fn x=true∨X.env.scope.names.lookup x=some .local:=by first | exact .inl rfl | exact .inr rfl | assumption):wpAny M A (storeName X.env x u) Q E s:=by
  obtain ⟨m,hn,hl⟩:=id I.loc;have hcls:(X.env.scope.kind == .class || (X.env.scope.kind == .module && X.env.locals != X.env.globals))=false:=by rw[I.ok.kind];rfl
  have hiσ:i < σ.length:=by rw[I.len];exact (yap.mp hi).1
  have cne:=I.cne;have tracked:∀{a:Addr} {h':Heap},(∃ o,s.heap.get? a=some o∧H a=none)→Heap.SameBut a s.heap h'→HOk X.prog X.w H h':=fun {a h'} ha hs b ob e=>by
    obtain ⟨_,_,hfree⟩:=ha;refine (I.hok b ob e).stay (fun c w' hc q=>(hs.2 c ?_).trans q) (fun _ q=>q) fun _ _ q=>q;rintro rfl;rcases hc with rfl | hc
    · rw[hfree]at e;cases e
    · rw[hfree]at hc;cases hc
  rcases hx with hk | hk
  · refine wpAny_storeName_local hk hn (fun h' hn' hs=>?_) hcls
    obtain ⟨oL,_,_,hoL,_⟩:=id hn;refine h _ ⟨I.ok,I.os,I.bare,⟨fun b o e n hb hx=>?_,fun b o e n hb hx=>?_,I.base.free,fun b o e hx=>?_,I.base.tups,I.base.frzs,I.base.tbls⟩,⟨_,hn',fun j y v' e1 e2 e3=>?_⟩,fun y c e=>?_,I.free,I.freeC,fun p hp=>?_,tracked ⟨oL,hoL,I.free⟩ hs,by simpa using I.len⟩ ⟨_,hs,.inl rfl⟩
    · exact (hs.2 b (yam (yaz (yae e) I.ok.above))).trans (I.base.keep b o e n hb hx)
    · obtain ⟨sl,e1⟩:=I.base.slot b o e n hb hx
      exact ⟨sl,(hs.2 b (yam (yaz (yae e) I.ok.above))).trans e1⟩
    · obtain ⟨o',e1⟩:=I.base.there b o e hx
      exact ⟨o',(hs.2 b (yam (yaz (yae e) I.ok.above))).trans e1⟩
    · by_cases hj:j=i
      · subst hj
        rw[hi]at e1;cases e1
        rw[List.getElem?_set_self hiσ]at e2;cases e2
        exact ⟨u,r,.inl ⟨hk,by simp⟩⟩
      · rw[ycs (Ne.symm hj)]at e2
        obtain ⟨u',r',q⟩:=hl j y v' e1 e2 e3;refine ⟨u',r',?_⟩;rcases q with ⟨k,e⟩ | ⟨k,c,e,z⟩
        · refine .inl ⟨k,?_⟩
          have:y≠x:=fun e=>hj (zhw hN e1 (e ▸ hi));simp[this,e]
        · exact .inr ⟨k,c,e,z.sameBut hs (cne y c e)⟩
    · obtain ⟨w',z⟩:=I.cell y c e
      exact ⟨w',z.sameBut hs (cne y c e)⟩
    · obtain ⟨e,n,ne,nf,d⟩:=I.pin p hp
      exact ⟨(hs.2 p.1 ne).trans e,n,ne,nf,d⟩
  · have hfn:X.fn x=true:=by
      rcases hf with z | z
      · exact z
      · rw[z]at hk;cases hk
    obtain ⟨c,hc⟩:=I.ok.has x (.inl hk);obtain ⟨w',z⟩:=I.cell x c hc;refine wpAny_storeName_cell I.ok.kind hk hc z (fun h' hc' hs=>?_);obtain ⟨oc,hoc,hocd⟩:=id z;refine h { s with heap:=h' } ⟨I.ok,I.os,I.bare,⟨fun b o e n hb hx=>?_,fun b o e n hb hx=>?_,I.base.free,fun b o e hx=>?_,I.base.tups,I.base.frzs,I.base.tbls⟩,⟨m,hn.sameBut hs (Ne.symm (cne x c hc)),fun j y v' e1 e2 e3=>?_⟩,fun y c' e=>?_,I.free,I.freeC,fun p hp=>?_,tracked ⟨oc,hoc,I.freeC x c hc⟩ hs,by simpa using I.len⟩ ⟨c,hs,.inr hc⟩
    · exact (hs.2 b (yam (yaz (yae e) (I.ok.cab x c hfn hc)))).trans (I.base.keep b o e n hb hx)
    · obtain ⟨sl,e1⟩:=I.base.slot b o e n hb hx
      exact ⟨sl,(hs.2 b (yam (yaz (yae e) (I.ok.cab x c hfn hc)))).trans e1⟩
    · obtain ⟨o',e1⟩:=I.base.there b o e hx
      exact ⟨o',(hs.2 b (yam (yaz (yae e) (I.ok.cab x c hfn hc)))).trans e1⟩
    · by_cases hj:j=i
      · subst hj
        rw[hi]at e1;cases e1
        rw[List.getElem?_set_self hiσ]at e2;cases e2
        exact ⟨u,r,.inr ⟨.inl hk,c,hc,hc'⟩⟩
      · rw[ycs (Ne.symm hj)]at e2
        obtain ⟨u',r',q⟩:=hl j y v' e1 e2 e3;refine ⟨u',r',?_⟩;rcases q with q | ⟨k,c',e,z'⟩
        · exact .inl q
        · refine .inr ⟨k,c',e,z'.sameBut hs ?_⟩
          rintro rfl;exact hj (zhw hN e1 (I.ok.inj _ _ _ e hc ▸ hi))
    · by_cases hcc:c'=c
      · subst hcc;exact ⟨_,hc'⟩
      · obtain ⟨w2,z2⟩:=I.cell y c' e
        exact ⟨w2,z2.sameBut hs hcc⟩
    · obtain ⟨e,n,ne,nf,d⟩:=I.pin p hp
      refine ⟨(hs.2 p.1 ?_).trans e,n,ne,nf,d⟩;intro q;rw[q,hoc]at e;have q':oc=p.2:=yad e;exact d w' (by rw[← q'];exact hocd)
theorem zg2 {M:Model}{A:Around}{E:Value→Shared→Prop}{i:Nat}{x:Str}{v:V}{u:Value}{Q:Unit→Shared→Prop}(I:Inv X pins σ H s)(hN:X.N.Nodup)(hi:X.N[i]?=some x)(hx:Loc X.env.scope x)(r:RelV v u)
    (h:∀ s',Inv X pins (σ.set i (some v)) H s'→Q () s') (hf:X.fn x=true∨X.env.scope.names.lookup x=some .local:=by first | exact .inl rfl | exact .inr rfl | assumption):wpAny M A (storeName X.env x u) Q E s:=
  zhY I hN hi hx r (fun s' I' _=>h s' I') hf
theorem Inv.call' {s':Shared}{ch:List Addr}(I:Inv X pins σ H s)(ho:s'.os=s.os)(u:Un (frs X.stack) ch H H' s.heap s'.heap)(hok:HOk X.prog X.w H' s'.heap)(hg:AllBare s'.gens)
    (hch:∀ b∈ch,(b∈X.ex∨X.s₀.heap.objs.size≤b)∧b≠X.env.locals∧(∀ x c,X.env.cells.lookup x=some c→c≠b)∧∀ p∈X.pn++pins,p.1≠b):Inv X pins σ H' s':=by
  obtain ⟨h',g',d',t',o'⟩:=s';have e:o'=s.os:=ho;subst e;exact I.call (g':=g') (t':=t') (d':=d') u hok hg hch
end
abbrev XK:=Value→Option Addr→Hp→Prop
abbrev St:=List (Option V)
abbrev VK:=V→Hp→Prop
abbrev TE:=St→Hp→VK→Prop
abbrev TT:=St→Hp→(Bool→Hp→Prop)→Prop
abbrev TA:=St→Hp→(List V→Hp→Prop)→Prop
structure Ends where
  nx:St→Hp→Prop
  rt:VK
  bk:St→Hp→Prop:=fun _ _=>False
  ct:St→Hp→Prop:=fun _ _=>False
abbrev TS:=Ends→St→Hp→Prop
def EP (X:Cx)(pins:List (Addr×Obj))(σ:St)(Q:VK)(u:Value)(s':Shared):Prop:=∃ v H',Inv X pins σ H' s'∧RelV v u∧Q v H'
def TP (X:Cx)(pins:List (Addr×Obj))(σ:St)(Q:Bool→Hp→Prop)(b:Bool)(s':Shared):Prop:=∃ H',Inv X pins σ H' s'∧Q b H'
def AP (X:Cx)(pins:List (Addr×Obj))(σ:St)(Q:List V→Hp→Prop)(us:List Value)(s':Shared):Prop:=∃ vs H',Inv X pins σ H' s'∧Vals vs us∧Q vs H'
def SP (X:Cx)(pins:List (Addr×Obj))(D:Ends)(f:Flow)(s':Shared):Prop:=
  match f with
  | .next=>∃ σ' H',Inv X pins σ' H' s'∧D.nx σ' H'
  | .brk=>∃ σ' H',Inv X pins σ' H' s'∧D.bk σ' H'
  | .cont=>∃ σ' H',Inv X pins σ' H' s'∧D.ct σ' H'
  | .ret u=>∃ v σ' H',Inv X pins σ' H' s'∧RelV v u∧D.rt v H'
def PE (X:Cx)(e:Expr)(t:TE):Prop:=
  ∀(pins:List (Addr×Obj)) (s:Shared) (σ:St) (H:Hp) (Q:VK),Inv X pins σ H s→t σ H Q→wpAny (model X.prog X.w) X.A (eval e X.env) (EP X pins σ Q) X.xe s
def PT (X:Cx)(e:Expr)(t:TT):Prop:=
  ∀(pins:List (Addr×Obj)) (s:Shared) (σ:St) (H:Hp) (Q:Bool→Hp→Prop),Inv X pins σ H s→t σ H Q→wpAny (model X.prog X.w) X.A (isTrue e X.env (eval e X.env)) (TP X pins σ Q) X.xe s
def PW (X:Cx)(e:Expr)(t:TT):Prop:=
  ∀(whole:Sem Value) (pins:List (Addr×Obj)) (s:Shared) (σ:St) (H:Hp) (Q:Bool→Hp→Prop),Inv X pins σ H s→t σ H Q→wpAny (model X.prog X.w) X.A (isTrue e X.env whole) (TP X pins σ Q) X.xe s
theorem PW.pt {X:Cx}{e:Expr}{t:TT}(h:PW X e t):PT X e t:=h _
def PA (X:Cx)(es:List Expr)(t:TA):Prop:=
  ∀(pos:Pos) (pins:List (Addr×Obj)) (s:Shared) (σ:St) (H:Hp) (Q:List V→Hp→Prop),Inv X pins σ H s→t σ H Q→wpAny (model X.prog X.w) X.A (spliced (backTo pos (starEach es X.env))) (AP X pins σ Q) X.xe s
def PS (X:Cx)(st:Stmt)(t:TS):Prop:=
  ∀(pins:List (Addr×Obj)) (s:Shared) (σ:St) (H:Hp) (D:Ends),Inv X pins σ H s→t D σ H→wpAny (model X.prog X.w) X.A (exec st X.env) (SP X pins D) X.xe s
def PSs (X:Cx)(st:List Stmt)(t:TS):Prop:=
  ∀(pins:List (Addr×Obj)) (s:Shared) (σ:St) (H:Hp) (D:Ends),Inv X pins σ H s→t D σ H→wpAny (model X.prog X.w) X.A (execs st X.env) (SP X pins D) X.xe s
theorem thn {α:Type}{t:Sem α}{Q Q':α→Shared→Prop}{M:Model}{A:Around}{E:Value→Shared→Prop}{s:Shared}(h:wpAny M A t Q E s)(hQ:∀ a s,Q a s→Q' a s):wpAny M A t Q' E s:=wpAny_mono h hQ fun _ _ x=>x
end L2
namespace L2
open PySem PySem.Spec PyProof.Rows
section
variable {X:Cx}
def tVar (i:Nat):TE:=fun σ H Q=>∃ v,σ[i]?=some (some v)∧Q v H
def tC (v:V):TE:=fun _ H Q=>Q v H
theorem zrq {i:Nat}{x:Str}{pos:Pos}(hN:X.N[i]?=some x)(hv:Vis X.env.scope x)(hd:(x == ("__debug__" : Str))=false:=by decide)(hcd:(x == ("__classdict__" : Str))=false:=by decide):PE X (.Name x pos) (tVar i):=by
  intro pins s σ H Q I h;obtain ⟨v,e,h⟩:=h;obtain ⟨m,hn,hl⟩:=I.loc;obtain ⟨u,r,l⟩:=hl i x v hN e hv;have fin:EP X pins σ Q u s:=⟨v,H,I,r,h⟩;rcases l with ⟨hk,hm⟩ | ⟨hk,c,hc,hcell⟩
  · exact wpAny_Name (wpAny_loadName_local I.ok.kind hk hn hm fin) hd
  · rcases hk with hk | hk
    · exact wpAny_Name (wpAny_loadName_cell I.ok.kind hk hc hcell fin) hd
    · exact wpAny_Name (wpAny_loadName_free I.ok.kind hk hc hcell fin hcd) hd
theorem zag {i j pos}:PE X (.Constant (.int i) j pos) (tC (.int i)):=fun _ _ _ H _ I h=>wpAny_Constant_int ⟨.int i,H,I.tok _,⟨_,rfl⟩,h⟩
theorem zdU {b j pos}:PE X (.Constant (.bool b) j pos) (tC (.bl b)):=fun _ _ _ H _ I h=>Constant_bool ⟨.bl b,H,I,rfl,h⟩
theorem ze9 {j pos}:PE X (.Constant .none j pos) (tC .non):=fun _ _ _ H _ I h=>Constant_none ⟨.non,H,I,rfl,h⟩
theorem zaF {x j pos}:PE X (.Constant (.str x) j pos) (tC (.str x)):=fun _ _ _ H _ I h=>Calls.Constant_str ⟨.str x,H,I.tok _,⟨_,rfl⟩,h⟩
def Gl (X:Cx)(x:Str):Prop:=X.env.kindOf x=some .globalImplicit
theorem zd8 {E:Value→Shared→Prop}{pins:List (Addr×Obj)}{s:Shared}{σ:St}{H:Hp}{x:Str}{u:Value}{pos:Pos}{Q:Value→Shared→Prop}(I:Inv X pins σ H s)(hg:Gl X x)(hm:X.mg x=some u)(h:Q u s)
    (hd:(x == ("__debug__" : Str))=false:=by decide):wpAny (model X.prog X.w) X.A (eval (.Name x pos) X.env) Q E s:=
  Calls.Name_function_global I.ok.kind hg (Calls.loadGlobal_global (by rw[I.ok.glob];exact I.mod.glob.keeps I.bk) hm h) hd
theorem zfe {E:Value→Shared→Prop}{pins:List (Addr×Obj)}{s:Shared}{σ:St}{H:Hp}{x:Str}{u:Value}{pos:Pos}{Q:Value→Shared→Prop}(I:Inv X pins σ H s)(hg:Gl X x)(hm:X.mg x=none)(hv:bootBuiltins x=some u)(h:Q u s)
    (hn:x ≠ "__name__":=by decide) (hd:(x == ("__debug__" : Str))=false:=by decide):wpAny (model X.prog X.w) X.A (eval (.Name x pos) X.env) Q E s:=by
  obtain ⟨mb,h1,h2⟩:=I.mod.blt;exact Calls.Name_function_global I.ok.kind hg (Calls.loadGlobal_builtin (by rw[I.ok.glob];exact I.mod.glob.keeps I.bk) hm (by rw[I.ok.blt];exact h1.keeps I.bk) ((h2 x hn).trans hv) h) hd
theorem zb4 {x:Str}{v:V}{u:Value}{pos:Pos}(hg:Gl X x)(hm:X.mg x=some u)(r:RelV v u)(hd:(x == ("__debug__" : Str))=false:=by decide):PE X (.Name x pos) (tC v):=
  fun _ _ _ H _ I h=>zd8 I hg hm ⟨v,H,I,r,h⟩ hd
theorem zc8 {x:Str}{v:V}{u:Value}{pos:Pos}(hg:Gl X x)(hm:X.mg x=none)(hv:bootBuiltins x=some u)(r:RelV v u)(hn:x ≠ "__name__":=by decide)(hd:(x == ("__debug__" : Str))=false:=by decide):PE X (.Name x pos) (tC v):=
  fun _ _ _ H _ I h=>zfe I hg hm hv ⟨v,H,I,r,h⟩ hn hd
variable {a b:Expr}{ta tb:TE}{pos:Pos}
def tB (t:TE):TT:=fun σ H Q=>t σ H fun x H1=>∃ c,x=.bl c∧Q c H1
theorem zbZ {e:Expr}{t:TE}(h:PE X e t)(he:∀ whole,isTrue e X.env whole=(do let v ← whole;standAt e.pos;holding [v] (truthy v)):=by intro _;rfl):PT X e (tB t):=by
  intro pins s σ H Q I hw;refine isTrue_plain (thn (h pins s σ H _ I hw) fun v s1 zq0=>?_) (he _);obtain ⟨x,H1,I1,r1,q1⟩:=zq0;obtain ⟨d,rfl,q⟩:=q1;cases r1
  exact wpAny_truthy_bool ⟨H1,I1,q⟩
variable {tA tB':TT}{rest:List Expr}
def tAnd (t u:TT):TT:=fun σ H Q=>t σ H fun c H1=>if c=true then u σ H1 Q else Q false H1
def tOr (t u:TT):TT:=fun σ H Q=>t σ H fun c H1=>if c=true then Q true H1 else u σ H1 Q
def tNot (t:TT):TT:=fun σ H Q=>t σ H fun c H1=>Q (!c) H1
theorem zfX (ha:PT X a tA):PW X (.BoolOp .And [a] pos) tA:=by
  intro wh pins s σ H Q I h;refine isTrue_and (thn (ha pins s σ H Q I h) fun c s1 e=>?_);cases c with
  | true=>exact isTrue_and_nil e
  | false=>exact e
theorem zpe (ha:PT X a tA):PW X (.BoolOp .Or [a] pos) tA:=by
  intro wh pins s σ H Q I h;refine isTrue_or (thn (ha pins s σ H Q I h) fun c s1 e=>?_);cases c with
  | false=>exact isTrue_or_nil e
  | true=>exact e
theorem zia (ha:PT X a tA)(hb:PW X (.BoolOp .And (b::rest) pos) tB'):PW X (.BoolOp .And (a::b::rest) pos) (tAnd tA tB'):=by
  intro wh pins s σ H Q I h;refine isTrue_and (thn (ha pins s σ H _ I h) fun c s1 zq0=>?_);obtain ⟨H1,I1,q1⟩:=zq0;cases c with
  | true=>exact hb wh pins s1 σ H1 Q I1 q1
  | false=>exact ⟨H1,I1,q1⟩
theorem zrm (ha:PT X a tA)(hb:PW X (.BoolOp .Or (b::rest) pos) tB'):PW X (.BoolOp .Or (a::b::rest) pos) (tOr tA tB'):=by
  intro wh pins s σ H Q I h;refine isTrue_or (thn (ha pins s σ H _ I h) fun c s1 zq0=>?_);obtain ⟨H1,I1,q1⟩:=zq0;cases c with
  | true=>exact ⟨H1,I1,q1⟩
  | false=>exact hb wh pins s1 σ H1 Q I1 q1
theorem zde (ha:PT X a tA):PT X (.UnaryOp .Not a pos) (tNot tA):=by
  intro pins s σ H Q I h;exact isTrue_not (ha pins s σ H (fun c H1=>Q (!c) H1) I h)
def zsy (ta tb:TE):TE:=fun σ H Q=>ta σ H fun x H1=>∃ c,x=.bl c∧if c=true then tb σ H1 Q else Q (.bl false) H1
def zss (ta:TE):TE:=fun σ H Q=>ta σ H fun x H1=>∃ c,x=.bl c∧Q (.bl (!c)) H1
theorem zjX {op}{t:TE}(h:PE X a t):PE X (.BoolOp op [a] pos) t:=fun pins s σ H Q I hw=>BoolOp_one (h pins s σ H Q I hw)
theorem zj0 (ha:PE X a ta)(hb:PE X (.BoolOp .And (b::rest) pos) tb):PE X (.BoolOp .And (a::b::rest) pos) (zsy ta tb):=by
  intro pins s σ H Q I h;refine BoolOp_and (thn (ha pins s σ H _ I h) fun v s1 zq0=>?_);obtain ⟨x,H1,I1,r1,q1⟩:=zq0;obtain ⟨c,rfl,q1⟩:=q1;cases r1
  refine wpAny_truthy_bool ?_;cases c with
  | true=>exact hb pins s1 σ H1 Q I1 q1
  | false=>exact ⟨.bl false,H1,I1,rfl,q1⟩
theorem zrr (ha:PE X a ta):PE X (.UnaryOp .Not a pos) (zss ta):=by
  intro pins s σ H Q I h;refine UnaryOp_ (thn (ha pins s σ H _ I h) fun v s1 zq0=>?_);obtain ⟨x,H1,I1,r1,q1⟩:=zq0;obtain ⟨c,rfl,q1⟩:=q1;cases r1
  exact not_of (wpAny_truthy_bool ⟨.bl (!c),H1,I1,rfl,q1⟩)
def tIf (t:TT)(ta tb:TE):TE:=fun σ H Q=>t σ H fun c H1=>if c=true then ta σ H1 Q else tb σ H1 Q
theorem znO {c:Expr}(hc:PT X c tA)(ha:PE X a ta)(hb:PE X b tb):PE X (.IfExp c a b pos) (tIf tA ta tb):=by
  intro pins s σ H Q I h;refine wpAny_IfExp (thn (hc pins s σ H _ I h) fun d s1 zq0=>?_);obtain ⟨H1,I1,q1⟩:=zq0;cases d with
  | true=>exact ha pins s1 σ H1 Q I1 q1
  | false=>exact hb pins s1 σ H1 Q I1 q1
end
end L2
namespace L2
open PySem PySem.Spec PyProof.Rows
def SqL (K:Frag)(H:Hp)(a:Addr)(xs:List V):Prop:=
  Rd H a (.lst xs)∨
    ∃(o:Obj) (its:Array Value) (n:Nat),K.lookup a=some o∧o.cls=.type "list"∧o.dict=none∧o.data=.seq its n∧its.size≤sizeLine∧Vals xs its.toList
def SqT (K:Frag)(H:Hp)(a:Addr)(xs:List V):Prop:=
  Rd H a (.tup xs)∨
    ∃(o:Obj) (its:Array Value) (n:Nat),K.lookup a=some o∧o.cls=.type "tuple"∧o.data=.seq its n∧its.size≤sizeLine∧Vals xs its.toList
def absV:Value→Option V
  | .none=>some .non
  | .bool b=>some (.bl b)
  | .int i _=>some (.int i)
  | .str x _=>some (.str x)
  | .bytes b _=>some (.byt b)
  | .float b _=>some (.flt b)
  | .ref a=>some (.ref a)
  | .type n=>some (.ty n)
  | _=>none
theorem RelV.abs {x:V}{u:Value}(r:RelV x u):absV u=some x:=by
  cases x with
  | non=>cases r;rfl
  | bl _=>cases r;rfl
  | int _=>obtain ⟨t,rfl⟩:=r;rfl
  | str _=>obtain ⟨t,rfl⟩:=r;rfl
  | byt _=>obtain ⟨t,rfl⟩:=r;rfl
  | flt _=>obtain ⟨t,rfl⟩:=r;rfl
  | ref _=>cases r;rfl
  | ty _=>cases r;rfl
theorem RelV.inj {x y:V}{u:Value}(r:RelV x u)(q:RelV y u):x=y:=yad (r.abs.symm.trans q.abs)
theorem Vals.inj:∀{xs ys:List V} {us:List Value},Vals xs us→Vals ys us→xs=ys
  | _,_,_,.nil,.nil=>rfl
  | _,_,_,.cons r t,.cons r' t'=>by rw[r.inj r',Vals.inj t t']
section
variable {X:Cx}{pins:List (Addr×Obj)}{σ:St}{H:Hp}{s:Shared}{a:Addr}{xs ys:List V}
theorem SqL.of {K:Frag}(h:H a=some (.lst xs)):SqL K H a xs:=.inl (.inl h)
theorem SqT.of {K:Frag}(h:H a=some (.tup xs)):SqT K H a xs:=.inl (.inl h)
theorem Inv.list (I:Inv X pins σ H s)(h:SqL X.K H a xs):∃ its:List Value,Vals xs its∧PlainL s.heap a its.toArray∧xs.length≤sizeLine:=by
  rcases h with h | ⟨o,its,n,hk,hc,hd,hs,hz,r⟩
  · obtain ⟨z,its,n,r,e⟩:=h.ok I.hok
    exact ⟨its,r,⟨_,n,e,rfl,rfl,rfl⟩,z⟩
  · refine ⟨its.toList,r,⟨o,n,I.kIn a o hk,hc,hd,by simpa using hs⟩,?_⟩
    have e:=r.length;simp only[yar]at e;omega
theorem Inv.tuple (I:Inv X pins σ H s)(h:SqT X.K H a xs):∃ its:List Value,Vals xs its∧IsTup s.heap a its.toArray∧xs.length≤sizeLine:=by
  rcases h with h | ⟨o,its,n,hk,hc,hs,hz,r⟩
  · obtain ⟨z,its,r,p⟩:=h.ok I.hok
    exact ⟨its,r,p,z⟩
  · refine ⟨its.toList,r,⟨o,I.kIn a o hk,hc,n,by simpa using hs⟩,?_⟩
    have e:=r.length;simp only[yar]at e;omega
theorem Inv.list_inj (I:Inv X pins σ H s)(h:SqL X.K H a xs)(h':SqL X.K H a ys):xs=ys:=by
  obtain ⟨its,r,⟨o,n,e,_,_,d⟩,_⟩:=I.list h;obtain ⟨its',r',⟨o',n',e',_,_,d'⟩,_⟩:=I.list h';rw[e]at e';cases e'
  rw[d]at d';injection d' with d1 _;have:its=its':=by simpa using congrArg Array.toList d1
  subst this;exact r.inj r'
theorem Inv.tuple_inj (I:Inv X pins σ H s)(h:SqT X.K H a xs)(h':SqT X.K H a ys):xs=ys:=by
  obtain ⟨its,r,⟨o,e,_,n,d⟩,_⟩:=I.tuple h;obtain ⟨its',r',⟨o',e',_,n',d'⟩,_⟩:=I.tuple h';rw[e]at e';cases e'
  rw[d]at d';injection d' with d1 _;have:its=its':=by simpa using congrArg Array.toList d1
  subst this;exact r.inj r'
end
abbrev Cx.wish (X:Cx)(E:Value→Shared→Prop):Cx:={ X with xe:=E }
abbrev Cx.nox (X:Cx):Cx:=X.wish fun _ _=>False
theorem Cx.Ok.wish {X:Cx}(ok:X.Ok)(E:Value→Shared→Prop):(X.wish E).Ok:=
  ⟨ok.mod,ok.kind,ok.glob,ok.blt,ok.above,ok.inj,ok.has,ok.cab,ok.hd,ok.frames,ok.stk,ok.exf,ok.bs,ok.bsz,ok.noex,ok.exfs,ok.funs,ok.frf⟩
theorem Cx.Ok.unwish {X:Cx}{E:Value→Shared→Prop}(ok:(X.wish E).Ok):X.Ok:=
  ⟨ok.mod,ok.kind,ok.glob,ok.blt,ok.above,ok.inj,ok.has,ok.cab,ok.hd,ok.frames,ok.stk,ok.exf,ok.bs,ok.bsz,ok.noex,ok.exfs,ok.funs,ok.frf⟩
section
variable {X:Cx}{pins:List (Addr×Obj)}{σ:St}{H:Hp}{s:Shared}{E:Value→Shared→Prop}
theorem Inv.wish (I:Inv X pins σ H s)(E:Value→Shared→Prop):Inv (X.wish E) pins σ H s:=⟨I.ok.wish E,I.os,I.bare,I.base,I.loc,I.cell,I.free,I.freeC,I.pin,I.hok,I.len⟩
theorem Inv.unwish (I:Inv (X.wish E) pins σ H s):Inv X pins σ H s:=⟨I.ok.unwish,I.os,I.bare,I.base,I.loc,I.cell,I.free,I.freeC,I.pin,I.hok,I.len⟩
theorem SP.unwish {D:Ends}{f:Flow}{s':Shared}(h:SP (X.wish E) pins D f s'):SP X pins D f s':=by
  cases f with
  | next=>obtain ⟨σ',H',I,q⟩:=h;exact ⟨σ',H',I.unwish,q⟩
  | brk=>obtain ⟨σ',H',I,q⟩:=h;exact ⟨σ',H',I.unwish,q⟩
  | cont=>obtain ⟨σ',H',I,q⟩:=h;exact ⟨σ',H',I.unwish,q⟩
  | ret u=>obtain ⟨v,σ',H',I,r,q⟩:=h;exact ⟨v,σ',H',I.unwish,r,q⟩
theorem PSs.nox {st:List Stmt}{t:TS}(h:PSs X.nox st t):PSs X st t:=fun pins s σ H D I hw=>
  wpAny_mono (h pins s σ H D (I.wish _) hw) (fun _ _ q=>q.unwish) fun _ _ z=>False.elim z
end
section
variable {X:Cx}{st:Stmt}{rest:List Stmt}{t u:TS}{e:Expr}{te:TE}{pos:Pos}
def zst:TS:=fun D σ H=>D.nx σ H
def tSeq (t u:TS):TS:=fun D σ H=>t { D with nx:=u D } σ H
theorem zav:PSs X [] zst:=fun _ _ σ H _ I h=>wpAny_execs_nil ⟨σ,H,I,h⟩
theorem zai (h1:PS X st t)(h2:PSs X rest u):PSs X (st::rest) (tSeq t u):=by
  intro pins s σ H D I h;refine wpAny_execs_cons (thn (h1 pins s σ H { D with nx:=u D } I h) fun f s1 q=>?_);cases f with
  | next=>
    obtain ⟨σ',H',I',q⟩:=q;exact h2 pins s1 σ' H' D I' q
  | ret v=>exact q
  | brk=>exact q
  | cont=>exact q
theorem zae (h1:PS X st t):PSs X [st] t:=by
  intro pins s σ H D I h;refine wpAny_execs_cons (thn (h1 pins s σ H D I h) fun f s1 q=>?_);cases f with
  | next=>exact wpAny_execs_nil q
  | ret v=>exact q
  | brk=>exact q
  | cont=>exact q
theorem Inv.quiet {pins:List (Addr×Obj)}{σ:St}{H:Hp}{s:Shared}(I:Inv X pins σ H s):interactive X.env=false:=by simp[interactive,I.ok.kind]
def zsu (te:TE):TS:=fun D σ H=>te σ H fun _ H1=>D.nx σ H1
theorem zbp (he:PE X e te)(hs:swapsWith e none pos.line X.env=pure false:=by rfl):PS X (.Expr e pos) (zsu te):=by
  intro pins s σ H D I h;exact wpAny_Expr_any (thn (he pins s σ H _ I h) fun v s1 zq0=>(by obtain ⟨x,H1,I1,r1,q1⟩:=zq0;exact ⟨σ,H1,I1,q1⟩)) I.quiet hs
def tRet (te:TE):TS:=fun D σ H=>te σ H D.rt
theorem zas (he:PE X e te):PS X (.Return (some e) pos) (tRet te):=by
  intro pins s σ H D I h;exact wpAny_Return_some (thn (he pins s σ H _ I h) fun v s1 zq0=>(by obtain ⟨x,H1,I1,r1,q1⟩:=zq0;exact ⟨x,σ,H1,I1,r1,q1⟩))
def tIfS (c:TT)(t u:TS):TS:=fun D σ H=>c σ H fun b H1=>if b=true then t D σ H1 else u D σ H1
theorem zaP {c:Expr}{a b:List Stmt}{tc:TT}(hc:PT X c tc)(ha:PSs X a t)(hb:PSs X b u):PS X (.If c a b pos) (tIfS tc t u):=by
  intro pins s σ H D I h;refine wpAny_If (thn (hc pins s σ H _ I h) fun d s1 zq0=>?_);obtain ⟨H1,I1,q1⟩:=zq0;cases d with
  | true=>exact ha pins s1 σ H1 D I1 q1
  | false=>exact hb pins s1 σ H1 D I1 q1
def zqX:TS:=fun _ _ _=>False
theorem zba:PS X st zqX:=fun _ _ _ _ _ _ h=>h.elim
end
abbrev TG:=V→St→Hp→(St→Hp→Prop)→Prop
abbrev TGs:=List V→St→Hp→(St→Hp→Prop)→Prop
def PG (X:Cx)(target:Expr)(t:TG):Prop:=
  ∀(pins:List (Addr×Obj)) (s:Shared) (σ:St) (H:Hp) (v:V) (u:Value) (Q:St→Hp→Prop),Inv X pins σ H s→RelV v u→t v σ H Q→
    wpAny (model X.prog X.w) X.A (assign target X.env u) (fun _ s'=>∃ σ' H',Inv X pins σ' H' s'∧Q σ' H') X.xe s
def PGs (X:Cx)(ts:List Expr)(t:TGs):Prop:=
  ∀(pins:List (Addr×Obj)) (s:Shared) (σ:St) (H:Hp) (vs:List V) (us:List Value) (Q:St→Hp→Prop),Inv X pins σ H s→Vals vs us→t vs σ H Q→
    wpAny (model X.prog X.w) X.A (assignInOrder ((assignEach ts X.env).map (·.2)) us) (fun _ s'=>∃ σ' H',Inv X pins σ' H' s'∧Q σ' H') X.xe s
abbrev TSet:=V→V→V→Hp→(Hp→Prop)→Prop
def PSet (X:Cx)(t:TSet):Prop:=
  ∀(pins:List (Addr×Obj)) (s:Shared) (σ:St) (H:Hp) (o i v:V) (ov iv u:Value) (Q:Hp→Prop),Inv X pins σ H s→RelV o ov→RelV i iv→RelV v u→t o i v H Q→
    wpAny (model X.prog X.w) X.A (setItem ov iv u) (fun _ s'=>∃ H',Inv X pins σ H' s'∧Q H') X.xe s
section
variable {X:Cx}{pos:Pos}
def zkY (i:Nat):TG:=fun v σ H Q=>Q (σ.set i (some v)) H
theorem zay {i:Nat}{x:Str}(hN:X.N.Nodup)(hi:X.N[i]?=some x)(hx:Loc X.env.scope x)(hf:X.fn x=true∨X.env.scope.names.lookup x=some .local:=by first | exact .inl rfl | exact .inr rfl | assumption):PG X (.Name x pos) (zkY i):=by
  intro pins s σ H v u Q I r h;exact wpAny_assign_Name (zg2 I hN hi hx r (fun s' I'=>⟨_,H,I',h⟩) hf)
def gNil:TGs:=fun vs σ H Q=>vs=[]∧Q σ H
def zsK (t:TG)(u:TGs):TGs:=fun vs σ H Q=>∃ v r,vs=v::r∧t v σ H fun σ' H'=>u r σ' H' Q
theorem zhm:PGs X [] gNil:=by
  intro pins s σ H vs us Q I r h;obtain ⟨e,h⟩:=h;subst e;cases r
  exact assignInOrder_nil ⟨σ,H,I,h⟩
theorem zbM {e:Expr}{es:List Expr}{t:TG}{u:TGs}(h1:PG X e t)(h2:PGs X es u)
    (hs:(assignEach (e::es) X.env).map (·.2)=assign e X.env::(assignEach es X.env).map (·.2):=by rfl):PGs X (e::es) (zsK t u):=by
  intro pins s σ H vs us Q I r h;obtain ⟨v,vr,e1,h⟩:=h;subst e1;cases r with
  | cons r rr=>
    rw[hs];refine assignInOrder_cons (thn (h1 pins s σ H _ _ _ I r h) fun _ s1 zq0=>?_);obtain ⟨σ1,H1,I1,q1⟩:=zq0;exact h2 pins s1 σ1 H1 _ _ Q I1 rr q1
def gTup (K:Frag)(n:Nat)(t:TGs):TG:=fun v σ H Q=>∃ a xs,v=.ref a∧SqT K H a xs∧xs.length=n∧t xs σ H Q
theorem zjW {es:List Expr}{k:Nat}{t:TGs}{n:Nat}(hc:X.calm=true)(h:PGs X es t)
    (hn:(assignEach es X.env).length=n:=by rfl) (hst:(assignEach es X.env).findIdx? (·.1)=none:=by rfl):PG X (.Tuple es k pos) (gTup X.K n t):=by
  intro pins s σ H v u Q I r hw;obtain ⟨a,xs,e1,hq,hl,hw⟩:=hw;subst e1;cases r
  obtain ⟨its,rv,ht,hz⟩:=I.tuple hq;refine assign_Tuple_tuple (I.ok.hd hc) ht (by simp[hn,← hl,rv.length]) hst fun h' hx=>?_;have I1:Inv X pins σ H { s with heap:=h' }:=I.kept (t':=s.toks) fun b o e=>hx b o (yam (yae e)) e;exact h pins _ σ H xs _ Q I1 (by simpa using rv) hw
def gSub (to ti:TE)(t:TSet):TG:=fun v σ H Q=>to σ H fun o H1=>ti σ H1 fun i H2=>t o i v H2 fun H3=>Q σ H3
theorem zid {o i:Expr}{to ti:TE}{t:TSet}(ho:PE X o to)(hi:PE X i ti)(hs:PSet X t)
    (ha:∀ v,assign (.Subscript o i pos) X.env v=(do
      let ov ← holding [v] (eval o X.env)
      let iv ← holding [v,ov] (eval i X.env)
      standAt pos
      holding [v,ov,iv] (setItem ov iv v)
      release [v,ov,iv] []):=by intro _;rfl):PG X (.Subscript o i pos) (gSub to ti t):=by
  intro pins s σ H v u Q I r h;rw[ha];refine wpAny_bind (wpAny_holding (thn (ho pins s σ H _ I h) fun ov s1 zq0=>?_));obtain ⟨x,H1,I1,r1,q1⟩:=zq0;refine wpAny_bind (wpAny_holding (thn (hi pins s1 σ H1 _ I1 q1) fun iv s2 zq0=>?_));obtain ⟨y,H2,I2,r2,q2⟩:=zq0;refine wpAny_bind (wpAny_standAt (wpAny_bind (wpAny_holding (thn (hs pins s2 σ H2 x y v ov iv u _ I2 r1 r2 r q2) fun _ s3 zq0=>?_))));obtain ⟨H3,I3,q3⟩:=zq0;exact wpAny_release ⟨σ,H3,I3,q3⟩
def tAsg (te:TE)(g:TG):TS:=fun D σ H=>te σ H fun x H1=>g x σ H1 D.nx
theorem zfZ {tg e:Expr}{te:TE}{g:TG}(he:PE X e te)(hg:PG X tg g)(hs:swapsWithSole [tg] e pos.line X.env=pure false:=by rfl)(hw:swappedStores [tg] e X.env=pure none:=by rfl)
    (h1:(assignEach [tg] X.env).map (·.2)=[assign tg X.env]:=by rfl):PS X (.Assign [tg] e pos) (tAsg te g):=by
  intro pins s σ H D I h;refine wpAny_Assign_stores (thn (he pins s σ H _ I h) fun v s1 zq0=>?_) hs hw;obtain ⟨x,H1,I1,r1,q1⟩:=zq0;rw[h1];exact thn (hg pins s1 σ H1 x v _ I1 r1 q1) fun _ s2 q=>q
theorem zaq {i:Nat}{x:Str}{e:Expr}{te:TE}{pos':Pos}(hN:X.N.Nodup)(hi:X.N[i]?=some x)(hx:Loc X.env.scope x)(he:PE X e te)(hs:swapsWith e (some (.Name x pos')) pos.line X.env=pure false:=by rfl)(hf:X.fn x=true∨X.env.scope.names.lookup x=some .local:=by first | exact .inl rfl | exact .inr rfl | assumption) :
    PS X (.Assign [.Name x pos'] e pos) (tAsg te (zkY i)):=by
  intro pins s σ H D I h;refine wpAny_Assign_Name (thn (he pins s σ H _ I h) fun v s1 zq0=>?_) hs;obtain ⟨y,H1,I1,r1,q1⟩:=zq0;exact zg2 I1 hN hi hx r1 (fun s2 I2=>⟨_,H1,I2,q1⟩) hf
end
section
variable {X:Cx}{pos:Pos}
def zlv (c:TT)(tb:TS):TS:=fun D σ H=>∃ W:Nat→St→Hp→Prop,(∃ m,W m σ H)∧∀ m σ H,W m σ H→
  c σ H fun b H1=>if b=true then ∃ N:St→Hp→Prop,(∀ σ' H',N σ' H'→∃ m',m' < m∧W m' σ' H')∧tb { D with nx:=N,ct:=N,bk:=D.nx } σ H1 else D.nx σ H1
theorem zhj {c:Expr}{body:List Stmt}{tc:TT}{tb:TS}(hp:PassesOwn (model X.prog X.w) X.A X.env X.xe)(hc:PT X c tc)(hb:PSs X body tb):PS X (.While c body [] pos) (zlv tc tb):=by
  intro pins s σ H D I h;obtain ⟨W,⟨m0,w0⟩,turn⟩:=h;refine wpAny_While (codeAny_whileLoop (fun n s'=>∃ σ' H',Inv X pins σ' H' s'∧W n σ' H') ?_ m0 ⟨σ,H,I,w0⟩);rintro n s1 ⟨σ1,H1,I1,w1⟩;refine wpAny_passesOwn hp (thn (hc pins s1 σ1 H1 _ I1 (turn n σ1 H1 w1)) fun b s2 zq0=>?_);obtain ⟨H2,I2,q2⟩:=zq0;cases b with
  | true=>
    obtain ⟨N,hN,q2⟩:=q2;rw[if_pos rfl];refine wpAny_passesOwn hp (thn (hb pins s2 σ1 H2 _ I2 q2) fun f s3 q3=>?_);cases f with
    | next=>
      obtain ⟨σ3,H3,I3,n3⟩:=q3;obtain ⟨m',hm,w3⟩:=hN σ3 H3 n3;exact ⟨m',hm,σ3,H3,I3,w3⟩
    | cont=>
      obtain ⟨σ3,H3,I3,n3⟩:=q3;obtain ⟨m',hm,w3⟩:=hN σ3 H3 n3;exact ⟨m',hm,σ3,H3,I3,w3⟩
    | brk=>exact q3
    | ret v=>exact q3
  | false=>
    rw[if_neg yaC];exact wpAny_execs_nil ⟨σ1,H2,I2,q2⟩
end
structure It where
  go:Nat→Hp→Prop
  yld:Nat→Hp→V→Hp→Prop
  stop:Nat→Hp→Prop
def FpOk (X:Cx)(pins:List (Addr×Obj))(H:Hp)(b:Addr):Prop:=
  H b=none∧b≠X.env.locals∧b∉X.fs∧(b∈X.ex∨X.s₀.heap.objs.size≤b)∧(∀ x c,X.env.cells.lookup x=some c→c≠b)∧∀ p∈X.pn++pins,p.1≠b
theorem Inv.fpOk {X:Cx}{pins:List (Addr×Obj)}{σ:St}{H H':Hp}{s:Shared}{b:Addr}(I:Inv X pins σ H s)(hb:s.heap.objs.size≤b)(hn:H' b=none):FpOk X pins H' b:=by
  refine ⟨hn,ybi (yaz I.lt hb),I.nofs hb,.inr (yaB I.sz hb),fun x c e z=>?_,fun p hp z=>?_⟩
  · obtain ⟨v,q⟩:=I.cell x c e
    exact absurd (yaz q.lt (by rw[z];exact hb)) (ybh _)
  · exact absurd (yaz (yae (I.pin p hp).1) (by rw[z];exact hb)) (ybh _)
structure Turn (P:Program)(w:World)(K:Frag)(tg:Expr)(J:It)(fp:List Addr)(it:Addr)(tn:Nat→Heap→Prop):Prop where
  mem:it∈fp
  obj:∀ i h,tn i h→∀ b∈fp,∃ o,h.get? b=some o∧∀ v,o.data≠.cell v
  keep:∀ i h h',tn i h→(∀ b∈fp,∀ o,h.get? b=some o→h'.get? b=some o)→tn i h'
  item:∀(X:Cx),X.prog=P→X.w=w→X.K=K→X.calm=true→∀(i:Nat) (pins:List (Addr×Obj)) (s:Shared) (σ:St) (H:Hp) (E:Value→Shared→Prop),Inv X pins σ H s→(∀ b∈fp,FpOk X pins H b)→tn i s.heap→J.go i H→
    wpAny (model P w) X.A (pyNext (.ref it)) (fun r s1=>∃ u,r=some u∧
      wpAny (model P w) X.A (letOwnedTupleGo tg (.ref it) u) (fun _ s2=>∃ x H',Inv X pins σ H' s2∧RelV x u∧J.yld i H x H'∧tn (i+1) s2.heap∧∀ b∈fp,H' b=none) E s1) E s
  done:∀(X:Cx),X.prog=P→X.w=w→X.K=K→X.calm=true→∀(i:Nat) (pins:List (Addr×Obj)) (s:Shared) (σ:St) (H:Hp) (E:Value→Shared→Prop),Inv X pins σ H s→(∀ b∈fp,FpOk X pins H b)→tn i s.heap→J.stop i H→
    wpAny (model P w) X.A (pyNext (.ref it)) (fun r s1=>r=none∧Inv X pins σ H s1) E s
  self:∀(A:Around) (i:Nat) (s:Shared) (Q:Value→Shared→Prop) (E:Value→Shared→Prop),tn i s.heap→Q (.ref it) s→wpAny (model P w) A (pyIter (.ref it)) Q E s
abbrev TI:=St→Hp→(It→Hp→Prop)→Prop
def PIE (X:Cx)(pins:List (Addr×Obj))(σ:St)(tg:Expr)(R:It→Hp→Prop)(itv:Value)(s2:Shared):Prop:=
  ∃(it:Addr) (fp:List Addr) (tn:Nat→Heap→Prop) (J:It) (H':Hp),itv=.ref it∧Inv X pins σ H' s2∧Turn X.prog X.w X.K tg J fp it tn∧tn 0 s2.heap∧(∀ b∈fp,FpOk X pins H' b)∧R J H'
def PI (X:Cx)(tg iter:Expr)(wi:TI):Prop:=
  ∀(pins:List (Addr×Obj)) (s:Shared) (σ:St) (H:Hp) (R:It→Hp→Prop),Inv X pins σ H s→wi σ H R→
    wpAny (model X.prog X.w) X.A (eval iter X.env) (fun v s1=>wpAny (model X.prog X.w) X.A (pyIter v) (PIE X pins σ tg R) X.xe s1) X.xe s
theorem zow {M:Model}{A:Around}{E:Value→Shared→Prop}{s:Shared}{tg:Expr}{it:Addr}{u:Value}{o:Obj}{n:String}{vs:Array Value}{Q:Unit→Shared→Prop}(ho:s.heap.get? it=some o)(hc:o.cls=.type n)(hd:o.data=.fields vs)
    (hn:["enumerate","zip","dict_itemiterator","dict_reverseitemiterator","odict_iterator","itertools.zip_longest","itertools.pairwise"].contains n=false) (hQ:Q () s):wpAny M A (letOwnedTupleGo tg (.ref it) u) Q E s:=by
  unfold letOwnedTupleGo;cases tg <;> first
    | exact wpAny_pure hQ
    | (cases u <;> first
        | exact wpAny_pure hQ
        | (refine wpAny_bind (wpAny_load ho ?_)
           rw[hc,hd];show wpAny M A (if (["enumerate","zip","dict_itemiterator","dict_reverseitemiterator","odict_iterator","itertools.zip_longest","itertools.pairwise"].contains n && vs[0]? == some (rawInt _))=true then _ else _) Q E s
           rw[if_neg (by intro h;rw[hn,Bool.false_and]at h;cases h)]
           exact wpAny_pure hQ))
def Itl (K:Frag)(a:Addr):It:=
  ⟨fun i H=>∃ xs x,SqL K H a xs∧xs[i]?=some x,fun i H x H'=>H'=H∧∀ xs,SqL K H a xs→xs[i]?=some x,fun i H=>∃ xs,SqL K H a xs∧xs.length≤i⟩
def Itt (K:Frag)(a:Addr):It:=
  ⟨fun i H=>∃ xs x,SqT K H a xs∧xs[i]?=some x,fun i H x H'=>H'=H∧∀ xs,SqT K H a xs→xs[i]?=some x,fun i H=>∃ xs,SqT K H a xs∧xs.length≤i⟩
def Itr (lo:Int)(n:Nat):It:=⟨fun i _=>i < n,fun i H x H'=>H'=H∧x=.int (lo+i),fun i _=>n≤i⟩
theorem zhR {P:Program}{w:World}{K:Frag}{tg:Expr}(a it:Addr):Turn P w K tg (Itl K a) [it] it (fun i h=>h.IsListIter it a i) where
  mem:=by simp
  obj:=fun i h st b hb=>by
    have e:b=it:=by simpa using hb
    subst e;obtain ⟨o,e,c,d⟩:=st;exact ⟨o,e,fun v z=>by rw[d]at z;cases z⟩
  keep:=fun i h h' st k=>st.at fun o e=>k it (by simp) o e
  item:=by
    intro X hP hw hK hc i pins s σ H E I hf st hg;subst hP hw hK;obtain ⟨xs,x,hq,hx⟩:=hg;obtain ⟨its,rv,p,hz⟩:=I.list hq;obtain ⟨u,hu,ru⟩:=rv.get hx;obtain ⟨f0,f1,f2,f3,f4,f5⟩:=hf it (by simp);refine wpAny_pyNext_list_item st p.isList (x:=u) (by simpa using hu) fun h' st' sb=>?_;have I1:Inv X pins σ H { s with heap:=h' }:=I.turned (t':=s.toks) (fun b o hb e=>(sb.2 b hb).trans e) f0 f1 f3 f4 f5;obtain ⟨o,e,c,d⟩:=id st';exact ⟨u,rfl,zow (s:={ s with heap:=h' }) e c d (by decide) ⟨x,H,I1,ru,⟨rfl,fun ys hy=>by rw[I.list_inj hy hq];exact hx⟩,st',fun b hb=>(hf b hb).1⟩⟩
  done:=by
    intro X hP hw hK hc i pins s σ H E I hf st hg;subst hP hw hK;obtain ⟨xs,hq,hx⟩:=hg;obtain ⟨its,rv,p,hz⟩:=I.list hq;obtain ⟨f0,f1,f2,f3,f4,f5⟩:=hf it (by simp);have hl:=rv.length;exact wpAny_pyNext_list_end (I.ok.hd hc) st p.isList (by simp;omega) fun h' eb=>⟨rfl,I.turned (t':=s.toks) (fun b o hb e=>eb b o hb e) f0 f1 f3 f4 f5⟩
  self:=fun _ _ _ _ _ st h=>wpAny_pyIter_listiter st h
theorem zgB {P:Program}{w:World}{K:Frag}{tg:Expr}(a it:Addr):Turn P w K tg (Itt K a) [it] it (fun i h=>h.IsTupleIter it a i) where
  mem:=by simp
  obj:=fun i h st b hb=>by
    have e:b=it:=by simpa using hb
    subst e;obtain ⟨o,e,c,d⟩:=st;exact ⟨o,e,fun v z=>by rw[d]at z;cases z⟩
  keep:=fun i h h' st k=>st.at fun o e=>k it (by simp) o e
  item:=by
    intro X hP hw hK hc i pins s σ H E I hf st hg;subst hP hw hK;obtain ⟨xs,x,hq,hx⟩:=hg;obtain ⟨its,rv,p,hz⟩:=I.tuple hq;obtain ⟨u,hu,ru⟩:=rv.get hx;obtain ⟨f0,f1,f2,f3,f4,f5⟩:=hf it (by simp);refine wpAny_pyNext_tuple_item st (show s.heap.IsTuple a its.toArray from p) (x:=u) (by simpa using hu) fun h' st' sb=>?_;have I1:Inv X pins σ H { s with heap:=h' }:=I.turned (t':=s.toks) (fun b o hb e=>(sb.2 b hb).trans e) f0 f1 f3 f4 f5;obtain ⟨o,e,c,d⟩:=id st';exact ⟨u,rfl,zow (s:={ s with heap:=h' }) e c d (by decide) ⟨x,H,I1,ru,⟨rfl,fun ys hy=>by rw[I.tuple_inj hy hq];exact hx⟩,st',fun b hb=>(hf b hb).1⟩⟩
  done:=by
    intro X hP hw hK hc i pins s σ H E I hf st hg;subst hP hw hK;obtain ⟨xs,hq,hx⟩:=hg;obtain ⟨its,rv,p,hz⟩:=I.tuple hq;obtain ⟨f0,f1,f2,f3,f4,f5⟩:=hf it (by simp);have hl:=rv.length;exact wpAny_pyNext_tuple_end (I.ok.hd hc) st (show s.heap.IsTuple a its.toArray from p) (by simp;omega) fun h' eb=>⟨rfl,I.turned (t':=s.toks) (fun b o hb e=>eb b o hb e) f0 f1 f3 f4 f5⟩
  self:=fun _ _ _ _ _ st h=>wpAny_pyIter_tupleiter st h
theorem zkv {P:Program}{w:World}{K:Frag}{tg:Expr}(it:Addr)(lo:Int)(n:Nat):Turn P w K tg (Itr lo n) [it] it (fun i h=>IsRangeIter h it (lo+(i:Nat) * 1) ((n:Int) - (i:Nat)) 1) where
  mem:=by simp
  obj:=fun i h st b hb=>by
    have e:b=it:=by simpa using hb
    subst e;exact ⟨_,st,fun v z=>by
      have z':Data.fields _=Data.cell v:=z;cases z'⟩
  keep:=fun i h h' st k=>k it (by simp) _ st
  item:=by
    intro X hP hw hK hc i pins s σ H E I hf st hg;subst hP hw hK;obtain ⟨f0,f1,f2,f3,f4,f5⟩:=hf it (by simp);have W:=Walks.range (prog:=X.prog) (w:=X.w) (I.ok.hd hc) it lo 1 n;refine W.item i s _ _ hg st fun v h' tk hv st' kk=>?_;obtain ⟨t,rfl⟩:=hv;have I1:Inv X pins σ H { s with heap:=h',toks:=tk }:=I.turned (fun b o hb e=>kk b o (by simpa using hb) e) f0 f1 f3 f4 f5;refine ⟨_,rfl,zow (s:={ s with heap:=h',toks:=tk }) (n := "range_iterator") st' rfl rfl (by decide) ⟨.int (lo+i),H,I1,⟨t,?_⟩,⟨rfl,rfl⟩,st',fun b hb=>(hf b hb).1⟩⟩;rw[Int.mul_one]
  done:=by
    intro X hP hw hK hc i pins s σ H E I hf st hg;subst hP hw hK;obtain ⟨f0,f1,f2,f3,f4,f5⟩:=hf it (by simp);exact wpAny_pyNext_range_end (I.ok.hd hc) st (by have:n≤i:=hg;omega) fun h' eb=>⟨rfl,I.turned (t':=s.toks) (fun b o hb e=>eb b o hb e) f0 f1 f3 f4 f5⟩
  self:=fun _ _ _ _ _ st h=>wpAny_pyIter_rangeiter st h
end L2
namespace L2
open PySem PySem.Spec PyProof.Rows
section
variable {X:Cx}{tg:Expr}
def zsH (K:Frag)(tl:TE):TI:=fun σ H R=>tl σ H fun x H1=>∃ a,x=.ref a∧(∃ xs,SqL K H1 a xs)∧R (Itl K a) H1
def iTup (K:Frag)(tl:TE):TI:=fun σ H R=>tl σ H fun x H1=>∃ a,x=.ref a∧(∃ xs,SqT K H1 a xs)∧R (Itt K a) H1
theorem zd6 {l:Expr}{tl:TE}(hl:PE X l tl):PI X tg l (zsH X.K tl):=by
  intro pins s σ H R I h;refine thn (hl pins s σ H _ I h) fun v s1 zq0=>?_;obtain ⟨x,H1,I1,r1,q1⟩:=zq0;obtain ⟨a,e,⟨xs,hq⟩,q⟩:=q1;subst e;cases r1
  obtain ⟨its,rv,p,hz⟩:=I1.list hq;refine wpAny_pyIter_list p.isList ?_;refine ⟨s1.heap.objs.size,[s1.heap.objs.size],_,_,H1,rfl,I1.kept (t':=s1.toks) fun b o e=>yai _ e,zhR a _,⟨_,yaD _ rfl,rfl,rfl⟩,fun b hb=>?_,q⟩;have e:b=s1.heap.objs.size:=by simpa using hb
  subst e;exact I1.fpOk (yaa _) (I1.hok.fresh (yaa _))
theorem zf0 {l:Expr}{tl:TE}(hl:PE X l tl):PI X tg l (iTup X.K tl):=by
  intro pins s σ H R I h;refine thn (hl pins s σ H _ I h) fun v s1 zq0=>?_;obtain ⟨x,H1,I1,r1,q1⟩:=zq0;obtain ⟨a,e,⟨xs,hq⟩,q⟩:=q1;subst e;cases r1
  obtain ⟨its,rv,p,hz⟩:=I1.tuple hq;refine wpAny_pyIter_tuple (show s1.heap.IsTuple a its.toArray from p) ?_;refine ⟨s1.heap.objs.size,[s1.heap.objs.size],_,_,H1,rfl,I1.kept (t':=s1.toks) fun b o e=>yai _ e,zgB a _,⟨_,yaD _ rfl,rfl,rfl⟩,fun b hb=>?_,q⟩;have e:b=s1.heap.objs.size:=by simpa using hb
  subst e;exact I1.fpOk (yaa _) (I1.hok.fresh (yaa _))
theorem zjT {pins:List (Addr×Obj)}{σ:St}{H:Hp}{s:Shared}{R:It→Hp→Prop}{E:Value→Shared→Prop}{lo hi:Int}{t u v:Tok}{tk:Nat}(I:Inv X pins σ H s)(h1:-(2 ^ 62)≤lo)(h2:lo < 2 ^ 62)(h3:-(2 ^ 62)≤hi)(h4:hi < 2 ^ 62)
    (q:R (Itr lo (hi - lo).toNat) H):wpAny (model X.prog X.w) X.A (pyIter (.ref s.heap.objs.size)) (PIE X pins σ tg R) E { s with heap:=s.heap.push { cls:=.type "range",data:=.fields #[.int lo t,.int hi u,.int 1 v] },toks:=tk }:=by
  refine wpAny_pyIter_range (IsRange.new ..) (small_one h1 h2 h3 h4) ?_;have I1:Inv X pins σ H { s with heap:=s.heap.push { cls:=.type "range",data:=.fields #[.int lo t,.int hi u,.int 1 v] },toks:=tk }:=I.kept fun b o e=>yai _ e;refine ⟨(s.heap.push { cls:=.type "range",data:=.fields #[.int lo t,.int hi u,.int 1 v] }).objs.size,[(s.heap.push { cls:=.type "range",data:=.fields #[.int lo t,.int hi u,.int 1 v] }).objs.size],_,_,H,rfl,
    I1.kept (t':=tk) fun b o e=>yai _ e,zkv _ lo (hi - lo).toNat,?_,fun b hb=>?_,q⟩
  · have e1:lo+((0:Nat):Int) * 1=lo:=by simp
    have e2:(((hi - lo).toNat:Nat):Int) - ((0:Nat):Int)=Builtin.Range.rangeSize lo hi 1:=by rw[rangeSize_one];split <;> omega
    show IsRangeIter _ _ (lo+((0:Nat):Int) * 1) ((((hi - lo).toNat:Nat):Int) - ((0:Nat):Int)) 1;rw[e1,e2];exact yaD _ rfl
  · have e:b=(s.heap.push { cls:=.type "range",data:=.fields #[.int lo t,.int hi u,.int 1 v] }).objs.size:=by simpa using hb
    subst e;exact I1.fpOk (yaa _) (I1.hok.fresh (yaa _))
def zsG (ta:TA):TI:=fun σ H R=>ta σ H fun vs H1=>∃ j:Int,vs=[.int j]∧-(2 ^ 62)≤j∧j < 2 ^ 62∧R (Itr 0 j.toNat) H1
def zsF (ta:TA):TI:=fun σ H R=>ta σ H fun vs H1=>∃ i j:Int,vs=[.int i,.int j]∧(-(2 ^ 62)≤i∧i < 2 ^ 62∧-(2 ^ 62)≤j∧j < 2 ^ 62)∧R (Itr i (j - i).toNat) H1
theorem zbs {a:Expr}{ta:TA}{p pos:Pos}(hg:Gl X "range")(hm:X.mg "range" = none)(ha:PA X [a] ta)(hs:starEach [a] X.env=[(false,eval a X.env)]:=by rfl):PI X tg (.Call (.Name "range" p) [a] [] pos) (zsG ta):=by
  intro pins s σ H R I h;refine Call_ (zfe I hg hm boot_range (PyProof.Rows.callWith_type1 (thn (ha pos pins s σ H _ I h) fun us s1 zq0=>?_) hs rfl));obtain ⟨vs,H1,I1,r1,q1⟩:=zq0;obtain ⟨j,e,q1,q2,q⟩:=q1;subst e;cases r1 with
  | cons r rr=>
    cases rr
    obtain ⟨t,rfl⟩:=r;exact call_range_1 (zjT I1 (by omega) (by omega) q1 q2 (by simpa using q))
theorem zew {a b:Expr}{ta:TA}{p pos:Pos}(hg:Gl X "range")(hm:X.mg "range" = none)(ha:PA X [a,b] ta)(hs:starEach [a,b] X.env=[(false,eval a X.env),(false,eval b X.env)]:=by rfl)(hs2:starEach [b] X.env=[(false,eval b X.env)]:=by rfl) :
    PI X tg (.Call (.Name "range" p) [a,b] [] pos) (zsF ta):=by
  intro pins s σ H R I h;refine Call_ (zfe I hg hm boot_range (PyProof.Rows.callWith_type1 (thn (ha pos pins s σ H _ I h) fun us s1 zq0=>?_) (by rw[hs,hs2]) (by rw[hs2];rfl)));obtain ⟨vs,H1,I1,r1,q1⟩:=zq0;obtain ⟨i,j,e,⟨q1,q2,q3,q4⟩,q⟩:=q1;subst e;cases r1 with
  | cons r rr=>
    cases rr with
    | cons r' rr=>
      cases rr
      obtain ⟨t,rfl⟩:=r;obtain ⟨t',rfl⟩:=r';exact call_range_2 (zjT I1 q1 q2 q3 q4 q)
def tFor (wi:TI)(g:TG)(tb:TS):TS:=fun D σ H=>wi σ H fun J H1=>∃ W:Nat→Nat→St→Hp→Prop,(∃ m,W 0 m σ H1)∧∀ i m σ H,W i m σ H→
  (J.stop i H∧D.nx σ H)∨(J.go i H∧∃ N:St→Hp→Prop,(∀ σ' H',N σ' H'→∃ m',m' < m∧W (i+1) m' σ' H')∧∀ x H',J.yld i H x H'→g x σ H' fun σ2 H2=>tb { D with nx:=N,ct:=N,bk:=D.nx } σ2 H2)
def zib (fp:List Addr)(h:Heap):List (Addr×Obj):=fp.filterMap fun b=>(h.get? b).map fun o=>(b,o)
theorem zdP {fp:List Addr}{h:Heap}{b:Addr}{o:Obj}(hb:b∈fp)(e:h.get? b=some o):(b,o)∈zib fp h:=List.mem_filterMap.mpr ⟨b,hb,by rw[e];rfl⟩
theorem zmi {fp:List Addr}{h:Heap}{p:Addr×Obj}(hp:p∈zib fp h):p.1∈fp∧h.get? p.1=some p.2:=by
  obtain ⟨b,hb,e⟩:=List.mem_filterMap.mp hp;cases q:h.get? b with
  | none=>rw[q]at e;cases e
  | some o=>
    rw[q]at e;have e':(b,o)=p:=yad e;subst e';exact ⟨hb,q⟩
theorem Inv.pinned {pins:List (Addr×Obj)}{σ:St}{H:Hp}{s:Shared}{fp:List Addr}(I:Inv X pins σ H s)(hf:∀ b∈fp,FpOk X pins H b)(ho:∀ b∈fp,∃ o,s.heap.get? b=some o∧∀ v,o.data≠.cell v):Inv X (pins++zib fp s.heap) σ H s:=
  I.pins_of fun p hp=>(yak.mp hp).elim (fun z=>I.pin p (yaE _ z)) fun z=>by
    obtain ⟨hb,e⟩:=zmi z;obtain ⟨f0,f1,f2,_⟩:=hf p.1 hb;obtain ⟨o,e',d⟩:=ho p.1 hb;rw[e]at e';cases e'
    exact ⟨e,f0,f1,f2,d⟩
theorem Inv.unpinned {pins pl:List (Addr×Obj)}{σ:St}{H:Hp}{s:Shared}(I:Inv X (pins++pl) σ H s):Inv X pins σ H s:=I.pins_of fun p hp=>I.pin p (yaE _ (yaV _ hp))
theorem zb1 {iter:Expr}{body:List Stmt}{wi:TI}{g:TG}{tb:TS}{pos:Pos}(hp:PassesOwn (model X.prog X.w) X.A X.env X.xe)(hc:X.calm=true)(hi:PI X tg iter wi)(hg:PG X tg g)(hb:PSs X body tb)
    (hs:∀ x,foldedSetIterable iter X.env x=pure x:=by intro _;rfl):PS X (.For tg iter body [] pos) (tFor wi g tb):=by
  intro pins s σ H D I h;refine wpAny_For (thn (hi pins s σ H _ I h) fun v s1 h1=>thn h1 fun itv s2 h2=>?_) hs;obtain ⟨it,fp,tn,J,H2,e,I2,T,st2,f2,W,⟨m0,w0⟩,turn⟩:=h2;subst e;have stat:∀{H':Hp},(∀ b∈fp,H' b=none)→∀ b∈fp,FpOk X pins H' b:=fun hn b hb=>⟨hn b hb,(f2 b hb).2⟩;refine codeAny_forLoop_any (fun n s'=>∃ i σ' H',Inv X pins σ' H' s'∧tn i s'.heap∧(∀ b∈fp,H' b=none)∧W i n σ' H') ?_ m0 ⟨0,σ,H2,I2,st2,fun b hb=>(f2 b hb).1,w0⟩;rintro n s3 ⟨i,σ3,H3,I3,st3,fr3,w3⟩;rcases turn i n σ3 H3 w3 with ⟨stop,qn⟩ | ⟨go,N,hN,step⟩
  · refine wpAny_passesOwn hp (thn (T.done X rfl rfl rfl hc i pins s3 σ3 H3 X.xe I3 (stat fr3) st3 stop) fun r s4 zq0=>?_)
    obtain ⟨hr,I4⟩:=zq0;subst hr;exact wpAny_execs_nil ⟨σ3,H3,I4,qn⟩
  · refine wpAny_passesOwn hp (thn (T.item X rfl rfl rfl hc i pins s3 σ3 H3 X.xe I3 (stat fr3) st3 go) fun r s4 zq0=>?_)
    obtain ⟨u,hr,h4⟩:=zq0;subst hr;refine wpAny_passesOwn hp (thn h4 fun _ s5 zq0=>?_);obtain ⟨x,H5,I5,r5,y5,st5,fr5⟩:=zq0;have I5':=I5.pinned (stat fr5) (T.obj _ _ st5);refine wpAny_passesOwn hp (thn (hg _ s5 σ3 H5 x u _ I5' r5 (step x H5 y5)) fun _ s6 zq0=>?_);obtain ⟨σ6,H6,I6,q6⟩:=zq0;refine wpAny_passesOwn hp (thn (hb _ s6 σ6 H6 _ I6 q6) fun f s7 q7=>?_);have again:∀{σ7:St} {H7:Hp},Inv X (pins++zib fp s5.heap) σ7 H7 s7→N σ7 H7→∃ m,m < n∧∃ i σ' H',Inv X pins σ' H' s7∧tn i s7.heap∧(∀ b∈fp,H' b=none)∧W i m σ' H':=fun {σ7 H7} I7 n7=>by
      obtain ⟨m',hm,w7⟩:=hN σ7 H7 n7;refine ⟨m',hm,i+1,σ7,H7,I7.unpinned,T.keep _ _ _ st5 fun b hb o e=>(I7.pin (b,o) (yaE _ (yaE _ (zdP hb e)))).1,fun b hb=>?_,w7⟩;obtain ⟨o,e,d⟩:=T.obj _ _ st5 b hb;exact (I7.pin (b,o) (yaE _ (yaE _ (zdP hb e)))).2.1
    cases f with
    | next=>obtain ⟨σ7,H7,I7,n7⟩:=q7;exact again I7 n7
    | cont=>obtain ⟨σ7,H7,I7,n7⟩:=q7;exact again I7 n7
    | brk=>obtain ⟨σ7,H7,I7,q7⟩:=q7;exact ⟨σ7,H7,I7.unpinned,q7⟩
    | ret v=>obtain ⟨x7,σ7,H7,I7,r7,q7⟩:=q7;exact ⟨x7,σ7,H7,I7.unpinned,r7,q7⟩
end
theorem zkh {K:Frag}{a:Addr}{xs:List V}{g:TG}{tb:TS}{D:Ends}{σ:St}{H:Hp}(Pv:Nat→St→Hp→Prop)(h0:Pv 0 σ H)(hl:∀ i σ H,i≤xs.length→Pv i σ H→SqL K H a xs)
    (hs:∀ i x σ H,xs[i]?=some x→Pv i σ H→g x σ H fun σ2 H2=>tb { D with nx:=Pv (i+1),ct:=Pv (i+1),bk:=D.nx } σ2 H2) (hd:∀ σ H,Pv xs.length σ H→D.nx σ H) :
    ∃ W:Nat→Nat→St→Hp→Prop,(∃ m,W 0 m σ H)∧∀ i m σ H,W i m σ H→
      ((Itl K a).stop i H∧D.nx σ H)∨((Itl K a).go i H∧∃ N:St→Hp→Prop,(∀ σ' H',N σ' H'→∃ m',m' < m∧W (i+1) m' σ' H')∧∀ x H',(Itl K a).yld i H x H'→g x σ H' fun σ2 H2=>tb { D with nx:=N,ct:=N,bk:=D.nx } σ2 H2):=by
  refine ⟨fun i m σ H=>m=xs.length - i∧i≤xs.length∧Pv i σ H,⟨xs.length,by simp,yaH _,h0⟩,?_⟩;rintro i m σ H ⟨rfl,hi,p⟩;have q:=hl i σ H hi p;by_cases hlt:i < xs.length
  · refine .inr ⟨⟨xs,xs[i],q,by simp[hlt]⟩,Pv (i+1),fun σ' H' p'=>⟨xs.length - (i+1),by omega,rfl,hlt,p'⟩,fun x H' y=>?_⟩
    obtain ⟨e,y⟩:=y;subst e;exact hs i x σ _ (y xs q) p
  · have e:i=xs.length:=by omega
    subst e;exact .inl ⟨⟨xs,q,yaa _⟩,hd σ H p⟩
theorem zjd {K:Frag}{a:Addr}{xs:List V}{g:TG}{tb:TS}{D:Ends}{σ:St}{H:Hp}(Pv:Nat→St→Hp→Prop)(h0:Pv 0 σ H)(hl:∀ i σ H,i≤xs.length→Pv i σ H→SqT K H a xs)
    (hs:∀ i x σ H,xs[i]?=some x→Pv i σ H→g x σ H fun σ2 H2=>tb { D with nx:=Pv (i+1),ct:=Pv (i+1),bk:=D.nx } σ2 H2) (hd:∀ σ H,Pv xs.length σ H→D.nx σ H) :
    ∃ W:Nat→Nat→St→Hp→Prop,(∃ m,W 0 m σ H)∧∀ i m σ H,W i m σ H→
      ((Itt K a).stop i H∧D.nx σ H)∨((Itt K a).go i H∧∃ N:St→Hp→Prop,(∀ σ' H',N σ' H'→∃ m',m' < m∧W (i+1) m' σ' H')∧∀ x H',(Itt K a).yld i H x H'→g x σ H' fun σ2 H2=>tb { D with nx:=N,ct:=N,bk:=D.nx } σ2 H2):=by
  refine ⟨fun i m σ H=>m=xs.length - i∧i≤xs.length∧Pv i σ H,⟨xs.length,by simp,yaH _,h0⟩,?_⟩;rintro i m σ H ⟨rfl,hi,p⟩;have q:=hl i σ H hi p;by_cases hlt:i < xs.length
  · refine .inr ⟨⟨xs,xs[i],q,by simp[hlt]⟩,Pv (i+1),fun σ' H' p'=>⟨xs.length - (i+1),by omega,rfl,hlt,p'⟩,fun x H' y=>?_⟩
    obtain ⟨e,y⟩:=y;subst e;exact hs i x σ _ (y xs q) p
  · have e:i=xs.length:=by omega
    subst e;exact .inl ⟨⟨xs,q,yaa _⟩,hd σ H p⟩
theorem zbv {lo:Int}{n:Nat}{g:TG}{tb:TS}{D:Ends}{σ:St}{H:Hp}(Pv:Nat→St→Hp→Prop)(h0:Pv 0 σ H)
    (hs:∀ i σ H,i < n→Pv i σ H→g (.int (lo+i)) σ H fun σ2 H2=>tb { D with nx:=Pv (i+1),ct:=Pv (i+1),bk:=D.nx } σ2 H2) (hd:∀ σ H,Pv n σ H→D.nx σ H) :
    ∃ W:Nat→Nat→St→Hp→Prop,(∃ m,W 0 m σ H)∧∀ i m σ H,W i m σ H→
      ((Itr lo n).stop i H∧D.nx σ H)∨((Itr lo n).go i H∧∃ N:St→Hp→Prop,(∀ σ' H',N σ' H'→∃ m',m' < m∧W (i+1) m' σ' H')∧∀ x H',(Itr lo n).yld i H x H'→g x σ H' fun σ2 H2=>tb { D with nx:=N,ct:=N,bk:=D.nx } σ2 H2):=by
  refine ⟨fun i m σ H=>m=n - i∧i≤n∧Pv i σ H,⟨n,by simp,yaH _,h0⟩,?_⟩;rintro i m σ H ⟨rfl,hi,p⟩;by_cases hlt:i < n
  · refine .inr ⟨hlt,Pv (i+1),fun σ' H' p'=>⟨n - (i+1),by omega,rfl,hlt,p'⟩,fun x H' y=>?_⟩
    obtain ⟨e,y⟩:=y;subst e y;exact hs i σ _ hlt p
  · have e:i=n:=by omega
    subst e;exact .inl ⟨yaa _,hd σ H p⟩
theorem znn {c:TT}{tb:TS}{D:Ends}{σ:St}{H:Hp}(Pv:St→Hp→Prop)(μ:St→Hp→Nat)(h0:Pv σ H)
    (hs:∀ σ H,Pv σ H→c σ H fun b H1=>if b=true then tb { D with nx:=fun σ' H'=>Pv σ' H'∧μ σ' H' < μ σ H,ct:=fun σ' H'=>Pv σ' H'∧μ σ' H' < μ σ H,bk:=D.nx } σ H1 else D.nx σ H1)
    (mono:∀ σ H Q Q',(∀ b H1,Q b H1→Q' b H1)→c σ H Q→c σ H Q'):zlv c tb D σ H:=by
  refine ⟨fun m σ H=>m=μ σ H∧Pv σ H,⟨_,rfl,h0⟩,?_⟩;rintro m σ H ⟨rfl,p⟩;refine mono σ H _ _ (fun b H1 q=>?_) (hs σ H p);cases b with
  | true=>exact ⟨_,fun σ' H' ⟨p',l⟩=>⟨_,l,rfl,p'⟩,q⟩
  | false=>exact q
end L2
namespace L2
open PySem PySem.Spec PyProof.Rows
abbrev R2:=V→V→Hp→VK→Prop
def OpR (X:Cx)(f:Value→Value→Sem Value)(r:R2):Prop:=
  ∀(pins:List (Addr×Obj)) (s:Shared) (σ:St) (H:Hp) (x y:V) (v u:Value) (Q:VK),Inv X pins σ H s→RelV x v→RelV y u→r x y H Q→
    wpAny (model X.prog X.w) X.A (f v u) (EP X pins σ Q) X.xe s
def UnR (X:Cx)(f:Value→Sem Value)(r:V→Hp→VK→Prop):Prop:=
  ∀(pins:List (Addr×Obj)) (s:Shared) (σ:St) (H:Hp) (x:V) (v:Value) (Q:VK),Inv X pins σ H s→RelV x v→r x H Q→
    wpAny (model X.prog X.w) X.A (f v) (EP X pins σ Q) X.xe s
def zdj (X:Cx)(f:Value)(r:List V→Hp→VK→Prop):Prop:=
  ∀(pins:List (Addr×Obj)) (s:Shared) (σ:St) (H:Hp) (xs:List V) (us:List Value) (Q:VK),Inv X pins σ H s→Vals xs us→r xs H Q→
    wpAny (model X.prog X.w) X.A (call f us) (EP X pins σ Q) X.xe s
def tOp (r:R2)(ta tb:TE):TE:=fun σ H Q=>ta σ H fun x H1=>tb σ H1 fun y H2=>r x y H2 Q
def tUn (r:V→Hp→VK→Prop)(ta:TE):TE:=fun σ H Q=>ta σ H fun x H1=>r x H1 Q
def rI (C:Int→Int→Prop)(g:Int→Int→V):R2:=fun x y H Q=>∃ i j,x=.int i∧y=.int j∧C i j∧Q (g i j) H
def rI0 (g:Int→Int→V):R2:=fun x y H Q=>∃ i j,x=.int i∧y=.int j∧Q (g i j) H
def rU (g:Int→V):V→Hp→VK→Prop:=fun x H Q=>∃ i,x=.int i∧Q (g i) H
section
variable {X:Cx}{a b c:Expr}{ta tb tc:TE}{pos:Pos}
theorem binT (ha:PE X a ta)(hb:PE X b tb){pins:List (Addr×Obj)}{s:Shared}{σ:St}{H:Hp}{R:V→V→Hp→Prop}(I:Inv X pins σ H s)
    (h:ta σ H fun x H1=>tb σ H1 fun y H2=>R x y H2) {Q:Value→Shared→Prop} {f:Value→Value→Sem Value}
    (hf:∀ v u s2 x y H2,Inv X pins σ H2 s2→RelV x v→RelV y u→R x y H2→wpAny (model X.prog X.w) X.A (f v u) Q X.xe s2) :
    wpAny (model X.prog X.w) X.A (eval a X.env) (fun v s₁=>wpAny (model X.prog X.w) X.A (eval b X.env) (fun u s₂=>wpAny (model X.prog X.w) X.A (f v u) Q X.xe s₂) X.xe s₁) X.xe s:=by
  refine thn (ha pins s σ H _ I h) fun v s1 zq0=>?_;obtain ⟨x,H1,I1,r1,q1⟩:=zq0;refine thn (hb pins s1 σ H1 _ I1 q1) fun u s2 zq0=>?_;obtain ⟨y,H2,I2,r2,q2⟩:=zq0;exact hf v u s2 x y H2 I2 r1 r2 q2
theorem zax {op:Operator}{r:R2}(ho:OpR X (binaryOp op) r)(ha:PE X a ta)(hb:PE X b tb):PE X (.BinOp a op b pos) (tOp r ta tb):=by
  intro pins s σ H Q I h;exact wpAny_BinOp (binT ha hb I h fun v u s2 x y H2 I2 rx ry q=>ho pins s2 σ H2 x y v u Q I2 rx ry q)
theorem znM {op:UnaryOp}{r:V→Hp→VK→Prop}(ho:UnR X (unaryOp op) r)(ha:PE X a ta):PE X (.UnaryOp op a pos) (tUn r ta):=by
  intro pins s σ H Q I h;exact UnaryOp_ (thn (ha pins s σ H _ I h) fun v s1 zq0=>(by obtain ⟨x,H1,I1,r1,q1⟩:=zq0;exact ho pins s1 σ H1 x v Q I1 r1 q1))
theorem opI {f:Value→Value→Sem Value}{C:Int→Int→Prop}{g:Int→Int→Int}
    (rule:∀(i j:Int) (t u:Tok) (s:Shared) (Q:Value→Shared→Prop) (E:Value→Shared→Prop),C i j→Q (.int (g i j) s.toks) { s with toks:=s.toks+1 }→wpAny (model X.prog X.w) X.A (f (.int i t) (.int j u)) Q E s) :
    OpR X f (rI C fun i j=>.int (g i j)):=by
  intro pins s σ H x y v u Q I rx ry h;obtain ⟨i,j,rfl,rfl,hc,q⟩:=h;obtain ⟨t,rfl⟩:=rx;obtain ⟨t',rfl⟩:=ry;exact rule i j t t' s _ _ hc ⟨.int (g i j),H,I.tok _,⟨_,rfl⟩,q⟩
theorem opI0 {f:Value→Value→Sem Value}{g:Int→Int→Int}
    (rule:∀(i j:Int) (t u:Tok) (s:Shared) (Q:Value→Shared→Prop) (E:Value→Shared→Prop),Q (.int (g i j) s.toks) { s with toks:=s.toks+1 }→wpAny (model X.prog X.w) X.A (f (.int i t) (.int j u)) Q E s) :
    OpR X f (rI0 fun i j=>.int (g i j)):=by
  intro pins s σ H x y v u Q I rx ry h;obtain ⟨i,j,rfl,rfl,q⟩:=h;obtain ⟨t,rfl⟩:=rx;obtain ⟨t',rfl⟩:=ry;exact rule i j t t' s _ _ ⟨.int (g i j),H,I.tok _,⟨_,rfl⟩,q⟩
theorem opB0 {f:Value→Value→Sem Value}{g:Int→Int→Bool}
    (rule:∀(i j:Int) (t u:Tok) (s:Shared) (Q:Value→Shared→Prop) (E:Value→Shared→Prop),Q (.bool (g i j)) s→wpAny (model X.prog X.w) X.A (f (.int i t) (.int j u)) Q E s) :
    OpR X f (rI0 fun i j=>.bl (g i j)):=by
  intro pins s σ H x y v u Q I rx ry h;obtain ⟨i,j,rfl,rfl,q⟩:=h;obtain ⟨t,rfl⟩:=rx;obtain ⟨t',rfl⟩:=ry;exact rule i j t t' s _ _ ⟨.bl (g i j),H,I,rfl,q⟩
def CDiv (i j:Int):Prop:=0 < j∧j < 1073741824
def CPow (i j:Int):Prop:=0≤j∧j≤1000000∧i.natAbs < 2 ^ 64
def CMul (i j:Int):Prop:=(-(2 ^ 64) < i∧i < 2 ^ 64)∨(-(2 ^ 64) < j∧j < 2 ^ 64)
theorem CMul.ok {i j:Int}(h:CMul i j):IntMulOk i j:=by
  rcases h with ⟨h1,h2⟩ | ⟨h1,h2⟩
  · exact .of_left (intBits_le_64 h1 h2)
  · exact .of_right (intBits_le_64 h1 h2)
theorem zku (k:Nat):(0:Int)≤2 ^ k:=by
  rw[two_pow_cast];exact ybm _
theorem zbt:OpR X (binaryOp .Add) (rI0 fun i j=>.int (i+j)):=opI0 fun _ _ _ _ _ _ _ q=>add_int q
theorem zcM:OpR X (binaryOp .Sub) (rI0 fun i j=>.int (i - j)):=opI0 fun _ _ _ _ _ _ _ q=>sub_int q
theorem zcN:OpR X (binaryOp .Mult) (rI CMul fun i j=>.int (i * j)):=opI fun _ _ _ _ _ _ _ hc q=>mul_int q hc.ok
theorem ziW:OpR X (binaryOp .FloorDiv) (rI CDiv fun i j=>.int (i / j)):=opI fun i j _ _ _ _ _ hc q=>by
  have h1:(0:Int) < j:=hc.1;have h2:j < 1073741824:=hc.2;exact floordiv_int (by omega) (by rw[Int.fdiv_eq_ediv_of_nonneg i (by omega)];exact q) (.inl (PyProof.noPylong_small (by omega)))
theorem zez:OpR X (binaryOp .Mod) (rI (fun _ j=>0 < j) fun i j=>.int (i % j)):=opI fun i j _ _ _ _ _ hc q=>by
  have h1:(0:Int) < j:=hc;exact mod_int' (by omega) (by rw[Int.fmod_eq_emod_of_nonneg i (by omega)];exact q)
theorem zey:OpR X (binaryOp .Pow) (rI CPow fun i j=>.int (i ^ j.toNat)):=opI fun _ _ _ _ _ _ _ hc q=>pow_int_small hc.1 hc.2.1 hc.2.2 q
theorem zrw:OpR X (binaryOp .RShift) (rI (fun _ j=>0≤j) fun i j=>.int (i / 2 ^ j.toNat)):=opI fun i j _ _ _ _ _ hc q=>
  rshift_int hc (by rw[Int.fdiv_eq_ediv_of_nonneg i (zku _)];exact q)
theorem zpj:OpR X (binaryOp .BitAnd) (rI0 fun i j=>.int (Builtin.bitAnd i j)):=opI0 fun _ _ _ _ _ _ _ q=>and_int q
theorem zrv:OpR X (binaryOp .BitXor) (rI0 fun i j=>.int (Builtin.bitXor i j)):=opI0 fun _ _ _ _ _ _ _ q=>xor_int q
theorem unI {f:Value→Sem Value}{g:Int→Int}
    (rule:∀(i:Int) (t:Tok) (s:Shared) (Q:Value→Shared→Prop) (E:Value→Shared→Prop),Q (.int (g i) s.toks) { s with toks:=s.toks+1 }→wpAny (model X.prog X.w) X.A (f (.int i t)) Q E s) :
    UnR X f (rU fun i=>.int (g i)):=by
  intro pins s σ H x v Q I rx h;obtain ⟨i,rfl,q⟩:=h;obtain ⟨t,rfl⟩:=rx;exact rule i t s _ _ ⟨.int (g i),H,I.tok _,⟨_,rfl⟩,q⟩
theorem zjC:UnR X (unaryOp .USub) (rU fun i=>.int (-i)):=unI fun _ _ _ _ _ q=>neg_int q
end
def scal:V→V→Bool
  | .non,.non=>true | .non,.int _=>true | .int _,.non=>true | .non,.bl _=>true | .bl _,.non=>true | .non,.str _=>true | .str _,.non=>true
  | .int _,.int _=>true | .bl _,.bl _=>true | .str _,.str _=>true | .byt _,.byt _=>true
  | .int _,.str _=>true | .str _,.int _=>true | .bl _,.str _=>true | .str _,.bl _=>true
  | _,_=>false
def rEq:R2:=fun x y H Q=>scal x y=true∧Q (.bl (decide (x=y))) H
def rNe:R2:=fun x y H Q=>scal x y=true∧Q (.bl (!decide (x=y))) H
theorem zm3 {i j:Int}:decide (V.int i=V.int j)=(i == j):=by
  rw[ybZ];simp
theorem zpv {i j:Bool}:decide (V.bl i=V.bl j)=(i == j):=by
  rw[ybZ];simp
theorem zm2 {i j:Str}:decide (V.str i=V.str j)=(i == j):=by
  rw[ybZ];simp
theorem zm4 {i j:Array UInt8}:decide (V.byt i=V.byt j)=(i.toList == j.toList):=by
  rw[ybZ];cases i
  cases j
  simp
section
variable {X:Cx}{a b c:Expr}{ta tb tc:TE}{pos:Pos}
theorem zaV {pins:List (Addr×Obj)}{σ:St}{H:Hp}{s:Shared}{Q:VK}{k k':Bool}(I:Inv X pins σ H s)(q:Q (.bl k) H)(e:k=k'):EP X pins σ Q (.bool k') s:=by
  subst e;exact ⟨.bl k,H,I,rfl,q⟩
theorem zdV:OpR X (compareOp .Eq) rEq:=by
  intro pins s σ H x y v u Q I rx ry h;obtain ⟨hs,q⟩:=h;cases x with
  | non=>
    cases rx
    cases y with
    | non=>cases ry;exact PySem.EqNone.eq_none_none (zaV I q (by simp))
    | bl j=>cases ry;exact PySem.EqNone.eq_none_bool (zaV I q (by simp))
    | int j=>obtain ⟨t',rfl⟩:=ry;exact PySem.EqNone.eq_none_int (zaV I q (by simp))
    | str j=>obtain ⟨t',rfl⟩:=ry;exact PySem.EqNone.eq_none_str (zaV I q (by simp))
    | _=>exact absurd (show false=true from hs) yaC
  | bl i=>
    cases rx
    cases y with
    | non=>cases ry;exact PySem.EqNone.eq_bool_none (zaV I q (by simp))
    | bl j=>cases ry;exact eq_bool (zaV I q zpv)
    | str j=>obtain ⟨t',rfl⟩:=ry;exact PySem.EqMixed.eq_bool_str (zaV I q (by simp))
    | _=>exact absurd (show false=true from hs) yaC
  | int i=>
    obtain ⟨t,rfl⟩:=rx;cases y with
    | non=>cases ry;exact PySem.EqNone.eq_int_none (zaV I q (by simp))
    | int j=>obtain ⟨t',rfl⟩:=ry;exact eq_int (zaV I q zm3)
    | str j=>obtain ⟨t',rfl⟩:=ry;exact PySem.EqMixed.eq_int_str (zaV I q (by simp))
    | _=>exact absurd (show false=true from hs) yaC
  | str i=>
    obtain ⟨t,rfl⟩:=rx;cases y with
    | non=>cases ry;exact PySem.EqNone.eq_str_none (zaV I q (by simp))
    | bl j=>cases ry;exact PySem.EqMixed.eq_str_bool (zaV I q (by simp))
    | int j=>obtain ⟨t',rfl⟩:=ry;exact PySem.EqMixed.eq_str_int (zaV I q (by simp))
    | str j=>obtain ⟨t',rfl⟩:=ry;exact eq_str (zaV I q zm2)
    | _=>exact absurd (show false=true from hs) yaC
  | byt i=>
    obtain ⟨t,rfl⟩:=rx;cases y with
    | byt j=>obtain ⟨t',rfl⟩:=ry;exact PySem.W.eq_bytes (zaV I q zm4)
    | _=>exact absurd (show false=true from hs) yaC
  | _=>cases y <;> exact absurd (show false=true from hs) yaC
theorem znU:OpR X (compareOp .NotEq) rNe:=by
  intro pins s σ H x y v u Q I rx ry h;obtain ⟨hs,q⟩:=h;cases x with
  | non=>
    cases rx
    cases y with
    | non=>cases ry;exact PySem.EqNone.ne_none_none (zaV I q (by simp))
    | bl j=>cases ry;exact PySem.EqNone.ne_none_bool (zaV I q (by simp))
    | int j=>obtain ⟨t',rfl⟩:=ry;exact PySem.EqNone.ne_none_int (zaV I q (by simp))
    | str j=>obtain ⟨t',rfl⟩:=ry;exact PySem.EqNone.ne_none_str (zaV I q (by simp))
    | _=>exact absurd (show false=true from hs) yaC
  | bl i=>
    cases rx
    cases y with
    | non=>cases ry;exact PySem.EqNone.ne_bool_none (zaV I q (by simp))
    | bl j=>cases ry;exact ne_bool (zaV I q (congrArg not zpv))
    | str j=>obtain ⟨t',rfl⟩:=ry;exact PySem.EqMixed.ne_bool_str (zaV I q (by simp))
    | _=>exact absurd (show false=true from hs) yaC
  | int i=>
    obtain ⟨t,rfl⟩:=rx;cases y with
    | non=>cases ry;exact PySem.EqNone.ne_int_none (zaV I q (by simp))
    | int j=>obtain ⟨t',rfl⟩:=ry;exact ne_int (zaV I q (congrArg not zm3))
    | str j=>obtain ⟨t',rfl⟩:=ry;exact PySem.EqMixed.ne_int_str (zaV I q (by simp))
    | _=>exact absurd (show false=true from hs) yaC
  | str i=>
    obtain ⟨t,rfl⟩:=rx;cases y with
    | non=>cases ry;exact PySem.EqNone.ne_str_none (zaV I q (by simp))
    | bl j=>cases ry;exact PySem.EqMixed.ne_str_bool (zaV I q (by simp))
    | int j=>obtain ⟨t',rfl⟩:=ry;exact PySem.EqMixed.ne_str_int (zaV I q (by simp))
    | str j=>obtain ⟨t',rfl⟩:=ry;exact ne_str (zaV I q (congrArg not zm2))
    | _=>exact absurd (show false=true from hs) yaC
  | byt i=>
    obtain ⟨t,rfl⟩:=rx;cases y with
    | byt j=>obtain ⟨t',rfl⟩:=ry;exact PySem.W.ne_bytes (zaV I q (congrArg not zm4))
    | _=>exact absurd (show false=true from hs) yaC
  | _=>cases y <;> exact absurd (show false=true from hs) yaC
theorem zhs:OpR X (compareOp .Lt) (rI0 fun i j=>.bl (decide (i < j))):=opB0 fun _ _ _ _ _ _ _ q=>lt_int q
theorem znV:OpR X (compareOp .LtE) (rI0 fun i j=>.bl (decide (i≤j))):=opB0 fun _ _ _ _ _ _ _ q=>le_int q
theorem zkI:OpR X (compareOp .Gt) (rI0 fun i j=>.bl (decide (j < i))):=opB0 fun _ _ _ _ _ _ _ q=>gt_int q
theorem zl7:OpR X (compareOp .GtE) (rI0 fun i j=>.bl (decide (j≤i))):=opB0 fun _ _ _ _ _ _ _ q=>ge_int q
theorem zrx:OpR X (compareOp .Is) (fun x y H Q=>y=.non∧Q (.bl (decide (x=.non))) H):=by
  intro pins s σ H x y v u Q I rx ry h;obtain ⟨rfl,q⟩:=h;cases ry
  refine is_none_gen (zaV I q ?_);cases x <;> first
    | (cases rx;rfl)
    | (obtain ⟨t,rfl⟩:=rx;rfl)
theorem zl5:OpR X (compareOp .IsNot) (fun x y H Q=>y=.non∧Q (.bl (!decide (x=.non))) H):=by
  intro pins s σ H x y v u Q I rx ry h;obtain ⟨rfl,q⟩:=h;cases ry
  refine isnot_none_gen (zaV I q ?_);cases x <;> first
    | (cases rx;rfl)
    | (obtain ⟨t,rfl⟩:=rx;rfl)
theorem zaB (b:Expr){op:CmpOp}(h:op≠.In:=by decide)(h2:op≠.NotIn:=by decide):behindInMarks op b=false:=by
  have e1:(op == CmpOp.In)=false:=by cases op <;> first | rfl | exact absurd rfl h
  have e2:(op == CmpOp.NotIn)=false:=by cases op <;> first | rfl | exact absurd rfl h2
  cases b <;> simp[behindInMarks,e1,e2]
theorem zhn {op:CmpOp}{r:R2}(ho:OpR X (compareOp op) r)(ha:PE X a ta)(hb:PE X b tb)(hm:behindInMarks op b=false):PE X (.Compare a [op] [b] pos) (tOp r ta tb):=by
  intro pins s σ H Q I h;exact wpAny_Compare1 (binT ha hb I h fun v u s2 x y H2 I2 rx ry q=>ho pins s2 σ H2 x y v u Q I2 rx ry q) hm
def zqU (t:TE):TT:=fun σ H Q=>t σ H fun x H'=>∃ k,x=.bl k∧Q k H'
theorem zar {op:CmpOp}{r:R2}(ho:OpR X (compareOp op) r)(ha:PE X a ta)(hb:PE X b tb)(hm:behindInMarks op b=false):PT X (.Compare a [op] [b] pos) (zqU (tOp r ta tb)):=by
  intro pins s σ H Q I h;refine wpAny_isTrue_Compare1 (thn (ha pins s σ H _ I h) fun v s1 ⟨x,H1,I1,r1,q1⟩=>thn (hb pins s1 σ H1 _ I1 q1) fun u s2 ⟨y,H2,I2,r2,q2⟩=>
    thn (ho pins s2 σ H2 x y v u _ I2 r1 r2 q2) fun c s3 ⟨z,H3,I3,r3,k,e,q3⟩=>?_) hm
  subst e;cases r3
  exact wpAny_truthy_bool ⟨H3,I3,q3⟩
def zo0 (r r':R2)(ta tb tc:TE):TE:=fun σ H Q=>ta σ H fun x H1=>tb σ H1 fun y H2=>r x y H2 fun z H3=>∃ k,z=.bl k∧
  (if k=true then tc σ H3 fun w' H4=>r' y w' H4 Q else Q (.bl false) H3)
theorem zjZ {op op':CmpOp}{r r':R2}(ho:OpR X (compareOp op) r)(ho':OpR X (compareOp op') r')(ha:PE X a ta)(hb:PE X b tb)(hc:PE X c tc)
    (hm:lastMarks [op,op'] [b,c]=false:=by with_unfolding_all rfl):PE X (.Compare a [op,op'] [b,c] pos) (zo0 r r' ta tb tc):=by
  intro pins s σ H Q I h;refine Compare_chain (thn (ha pins s σ H _ I h) fun v s1 ⟨x,H1,I1,r1,q1⟩=>chain_link (thn (hb pins s1 σ H1 _ I1 q1) fun u s2 ⟨y,H2,I2,r2,q2⟩=>
    thn (ho pins s2 σ H2 x y v u _ I2 r1 r2 q2) fun d s3 ⟨z,H3,I3,r3,k,e,q3⟩=>?_)) hm
  subst e;cases r3
  refine wpAny_truthy_bool ?_;cases k with
  | false=>exact ite_ff ⟨.bl false,H3,I3,rfl,q3⟩
  | true=>exact ite_tt (chain_last (thn (hc pins s3 σ H3 _ I3 q3) fun w' s4 ⟨z',H4,I4,r4,q4⟩=>ho' pins s4 σ H4 y z' u w' Q I4 r2 r4 q4))
theorem znK {op op':CmpOp}{r r':R2}(ho:OpR X (compareOp op) r)(ho':OpR X (compareOp op') r')(ha:PE X a ta)(hb:PE X b tb)(hc:PE X c tc)
    (hm:lastMarks [op,op'] [b,c]=false:=by with_unfolding_all rfl):PT X (.Compare a [op,op'] [b,c] pos) (zqU (zo0 r r' ta tb tc)):=by
  intro pins s σ H Q I h;refine isTrue_chain (thn (ha pins s σ H _ I h) fun v s1 ⟨x,H1,I1,r1,q1⟩=>test_link (thn (hb pins s1 σ H1 _ I1 q1) fun u s2 ⟨y,H2,I2,r2,q2⟩=>
    thn (ho pins s2 σ H2 x y v u _ I2 r1 r2 q2) fun d s3 ⟨z,H3,I3,r3,k,e,q3⟩=>?_)) hm
  subst e;cases r3
  refine wpAny_truthy_bool ?_;cases k with
  | false=>
    obtain ⟨k',e',q'⟩:=q3;cases e'
    exact ite_ff ⟨H3,I3,q'⟩
  | true=>
    refine ite_tt (test_last (thn (hc pins s3 σ H3 _ I3 q3) fun w' s4 zq0=>?_));obtain ⟨z',H4,I4,r4,q4⟩:=zq0;refine thn (ho' pins s4 σ H4 y z' u w' _ I4 r2 r4 q4) fun d' s5 zq1=>?_;obtain ⟨z2,H5,I5,r5,k2,e2,q5⟩:=zq1;subst e2;cases r5
    exact wpAny_truthy_bool ⟨H5,I5,q5⟩
theorem zj7:(sizeLine:Nat) < 2 ^ 63:=by rw[sizeLine_eq];decide
theorem zfP {x:V}{us:List Value}(r:Vals [x] us):∃ u,us=[u]∧RelV x u:=by
  cases r with
  | cons r1 r2=>cases r2;exact ⟨_,rfl,r1⟩
theorem zgw {x y:V}{us:List Value}(r:Vals [x,y] us):∃ u w',us=[u,w']∧RelV x u∧RelV y w':=by
  cases r with
  | cons r1 r2=>
    cases r2 with
    | cons r3 r4=>cases r4;exact ⟨_,_,rfl,r1,r3⟩
theorem zhJ:zdj X (.builtin "abs") (fun xs H Q=>∃ i,xs=[.int i]∧Q (.int (if i < 0 then -i else i)) H):=by
  intro pins s σ H xs us Q I r h;obtain ⟨i,rfl,q⟩:=h;obtain ⟨u,rfl,t,rfl⟩:=zfP r;exact call_abs_int fun u tk=>⟨.int (if i < 0 then -i else i),H,I.tok _,⟨_,rfl⟩,q⟩
theorem ziy (hc:X.calm=true):zdj X (.builtin "max") (fun xs H Q=>∃ i j,xs=[.int i,.int j]∧Q (.int (if j > i then j else i)) H):=by
  intro pins s σ H xs us Q I r h;obtain ⟨i,j,rfl,q⟩:=h;obtain ⟨u,w',rfl,⟨t,rfl⟩,⟨t',rfl⟩⟩:=zgw r;refine max_two_ints (I.ok.hd hc) fun h' tk k=>⟨_,H,I.kept k,?_,q⟩;by_cases hj:j > i
  · rw[if_pos hj,if_pos hj];exact ⟨_,rfl⟩
  · rw[if_neg hj,if_neg hj];exact ⟨_,rfl⟩
end
end L2
namespace L2
open PySem PySem.Spec PyProof.Rows
structure ObjM (h:Heap)(x dx C:Addr)(mA:Str→Option Value):Prop where
  obj:h.get? x=some (PySem.W.instObj C dx)
  ns:h.Ns1 dx mA
  ne:dx≠x
theorem zmu {h:Heap}{dx:Addr}{mA:Str→Option Value}(n:h.Ns1 dx mA):∃ od,h.get? dx=some od∧∀ name,PySem.W.lookIn name od=some (mA name):=by
  obtain ⟨o,es,ep,ho,hd,hk,_,hm⟩:=n;refine ⟨o,ho,fun name=>?_⟩;have e:=hm name;unfold nsFind findBy at e;rw[← Array.find?_toList]at e;unfold PySem.W.lookIn;rw[hd];dsimp only;split
  · rename_i y q
    rw[q]at e;exact congrArg some e
  · rename_i q
    rw[q]at e;have a:es.toList.any (·.refKey)=false:=by
      rw[List.any_eq_false];intro y hy;obtain ⟨z,t,hkey⟩:=hk y (Array.mem_toList_iff.mp hy);simp[DictEntry.refKey,hkey]
    have a':¬ es.toList.any (·.refKey)=true:=by rw[a];exact yaC
    rw[if_neg a'];exact congrArg some e
theorem ObjM.look {h:Heap}{x dx C:Addr}{mA:Str→Option Value}(I:ObjM h x dx C mA):∃ od,PySem.W.InstAt h x (PySem.W.instObj C dx) C (some od)∧∀ name,PySem.W.lookIn name od=some (mA name):=
  let ⟨od,ho,hl⟩:=zmu I.ns
  ⟨od,⟨I.obj,rfl,rfl,ho⟩,hl⟩
section
variable {prog:Program}{w:World}{A:Around}{E:Value→Shared→Prop}{s:Shared}{K:Frag}{x dx C f:Addr}{mA:Str→Option Value}{name:Str}{v:Value}
theorem zqw {expr:Bool}{Q:Value→Shared→Prop}(X:K.In s.heap)(I:ObjM s.heap x dx C mA)(hg:PySem.W.plainGet K C name=true)(hh:PySem.W.hasDictIn K C=true)
    (ha:findIn K (.ref C) name=some none) (hv:mA name=some v) (hv':PySem.W.handedIn v=true) (h:Q v { s with toks:=s.toks+1 }) :
    wpAny (model prog w) A (getAttr (.ref x) name expr) Q E s:=by
  obtain ⟨od,J,hl⟩:=I.look;exact PySem.W.get_value X J (PySem.W.plainGet_of hg).1 (PySem.W.findObj_own hh ha rfl (by rw[hl,hv])) hv' h
theorem zox {pl:Sem Bool}{Q:Value×List Value→Shared→Prop}(X:K.In s.heap)(I:ObjM s.heap x dx C mA)(hg:PySem.W.plainGet K C name=true)
    (hf:findIn K (.ref C) name=some (some (.ref f))) (ht:PySem.W.isFn K (.ref f)=true) (hv:mA name=none) (h:Q (.ref f,[.ref x]) s) :
    wpAny (model prog w) A (getMethod (.ref x) name pl) Q E s:=by
  obtain ⟨od,J,hl⟩:=I.look;exact PySem.W.method_fn X J (PySem.W.plainGet_of hg).1 (PySem.W.plainGet_of hg).2 hf (beq_iff_eq.mp ht) (by show (PySem.W.lookIn name od).map (·.isSome)=some false;rw[hl,hv];rfl) h
theorem zpM {ns:List Str}{Q:Unit→Shared→Prop}(X:K.In s.heap)(I:ObjM s.heap x dx C mA)
    (hs:findIn K (.ref C) "__setattr__" = some (some (.builtin "object.__setattr__"))) (hp:PySem.W.plainOver K C=true) (ht:PySem.W.takerIn K C name=some none) (hh:PySem.W.hasDictIn K C=true)
    (hw:PySem.Within mA ns) (hsz:ns.length≤sizeLine)
    (h:∀ h',ObjM h' x dx C (fun y=>if y=name then some v else mA y)→Heap.SameBut dx s.heap h'→Q () { s with heap:=h',toks:=s.toks+2 }) :
    wpAny (model prog w) A (setAttr (.ref x) name v) Q E s:=by
  obtain ⟨od,J,hl⟩:=I.look;refine PySem.W.set_plain X J hs (PySem.W.osa_open (s:={ s with toks:=s.toks+1 }) (r:=none) X J hp ht fun b=>?_);obtain ⟨cd,hc,hd'⟩:=PySem.W.any_some hh;have hx:s.heap.get? x=some ⟨.ref C,some dx,.plain,#[]⟩:=I.obj;refine wpAny_bind (wpAny_pure (wpAny_bind (wpAny_bind (wpAny_loadPart hx (wpAny_bind (PySem.W.Looks.here (s:={ s with toks:=s.toks+1 }) (PySem.W.looks_clsIn X hc) ?_))))));rw[hd'];refine wpAny_pure (a:=some dx) (wpAny_bind (wpAny_pure (wpAny_bind ?_)));refine wpAny_nsSet1 (s:={ s with toks:=s.toks+1 }) I.ns fun h' hn2 hs2=>?_;obtain ⟨oD,esD,epD,hoD,hdD,hcD⟩:=hn2.count (PySem.Within.cons name v hw);refine wpAny_bind (wpAny_lookBehind hoD (by rw[hdD];exact pastItsLine_dict (yaB hcD (by rw[yaI];omega))) ?_);exact wpAny_pure (h _ ⟨(hs2.2 _ (Ne.symm I.ne)).trans I.obj,hn2,I.ne⟩ hs2)
theorem zok {R:Result→Shared→Prop}{vs:List Value}{kw:List (Str×Value)}(X:K.In s.heap)(hm:PySem.W.makesIn K C=true)
    (hi:findIn K (.ref C) "__init__" = some (some (.ref f))) (hf:PySem.W.typeIn K (.ref f)=some (.type "function"))
    (h:codeAny (model prog w) (A.under (.builtin "type.__call__" ⟨.ref C::vs,kw⟩)) (.call (.ref f) ⟨.ref (s.heap.objs.size+1)::vs,kw⟩) (PySem.W.InitBack (s.heap.objs.size+1) R)
      { s with heap:=(s.heap.push PySem.W.emptyDict).push (PySem.W.instObj C s.heap.objs.size) }) :
    codeAny (model prog w) A (.call (.ref C) ⟨vs,kw⟩) R s:=by
  obtain ⟨hh,g,d,t,os⟩:=s;exact PySem.W.make_core (PySem.W.makes_of X hm) (PySem.W.looks_findIn X hi) (fun self=>PySem.W.bind_fn X self hf) (.inl rfl) h
end
def putF (f:Str)(v:V):List (Str×V)→List (Str×V)
  | []=>[(f,v)]
  | (g,x)::r=>if g=f then (g,v)::r else (g,x)::putF f v r
theorem zf6 (f g:Str)(v:V):∀ fs:List (Str×V),(putF f v fs).lookup g=if g=f then some v else fs.lookup g
  | []=>by
    show List.lookup g [(f,v)]=_;by_cases h:g=f
    · have hb:(g == f)=true:=beq_iff_eq.mpr h
      simp only[List.lookup,hb,if_pos h]
    · have hb:(g == f)=false:=beq_eq_false_iff_ne.mpr h
      simp only[List.lookup,hb,if_neg h]
  | (k,x)::r=>by
    have ih:=zf6 f g v r;rw[show putF f v ((k,x)::r)=(if k=f then (k,v)::r else (k,x)::putF f v r) from rfl]
    by_cases hk:k=f
    · rw[if_pos hk]
      by_cases h:g=k
      · have hb:(g == k)=true:=beq_iff_eq.mpr h
        simp only[List.lookup,hb,if_pos (h.trans hk)]
      · have hb:(g == k)=false:=beq_eq_false_iff_ne.mpr h
        simp only[List.lookup,hb,if_neg (fun e:g=f=>h (e.trans hk.symm))]
    · rw[if_neg hk]
      by_cases h:g=k
      · have hb:(g == k)=true:=beq_iff_eq.mpr h
        simp only[List.lookup,hb,if_neg (fun e:g=f=>hk (h.symm.trans e))]
      · have hb:(g == k)=false:=beq_eq_false_iff_ne.mpr h
        simp only[List.lookup,hb];exact ih
theorem zf9 (f:Str)(v:V):∀ fs:List (Str×V),f∈(putF f v fs).map (·.1)∧∀ g,g∈fs.map (·.1)→g∈(putF f v fs).map (·.1)
  | []=>⟨by simp[putF],fun g h=>by simp at h⟩
  | (k,x)::r=>by
    obtain ⟨i1,i2⟩:=zf9 f v r;rw[show putF f v ((k,x)::r)=(if k=f then (k,v)::r else (k,x)::putF f v r) from rfl]
    by_cases hk:k=f
    · rw[if_pos hk]
      subst hk;exact ⟨by simp,fun g h=>by simpa using h⟩
    · rw[if_neg hk]
      refine ⟨?_,fun g h=>?_⟩
      · rw[yan]
        exact yau _ i1
      · rw[yan]at h ⊢
        rcases yah.mp h with e | e
        · exact yah.mpr (.inl e)
        · exact yau _ (i2 g e)
theorem zf8 (f:Str)(v:V):∀ fs:List (Str×V),(putF f v fs).length≤fs.length+1
  | []=>by simp[putF]
  | (k,x)::r=>by
    have ih:=zf8 f v r;rw[show putF f v ((k,x)::r)=(if k=f then (k,v)::r else (k,x)::putF f v r) from rfl]
    by_cases hk:k=f
    · rw[if_pos hk,yaI,yaI];omega
    · rw[if_neg hk,yaI,yaI];omega
theorem RelO.some_of {v:V}{o:Option Value}(r:RelO (some v) o):∃ u,o=some u∧RelV v u:=by
  cases o with
  | none=>exact (show False from r).elim
  | some u=>exact ⟨u,rfl,r⟩
theorem RelO.none_of {o:Option Value}(r:RelO none o):o=none:=by
  cases o with
  | none=>rfl
  | some u=>exact (show False from r).elim
theorem zmP {v:V}{u:Value}(r:RelV v u):PySem.W.handedIn u=true:=by
  cases v with
  | non=>cases (show u=Value.none from r);rfl
  | bl b=>cases (show u=Value.bool b from r);rfl
  | int i=>obtain ⟨t,e⟩:=(show ∃ t,u=Value.int i t from r);cases e;rfl
  | str x=>obtain ⟨t,e⟩:=(show ∃ t,u=Value.str x t from r);cases e;rfl
  | byt b=>obtain ⟨t,e⟩:=(show ∃ t,u=Value.bytes b t from r);cases e;rfl
  | flt b=>obtain ⟨t,e⟩:=(show ∃ t,u=Value.float b t from r);cases e;rfl
  | ref a=>cases (show u=Value.ref a from r);rfl
  | ty n=>cases (show u=Value.type n from r);rfl
section
variable {P:Program}{w:World}{H H':Hp}{h h':Heap}{a C dx:Addr}{fs fs':List (Str×V)}
theorem zhE (hok:HOk P w H h)(e:H a=some (.ins C dx fs)):∃ mA,ObjM h a dx C mA∧(∀ f,RelO (fs.lookup f) (mA f))∧PySem.Within mA (fs.map (·.1))∧fs.length≤1000∧H dx=some (.own a):=by
  obtain ⟨d,z,ne,ob,mA,n,r,q⟩:=(show zbe P w H h a (.ins C dx fs) from hok a _ e);exact ⟨mA,⟨ob,n,ne⟩,r,q,z,d⟩
end
structure Cls (K:Frag)(C:Addr):Prop where
  pg:PySem.W.plainGet K C Str.empty=true
  hd:PySem.W.hasDictIn K C=true
  po:PySem.W.plainOver K C=true
  sa:findIn K (.ref C) "__setattr__" = some (some (.builtin "object.__setattr__"))
theorem Cls.get {K:Frag}{C:Addr}(c:Cls K C)(f:Str):PySem.W.plainGet K C f=true:=c.pg
def zfh (K:Frag)(C:Addr)(f:Str):Prop:=findIn K (.ref C) f=some none
theorem zfh.taker {K:Frag}{C:Addr}{f:Str}(n:zfh K C f):PySem.W.takerIn K C f=some none:=by
  unfold PySem.W.takerIn;rw[show findIn K (.ref C) f=some none from n];rfl
structure Meth (K:Frag)(C:Addr)(m:Str)(f:Addr):Prop where
  at_:findIn K (.ref C) m=some (some (.ref f))
  fn:PySem.W.isFn K (.ref f)=true
  kp:keepIn K (.ref f)=true
section
variable {X:Cx}{pins:List (Addr×Obj)}{σ:St}{H:Hp}{s:Shared}{a C dx:Addr}{fs:List (Str×V)}{f:Str}{v:V}{A:Around}{E:Value→Shared→Prop}
theorem zkW {b:Bool}{Q:Value→Shared→Prop}(I:Inv X pins σ H s)(e:H a=some (.ins C dx fs))(c:Cls X.K C)(n:zfh X.K C f)(l:fs.lookup f=some v)
    (h:∀ u s',Inv X pins σ H s'→RelV v u→Q u s'):wpAny (model X.prog X.w) A (getAttr (.ref a) f b) Q E s:=by
  obtain ⟨mA,O,r,_,_,_⟩:=zhE I.hok e;obtain ⟨u,hu,ru⟩:=RelO.some_of (v:=v) (o:=mA f) (by rw[← l];exact r f);exact zqw I.kIn O (c.get f) c.hd n hu (zmP ru) (h u _ (I.tok _) ru)
theorem zeX {m:Str}{g:Addr}{pl:Sem Bool}{Q:Value×List Value→Shared→Prop}(I:Inv X pins σ H s)(e:H a=some (.ins C dx fs))(c:Cls X.K C)(k:Meth X.K C m g)(l:fs.lookup m=none)
    (h:Q (.ref g,[.ref a]) s):wpAny (model X.prog X.w) A (getMethod (.ref a) m pl) Q E s:=by
  obtain ⟨mA,O,r,_,_,_⟩:=zhE I.hok e;have hn:mA m=none:=RelO.none_of (by rw[← l];exact r m);exact zox I.kIn O (c.get m) k.at_ k.fn hn h
theorem zkx {y:V}{u:Value}{Q:Unit→Shared→Prop}(I:Inv X pins σ H s)(e:H a=some (.ins C dx fs))(c:Cls X.K C)(n:zfh X.K C f)(hl:fs.length < 1000)(ry:RelV y u)
    (h:∀ s',Inv X pins σ (upd H a (.ins C dx (putF f y fs))) s'→Q () s'):wpAny (model X.prog X.w) A (setAttr (.ref a) f u) Q E s:=by
  obtain ⟨mA,O,r,wi,_,ho⟩:=zhE I.hok e;have hz:(fs.map (·.1)).length≤sizeLine:=by rw[yab,sizeLine_eq];omega
  refine zpM I.kIn O c.sa c.po n.taker c.hd wi hz fun h' O' sb=>h _ ?_;have hd:∃ o,h'.get? dx=some o:=let ⟨o,_,_,e',_⟩:=O'.ns;⟨o,e'⟩;refine I.write (x:=a) (e:=dx) (by rw[e];exact True.intro) (.inr ho) (fun b q hb z=>(sb.2 b hb).trans z) hd ?_;refine ⟨by rw[zaj O.ne];exact ho,?_,O.ne,O'.obj,_,O'.ns,fun g=>?_,fun g hg=>?_⟩
  · have:=zf8 f y fs;omega
  · show RelO ((putF f y fs).lookup g) (if g=f then some u else mA g)
    rw[zf6];by_cases q:g=f
    · rw[if_pos q,if_pos q];exact ry
    · rw[if_neg q,if_neg q];exact r g
  · by_cases q:g=f
    · rw[q];exact (zf9 f y fs).1
    · refine (zf9 f y fs).2 g (wi g fun z=>hg ?_)
      show (if g=f then some u else mA g)=none
      rw[if_neg q];exact z
theorem Inv.made (I:Inv X pins σ H s):Inv X pins σ (upd (upd H s.heap.objs.size (.own (s.heap.objs.size+1))) (s.heap.objs.size+1) (.ins C s.heap.objs.size []))
    { s with heap:=(s.heap.push PySem.W.emptyDict).push (PySem.W.instObj C s.heap.objs.size) }:=by
  have e1:(s.heap.push PySem.W.emptyDict).get? s.heap.objs.size=some PySem.W.emptyDict:=yaD s.heap rfl;have e2:((s.heap.push PySem.W.emptyDict).push (PySem.W.instObj C s.heap.objs.size)).get? (s.heap.objs.size+1)=some (PySem.W.instObj C s.heap.objs.size):=by
    have:=yaD (s.heap.push PySem.W.emptyDict) (o:=PySem.W.instObj C s.heap.objs.size) rfl;rwa[yb0]at this
  have e3:(s.heap.push PySem.W.emptyDict).Ns s.heap.objs.size (fun _=>none):=⟨PySem.W.emptyDict,#[],_,e1,rfl,(fun e he=>absurd he (by simp)),fun _=>rfl⟩;have I1:=I.laid (a:=s.heap.objs.size) (o:=.own (s.heap.objs.size+1)) (h':=s.heap.push PySem.W.emptyDict) (t':=s.toks) (fun b u q=>yai _ q) (yaa _) ⟨_,e1⟩;refine I1.laid (a:=s.heap.objs.size+1) (o:=.ins C s.heap.objs.size []) (t':=s.toks) (fun b u q=>yai _ q) (Nat.le_of_eq (yb0 _ _)) ?_;have ne:s.heap.objs.size≠s.heap.objs.size+1:=yam (yb1 _);refine ⟨by rw[zaj ne,zac],yaH _,ne,e2,fun _=>none,(Heap.Ns1.of_empty e3).at fun o q=>yai _ q,fun _=>True.intro,fun y hy=>absurd rfl hy⟩
theorem zqI {prog:Program}{w:World}{env:Env}{e:Expr}{f:Str}{pos:Pos}{s:Shared}{Q:Value→Shared→Prop}(hb:attributeBase e f env (eval e env)=eval e env)
    (h:wpAny (model prog w) A (eval e env) (fun o s₁=>wpAny (model prog w) A (getAttr o f true) Q E s₁) E s):wpAny (model prog w) A (eval (.Attribute e f pos) env) Q E s:=
  Attribute_any_ h (by rw[arm_eval_Attribute,hb])
end
def tFld (K:Frag)(ta:TE)(f:Str):TE:=fun σ H Q=>ta σ H fun x H1=>∃ a C dx fs v,x=.ref a∧H1 a=some (.ins C dx fs)∧Cls K C∧zfh K C f∧fs.lookup f=some v∧Q v H1
def sFld (K:Frag)(ta tv:TE)(f:Str):TS:=fun D σ H=>tv σ H fun y H1=>ta σ H1 fun x H2=>∃ a C dx fs,x=.ref a∧H2 a=some (.ins C dx fs)∧Cls K C∧zfh K C f∧fs.length < 1000∧
  D.nx σ (upd H2 a (.ins C dx (putF f y fs)))
section
variable {X:Cx}{o e value:Expr}{f:Str}{pos pos' tpos:Pos}{ta tv:TE}
theorem zbl (he:PE X e ta)(hb:attributeBase e f X.env (eval e X.env)=eval e X.env):PE X (.Attribute e f pos) (tFld X.K ta f):=by
  intro pins s σ H Q I h;refine zqI hb (thn (he pins s σ H _ I h) fun u s1 zq0=>?_);obtain ⟨x,H1,I1,rx,a,C,dx,fs,v,ex,ea,c,n,l,q⟩:=zq0;subst ex;obtain rfl:u=Value.ref a:=rx;exact zkW I1 ea c n l fun u' s2 I2 ru=>⟨v,H1,I2,ru,q⟩
theorem zfY (ha:PE X o ta)(hv:PE X value tv)(hs:swapsWith value (some (.Attribute o f pos')) pos.line X.env=pure false):PS X (.Assign [.Attribute o f pos'] value pos) (sFld X.K ta tv f):=by
  intro pins s σ H D I h;refine plainObj_wpAny_Assign_Attribute (thn (hv pins s σ H _ I h) fun u s1 zq0=>?_) hs;obtain ⟨y,H1,I1,ry,q⟩:=zq0;refine thn (ha pins s1 σ H1 _ I1 q) fun ov s2 zq1=>?_;obtain ⟨x,H2,I2,rx,a,C,dx,fs,ex,ea,c,n,l,q2⟩:=zq1;subst ex;obtain rfl:ov=Value.ref a:=rx;exact zkx I2 ea c n l ry fun s3 I3=>⟨σ,_,I3,q2⟩
end
section
variable {X:Cx}{pins:List (Addr×Obj)}{σ:St}{H:Hp}{s:Shared}{A:Around}{E:Value→Shared→Prop}{Q:Value→Shared→Prop}{c:Value}{b:Bool}
inductive TyOf (K:Frag)(H:Hp):V→Value→Prop where
  | non:TyOf K H .non (.type "NoneType")
  | bl (x:Bool):TyOf K H (.bl x) (.type "bool")
  | int (i:Int):TyOf K H (.int i) (.type "int")
  | str (x:Str):TyOf K H (.str x) (.type "str")
  | flt (x:UInt64):TyOf K H (.flt x) (.type "float")
  | lst {a:Addr} {xs:List V} (e:H a=some (.lst xs)):TyOf K H (.ref a) (.type "list")
  | frz {a:Addr} {o:Obj} {xs:List V} (e:H a=some (.frz o (.lst xs))):TyOf K H (.ref a) (.type "list")
  | tup {a:Addr} {xs:List V} (e:H a=some (.tup xs)):TyOf K H (.ref a) (.type "tuple")
  | dK {a:Addr} {kvs:List (Key×V)} (e:H a=some (.dK kvs)):TyOf K H (.ref a) (.type "dict")
  | dT {a:Addr} {kvs:List (List Key×V)} (e:H a=some (.dT kvs)):TyOf K H (.ref a) (.type "dict")
  | ins {a C dx:Addr} {fs:List (Str×V)} (e:H a=some (.ins C dx fs)) (cl:Cls K C) (ha:findIn K (.ref C) "__class__" = some (some (.builtin "object.__class__")))
      (hn:PySem.W.specialIn K (.builtin "object.__class__") "__get__" = some (some (.builtin "getset_descriptor.__get__"))) (htk:PySem.W.takesIn K (.builtin "object.__class__")=some true)
      (hm:mroIn K C (.type "object")=some true):TyOf K H (.ref a) (.ref C)
theorem zmI {x:V}{u t:Value}(I:Inv X pins σ H s)(rx:RelV x u)(ty:TyOf X.K H x t)(e:kitOne X.K t c=some b)(h:∀ tk,Q (.bool b) { s with toks:=tk }) :
    wpAny (model X.prog X.w) A (call (.builtin "isinstance") [u,c]) Q E s:=by
  cases ty with
  | non=>cases (show u=Value.none from rx);exact PySem.W.kia_one PySem.W.kitx_none I.kIn True.intro e (fun z=>nomatch z) h
  | bl y=>cases (show u=Value.bool y from rx);exact PySem.W.kia_one PySem.W.kitx_bool I.kIn True.intro e (fun z=>nomatch z) h
  | int i=>obtain ⟨t,q⟩:=(show ∃ t,u=Value.int i t from rx);cases q;exact PySem.W.kia_one PySem.W.kitx_int I.kIn True.intro e (fun z=>nomatch z) h
  | str y=>obtain ⟨t,q⟩:=(show ∃ t,u=Value.str y t from rx);cases q;exact PySem.W.kia_one PySem.W.kitx_str I.kIn True.intro e (fun z=>nomatch z) h
  | flt y=>obtain ⟨t,q⟩:=(show ∃ t,u=Value.float y t from rx);cases q;exact PySem.W.kia_one PySem.W.kitx_float I.kIn True.intro e (fun z=>nomatch z) h
  | @lst a xs ea=>
    cases (show u=Value.ref a from rx)
    obtain ⟨_,_,n,_,h1⟩:=(show zbe X.prog X.w H s.heap a (.lst xs) from I.hok a _ ea);exact PySem.W.kia_one PySem.W.kitx_list I.kIn ⟨_,h1,rfl⟩ e (fun z=>nomatch z) h
  | @frz a ob xs ea=>
    cases (show u=Value.ref a from rx)
    obtain ⟨_,_,_,n,_,h1⟩:=(show zbe X.prog X.w H s.heap a (.frz ob (.lst xs)) from I.hok a _ ea);exact PySem.W.kia_one PySem.W.kitx_list I.kIn ⟨_,h1,rfl⟩ e (fun z=>nomatch z) h
  | @tup a xs ea=>
    cases (show u=Value.ref a from rx)
    obtain ⟨_,_,_,p⟩:=(show zbe X.prog X.w H s.heap a (.tup xs) from I.hok a _ ea);obtain ⟨o,h1,h2,_⟩:=p;exact PySem.W.kia_one PySem.W.kitx_tuple I.kIn ⟨o,h1,h2⟩ e (fun z=>nomatch z) h
  | @dK a kvs ea=>
    cases (show u=Value.ref a from rx)
    obtain ⟨_,_,vs,_,p⟩:=(show zbe X.prog X.w H s.heap a (.dK kvs) from I.hok a _ ea);obtain ⟨o,es,ep,h1,h2,_⟩:=p;exact PySem.W.kia_one PySem.W.kitx_dict I.kIn ⟨o,h1,h2.1⟩ e (fun z=>nomatch z) h
  | @dT a kvs ea=>
    cases (show u=Value.ref a from rx)
    obtain ⟨_,_,xs,_,o,es,ep,h1,h2,_⟩:=(show zbe X.prog X.w H s.heap a (.dT kvs) from I.hok a _ ea);exact PySem.W.kia_one PySem.W.kitx_dict I.kIn ⟨o,h1,h2.1⟩ e (fun z=>nomatch z) h
  | @ins a C dx fs ea cl ha hn htk hm=>
    cases (show u=Value.ref a from rx)
    obtain ⟨mA,O,_⟩:=zhE I.hok ea;obtain ⟨od,J,_⟩:=O.look;exact PySem.W.kia_one (PySem.W.kitx_own (cl.get _) cl.hd ha hn htk hm) I.kIn J e (fun z=>nomatch z) h
end
end L2
namespace L2
open PySem PySem.Spec PyProof.Rows
structure Room (k:Nat)(A:Around):Prop where
  hd:A.handled=none
  dp:A.depth+3 * k+5 < recursionLimit
  un:A.units+16 * k+200 < cLine
  gd:A.guards=some []
theorem Room.mono {j k:Nat}{A:Around}(r:Room k A)(h:j≤k):Room j A:=⟨r.hd,by have:=r.dp;omega,by have:=r.un;omega,r.gd⟩
theorem Room.deeper {k:Nat}{A:Around}(r:Room (k+1) A)(env:Env):Room k (A.deeper env):=
  ⟨r.hd,by have:=r.dp;show A.depth+1+3 * k+5 < _;omega,by have:=r.un;show A.units+3+16 * k+200 < _;omega,r.gd⟩
theorem zkV {A:Around}{C:Addr}{us:List Value}{kw:List (Str×Value)}:(A.under (.builtin "type.__call__" ⟨.ref C::us,kw⟩)).depth=A.depth+1:=by
  first | rfl | simp[Around.under,Code.weight,Code.isCreation,Code.isGuard,Code.isCaller,Code.frames,Code.isFrame,guardIds]
theorem zkU {A:Around}{C:Addr}{us:List Value}{kw:List (Str×Value)}:(A.under (.builtin "type.__call__" ⟨.ref C::us,kw⟩)).units=A.units+1:=by
  first | rfl | simp[Around.under,Code.cUnits,Code.frames,Code.isFrame]
theorem Room.make {k:Nat}{A:Around}(r:Room (k+1) A)(C:Addr)(us:List Value)(kw:List (Str×Value)):Room k (A.under (.builtin "type.__call__" ⟨.ref C::us,kw⟩)):=
  ⟨r.hd,by have:=r.dp;rw[zkV];omega,by have:=r.un;rw[zkU];omega,by have h:=r.gd;simp[Around.under,Code.guards,Code.isGuard,guardIds,pushGuards,h]⟩
theorem Room.depth {k:Nat}{A:Around}(r:Room k A):A.depth < recursionLimit:=by have:=r.dp;omega
theorem Room.units {k:Nat}{A:Around}(r:Room k A):A.units+64 < cLine:=by have:=r.un;omega
def tNil:TA:=fun _ H Q=>Q [] H
def zsx (ta:TE)(tr:TA):TA:=fun σ H Q=>ta σ H fun x H1=>tr σ H1 fun xs H2=>Q (x::xs) H2
section
variable {X:Cx}{e:Expr}{es:List Expr}{te:TE}{t:TA}{pos:Pos}
theorem zab:PA X [] tNil:=fun _ _ _ _ H Q I h=>Calls.spliced_nil ⟨[],H,I,.nil,h⟩
theorem zaa (ha:PE X e te)(hr:PA X es t)(hs:starEach (e::es) X.env=(false,eval e X.env)::starEach es X.env:=by rfl):PA X (e::es) (zsx te t):=by
  intro pos pins s σ H Q I h;rw[hs];show wpAny _ _ (spliced ((false,eval e X.env)::backTo pos (starEach es X.env))) _ _ s;refine Calls.spliced_cons (thn (ha pins s σ H _ I h) fun u s1 zq0=>?_);obtain ⟨x,H1,I1,r1,q1⟩:=zq0;exact thn (hr pos pins s1 σ H1 _ I1 q1) fun us s2 zq0=>(by obtain ⟨xs,H2,I2,r2,q2⟩:=zq0;exact ⟨x::xs,H2,I2,.cons r1 r2,q2⟩)
def tTup (t:TA):TE:=fun σ H Q=>t σ H fun xs H1=>xs.length≤sizeLine∧∀ p,H1 p=none→Q (.ref p) (upd H1 p (.tup xs))
def tLst (t:TA):TE:=fun σ H Q=>t σ H fun xs H1=>xs.length≤sizeLine∧∀ p,H1 p=none→Q (.ref p) (upd H1 p (.lst xs))
theorem zaQ {x1}(h:PA X es t):PE X (.Tuple es x1 pos) (tTup t):=by
  intro pins s σ H Q I hq;refine wpAny_Tuple_spliced (thn (h pos pins s σ H _ I hq) fun us s1 zq0=>?_);obtain ⟨xs,H1,I1,r,z,q⟩:=zq0;refine ⟨by rw[← r.length];exact z,?_⟩;have hf:H1 s1.heap.objs.size=none:=I1.hok.fresh (yaa _);refine ⟨.ref s1.heap.objs.size,upd H1 s1.heap.objs.size (.tup xs),I1.laid (t':=s1.toks) (fun b u e=>yai _ e) (yaa _) ?_,rfl,q _ hf⟩;exact ⟨z,us,r,⟨_,yaD _ rfl,rfl,_,rfl⟩⟩
theorem za5 (h:PA X es t):PE X (.List es pos) (tLst t):=by
  intro pins s σ H Q I hq;refine wpAny_List_spliced (thn (h pos pins s σ H _ I hq) fun us s1 zq0=>?_);obtain ⟨xs,H1,I1,r,z,q⟩:=zq0;refine ⟨by rw[← r.length];exact z,?_⟩;have hf:H1 s1.heap.objs.size=none:=I1.hok.fresh (yaa _);refine ⟨.ref s1.heap.objs.size,upd H1 s1.heap.objs.size (.lst xs),I1.laid (t':=s1.toks) (fun b u e=>yai _ e) (yaa _) ?_,rfl,q _ hf⟩;exact ⟨z,us,0,r,yaD _ rfl⟩
end
abbrev Sp:=List V→Hp→VK→XK→Prop
abbrev CXT:=List Env→Hp→Shared→XK→Value→Shared→Prop
structure Env0 (P:Program)(w:World)(K:Frag)(mg:Str→Option Value)(base:Heap)(A:Around)(outer:List Env)(s:Shared)(H:Hp):Prop where
  frames:A.frames=some outer
  mod:Mod K mg base
  bs:∀ b o,base.get? b=some o→s.heap.get? b=some o∧H b=none
  bsz:base.objs.size≤s.heap.objs.size
  funs:s.heap.FunFrames base outer
  frf:∀ b∈frs outer,H b=none
  hok:HOk P w H s.heap
  bare:AllBare s.gens
def CE (outer:List Env)(P:Program)(w:World)(H:Hp)(s:Shared)(Q:VK)(u:Value)(s':Shared):Prop:=
  ∃ v H',s'.os=s.os∧AllBare s'.gens∧Un (frs outer) [] H H' s.heap s'.heap∧HOk P w H' s'.heap∧RelV v u∧Q v H'
def CR (CX:CXT)(outer:List Env)(P:Program)(w:World)(H:Hp)(s:Shared)(Q:VK)(E:XK)(r:Result)(s':Shared):Prop:=
  match r with
  | .ok (.ret u)=>CE outer P w H s Q u s'
  | .ok _=>False
  | .error e=>CX outer H s E e s'
structure FnOk (P:Program)(w:World)(K:Frag)(mg:Str→Option Value)(base:Heap)(CX:CXT)(k:Nat)(f:Addr)(fd:FuncData)(ps:List Str)(sp:Sp):Prop where
  len:∀ vs H Q E,sp vs H Q E→vs.length=ps.length
  run:∀(A:Around) (outer:List Env) (s:Shared) (H:Hp) (args:Args) (us:List Value) (vs:List V) (Q:VK) (E:XK),Room k A→Env0 P w K mg base A outer s H→BindsTo s fd args (ps.zip us)→Vals vs us→sp vs H Q E→
    codeAny (model P w) A (.call (.ref f) args) (CR CX outer P w H s Q E) s
theorem Env0.make {P:Program}{w:World}{K:Frag}{mg:Str→Option Value}{base:Heap}{A:Around}{outer:List Env}{s:Shared}{H:Hp}(e:Env0 P w K mg base A outer s H)(C:Addr)(us:List Value)(kw:List (Str×Value)) :
    Env0 P w K mg base (A.under (.builtin "type.__call__" ⟨.ref C::us,kw⟩)) outer s H:=⟨by first | exact e.frames | (simpa [Around.under,Code.envs,Code.isFrame,pushEnvs] using e.frames),e.mod,e.bs,e.bsz,e.funs,e.frf,e.hok,e.bare⟩
section
variable {X:Cx}{pins:List (Addr×Obj)}{σ:St}{H:Hp}{s s':Shared}
theorem Inv.env0 (I:Inv X pins σ H s):Env0 X.prog X.w X.K X.mg X.base X.A X.stack s H:=
  ⟨I.ok.frames,I.ok.mod,I.bs,yaB I.ok.bsz I.sz,I.stack,I.stkFree,I.hok,I.bare⟩
theorem Inv.after {Q:VK}{u:Value}(I:Inv X pins σ H s)(h:CE X.stack X.prog X.w H s Q u s'):EP X pins σ Q u s':=by
  obtain ⟨v,H',os,bare,un,hok,r,q⟩:=h;obtain ⟨hh,g,d,t,os'⟩:=s';obtain rfl:os'=s.os:=os;exact ⟨v,H',I.call (h':=hh) (g':=g) (d':=d) (t':=t) (ch:=[]) un hok bare (fun b z=>absurd z (by simp)),r,q⟩
end
def zpG (sp:Sp)(dvs:List V)(E:XK)(t:TA):TE:=fun σ H Q=>t σ H fun vs H1=>sp (vs++dvs) H1 Q E
def znx (C:Addr)(m:Str)(sp:Sp)(dvs:List V)(E:XK)(ta:TE)(t:TA):TE:=fun σ H Q=>ta σ H fun x H1=>∃ a dx fs,x=.ref a∧H1 a=some (.ins C dx fs)∧fs.lookup m=none∧
  t σ H1 fun vs H2=>sp (x::(vs++dvs)) H2 Q E
def zqY (C:Addr)(sp:Sp)(dvs:List V)(E:XK)(t:TA):TE:=fun σ H Q=>t σ H fun vs H1=>∀ x dx,H1 x=none→H1 dx=none→dx≠x→
  sp (.ref x::(vs++dvs)) (upd (upd H1 dx (.own x)) x (.ins C dx [])) (fun v H2=>v=.non∧Q (.ref x) H2) E
def zdc (K:Frag)(fd:FuncData)(ps:List Str)(ds:List Value):Prop:=
  ∀(s:Shared) (us:List Value),K.In s.heap→(us++ds).length=ps.length→BindsTo s fd ⟨us,[]⟩ (ps.zip (us++ds))
theorem zdc.all {K:Frag}{fd:FuncData}{ps:List Str}(h:∀ us:List Value,us.length=ps.length→bindArgs fd ⟨us,[]⟩=pure (ps.zip us)):zdc K fd ps []:=fun s us _ hl=>by
  rw[yay]at hl ⊢;exact .of_eq (h us hl)
def zd3 (CX:CXT)(X:Cx)(E:XK):Prop:=∀(pins:List (Addr×Obj)) (σ:St) (H:Hp) (s:Shared) (e:Value) (s':Shared),Inv X pins σ H s→CX X.stack H s E e s'→X.xe e s'
section
variable {X:Cx}{CX:CXT}{k:Nat}{f C:Addr}{fd:FuncData}{ps:List Str}{sp:Sp}{dvs:List V}{ds:List Value}{E:XK}{x m:Str}{p pos apos:Pos}{e o:Expr}{es:List Expr}{ta:TE}{t:TA}
theorem zjR {pins:List (Addr×Obj)}{σ:St}{H:Hp}{s:Shared}{Q:VK}{us:List Value}{vs:List V}(F:FnOk X.prog X.w X.K X.mg X.base CX k f fd ps sp)(hr:Room k X.A)(hb:zdc X.K fd ps ds)(hd:Vals dvs ds)(hx:zd3 CX X E)
    (I:Inv X pins σ H s) (r:Vals vs us) (h:sp (vs++dvs) H Q E):wpAny (model X.prog X.w) X.A (call (.ref f) us) (EP X pins σ Q) X.xe s:=by
  have r2:Vals (vs++dvs) (us++ds):=r.append hd;have hl:(us++ds).length=ps.length:=by rw[← r2.length];exact F.len _ _ _ _ h
  refine wpAny_call (codeAny_mono (F.run X.A X.stack s H ⟨us,[]⟩ (us++ds) (vs++dvs) Q E hr I.env0 (hb s us I.kIn hl) r2 h) fun r s' hq=>?_);cases r with
  | error e=>exact hx pins σ H s e s' I hq
  | ok fl=>
    cases fl with
    | ret u=>exact I.after hq
    | next=>exact False.elim hq
    | brk=>exact False.elim hq
    | cont=>exact False.elim hq
theorem zpZ (F:FnOk X.prog X.w X.K X.mg X.base CX k f fd ps sp)(hr:Room k X.A)(hg:Gl X x)(hm:X.mg x=some (.ref f))(hk:keepIn X.K (.ref f)=true)(hb:zdc X.K fd ps ds)(hd:Vals dvs ds)(hx:zd3 CX X E)
    (ha:PA X (e::es) t) (hdb:(x == ("__debug__" : Str))=false:=by decide) (he:starEach (e::es) X.env=(false,eval e X.env)::starEach es X.env:=by rfl) (hpl:(backTo pos (starEach es X.env)).any (·.1)=false:=by rfl) :
    PE X (.Call (.Name x p) (e::es) [] pos) (zpG sp dvs E t):=by
  intro pins s σ H Q I h;refine wpAny_Call_Name_kw (zd8 I hg hm ?_ hdb);refine PySem.W.callWith_K (h₀:=X.base) I.ok.mod.kin hk (thn (ha pos pins s σ H _ I h) fun us s1 zq0=>?_) he hpl;obtain ⟨vs,H1,I1,r,q⟩:=zq0;refine ⟨I1.kIn,?_⟩;exact zjR F hr hb hd hx I1 r q
theorem zpW {pl:Sem Bool}(he:PE X o ta)(c:Cls X.K C)(hm:Meth X.K C m f)(F:FnOk X.prog X.w X.K X.mg X.base CX k f fd ps sp)(hr:Room k X.A)(hb:zdc X.K fd ps ds)(hd:Vals dvs ds)(hx:zd3 CX X E)(ha:PA X (e::es) t)
    (hst:starEach (e::es) X.env=(false,eval e X.env)::starEach es X.env:=by rfl) (hpl:(backTo pos (starEach es X.env)).any (·.1)=false:=by rfl)
    (ht:eval (.Call (.Attribute o m apos) (e::es) [] pos) X.env=(do
      let ov ← eval o X.env
      standAt apos.atName
      let (f,first) ← holding [ov] (getMethod ov m pl)
      callWith pos f first (backTo pos (starEach (e::es) X.env)) (backToKw pos (keywordEach [] X.env))):=by rfl) :
    PE X (.Call (.Attribute o m apos) (e::es) [] pos) (znx C m sp dvs E ta t):=by
  intro pins s σ H Q I h;refine PySem.W.methodCall_KW (pl:=pl) (thn (he pins s σ H _ I h) fun u s1 zq0=>?_) ht;obtain ⟨x,H1,I1,rx,a,dx,fs,ex,ea,l,q⟩:=zq0;subst ex;obtain rfl:u=Value.ref a:=rx;refine zeX I1 ea c hm l ?_;refine PySem.W.callWith_K (first:=[.ref a]) (h₀:=X.base) I.ok.mod.kin hm.kp (thn (ha pos pins s1 σ H1 _ I1 q) fun us s2 zq0=>?_) hst hpl
  obtain ⟨vs,H2,I2,r,q2⟩:=zq0;refine ⟨I2.kIn,?_⟩;exact zjR (us:=.ref a::us) (vs:=.ref a::vs) F hr hb hd hx I2 (.cons rfl r) q2
theorem znN {pl:Sem Bool}(he:PE X o ta)(c:Cls X.K C)(hm:Meth X.K C m f)(F:FnOk X.prog X.w X.K X.mg X.base CX k f fd ps sp)(hr:Room k X.A)(hb:zdc X.K fd ps ds)(hd:Vals dvs ds)(hx:zd3 CX X E)
    (ht:eval (.Call (.Attribute o m apos) [] [] pos) X.env=(do
      let ov ← eval o X.env
      standAt apos.atName
      let (f,first) ← holding [ov] (getMethod ov m pl)
      callWith pos f first (backTo pos (starEach [] X.env)) (backToKw pos (keywordEach [] X.env))):=by rfl) :
    PE X (.Call (.Attribute o m apos) [] [] pos) (znx C m sp dvs E ta tNil):=by
  intro pins s σ H Q I h;refine PySem.W.methodCall_KW (pl:=pl) (thn (he pins s σ H _ I h) fun u s1 zq0=>?_) ht;obtain ⟨x,H1,I1,rx,a,dx,fs,ex,ea,l,q⟩:=zq0;subst ex;obtain rfl:u=Value.ref a:=rx;refine zeX I1 ea c hm l ?_;exact PySem.W.callWith_K0 (first:=[.ref a]) I1.kIn hm.kp (zjR (us:=[.ref a]) (vs:=[.ref a]) F hr hb hd hx I1 (.cons rfl .nil) q)
structure Mk (K:Frag)(C f:Addr):Prop where
  makes:PySem.W.makesIn K C=true
  init:findIn K (.ref C) "__init__" = some (some (.ref f))
  fn:PySem.W.isFn K (.ref f)=true
  kp:keepIn K (.ref C)=true
theorem znG {pins:List (Addr×Obj)}{σ:St}{H:Hp}{s:Shared}{Q:VK}{us:List Value}{vs:List V}(M:Mk X.K C f)(F:FnOk X.prog X.w X.K X.mg X.base CX k f fd ps sp)(hr:Room (k+1) X.A)(hb:zdc X.K fd ps ds)(hd:Vals dvs ds)
    (hx:zd3 CX X E) (I:Inv X pins σ H s) (r:Vals vs us)
    (h:∀ x dx,H x=none→H dx=none→dx≠x→sp (.ref x::(vs++dvs)) (upd (upd H dx (.own x)) x (.ins C dx [])) (fun v H2=>v=.non∧Q (.ref x) H2) E) :
    wpAny (model X.prog X.w) X.A (call (.ref C) us) (EP X pins σ Q) X.xe s:=by
  have hq:=h (s.heap.objs.size+1) s.heap.objs.size (I.hok.fresh (ybb _)) (I.hok.fresh (yaa _)) (yam (yb1 _));have I2:=Inv.made (C:=C) I;have r2:Vals (V.ref (s.heap.objs.size+1)::(vs++dvs)) (Value.ref (s.heap.objs.size+1)::(us++ds)):=.cons rfl (r.append hd);have hl:(Value.ref (s.heap.objs.size+1)::us++ds).length=ps.length:=by
    have e:=r2.length;rw[F.len _ _ _ _ hq]at e;exact e.symm
  refine wpAny_call (zok (f:=f) I.kIn M.makes M.init (beq_iff_eq.mp M.fn) (codeAny_mono (F.run _ X.stack _ _ ⟨Value.ref (s.heap.objs.size+1)::us,[]⟩ (Value.ref (s.heap.objs.size+1)::(us++ds)) _ _ E (hr.make C us [])
    (I2.env0.make C us []) (hb _ (Value.ref (s.heap.objs.size+1)::us) I2.kIn hl) r2 hq) fun r s' hq'=>?_))
  cases r with
  | error e=>exact hx pins σ _ _ e s' I2 hq'
  | ok fl=>
    cases fl with
    | ret u=>
      obtain ⟨v,H',I3,rv,ev,q3⟩:=I2.after hq';subst ev;exact ⟨rv,⟨V.ref (s.heap.objs.size+1),H',I3,rfl,q3⟩⟩
    | next=>exact False.elim hq'
    | brk=>exact False.elim hq'
    | cont=>exact False.elim hq'
theorem zpX (M:Mk X.K C f)(F:FnOk X.prog X.w X.K X.mg X.base CX k f fd ps sp)(hr:Room (k+1) X.A)(hg:Gl X x)(hm:X.mg x=some (.ref C))(hb:zdc X.K fd ps ds)(hd:Vals dvs ds)(hx:zd3 CX X E)
    (ha:PA X (e::es) t) (hdb:(x == ("__debug__" : Str))=false:=by decide) (he:starEach (e::es) X.env=(false,eval e X.env)::starEach es X.env:=by rfl) (hpl:(backTo pos (starEach es X.env)).any (·.1)=false:=by rfl) :
    PE X (.Call (.Name x p) (e::es) [] pos) (zqY C sp dvs E t):=by
  intro pins s σ H Q I h;refine wpAny_Call_Name_kw (zd8 I hg hm ?_ hdb);refine PySem.W.callWith_K (h₀:=X.base) I.ok.mod.kin M.kp (thn (ha pos pins s σ H _ I h) fun us s1 zq0=>?_) he hpl;obtain ⟨vs,H1,I1,r,q⟩:=zq0;refine ⟨I1.kIn,?_⟩;exact znG M F hr hb hd hx I1 r q
end
structure zap (N P:List Str)(sc:Scope):Prop where
  kind:sc.kind=.function
  co:sc.isCoroutine=false
  gen:sc.isGenerator=false
  nd:N.Nodup
  pre:N.take P.length=P
  par:∀ x∈P,sc.names.lookup x=some .local∨sc.names.lookup x=some .cell
  nofree:∀ y∈sc.names,y.2≠.free
theorem ziz {kindOf:Str→Option NameKind}{x:Str}:∀{binds:List (Str×Value)} {m:Str→Option Value},(∀ v,(x,v)∉binds)→bindL kindOf binds m x=m x
  | [],_,_=>rfl
  | (n,v)::r,m,h=>by
    unfold bindL;rw[ziz fun w hw=>h w (yau _ hw)];split
    · have:x≠n:=by rintro rfl;exact h v yaA
      simp[this]
    · rfl
theorem ziB {kindOf:Str→Option NameKind}{x:Str}:∀{binds:List (Str×Value)} {m:Str→Option Value},(∀ v,(x,v)∉binds)→bindC kindOf binds m x=m x
  | [],_,_=>rfl
  | (n,v)::r,m,h=>by
    unfold bindC;rw[ziB fun w hw=>h w (yau _ hw)];split
    · rfl
    · have:x≠n:=by rintro rfl;exact h v yaA
      simp[this]
theorem ziA {kindOf:Str→Option NameKind}{x:Str}{v:Value}:∀{P:List Str} {vs:List Value} {i:Nat} {m:Str→Option Value},P.Nodup→P[i]?=some x→vs[i]?=some v→kindOf x=some .local→
    bindL kindOf (P.zip vs) m x=some v
  | [],_,_,_,_,h,_,_=>by simp at h
  | _::_,[],_,_,_,_,h,_=>by simp at h
  | p::P,w::vs,0,m,nd,h1,h2,hk=>by
    simp at h1 h2;subst h1;subst h2;show bindL kindOf ((p,w)::P.zip vs) m p=_;unfold bindL;rw[ziz fun v hv=>(yaS.mp nd).1 (ybL hv).1,if_pos hk];simp
  | p::P,w::vs,i+1,m,nd,h1,h2,hk=>by
    show bindL kindOf ((p,w)::P.zip vs) m x=_;unfold bindL;exact ziA (i:=i) (yaS.mp nd).2 (by simpa using h1) (by simpa using h2) hk
theorem ziC {kindOf:Str→Option NameKind}{x:Str}{v:Value}:∀{P:List Str} {vs:List Value} {i:Nat} {m:Str→Option Value},P.Nodup→P[i]?=some x→vs[i]?=some v→kindOf x≠some .local→
    bindC kindOf (P.zip vs) m x=some v
  | [],_,_,_,_,h,_,_=>by simp at h
  | _::_,[],_,_,_,_,h,_=>by simp at h
  | p::P,w::vs,0,m,nd,h1,h2,hk=>by
    simp at h1 h2;subst h1;subst h2;show bindC kindOf ((p,w)::P.zip vs) m p=_;unfold bindC;rw[ziB fun v hv=>(yaS.mp nd).1 (ybL hv).1,if_neg hk];simp
  | p::P,w::vs,i+1,m,nd,h1,h2,hk=>by
    show bindC kindOf ((p,w)::P.zip vs) m x=_;unfold bindC;exact ziC (i:=i) (yaS.mp nd).2 (by simpa using h1) (by simpa using h2) hk
def zcX (N:List Str)(vs:List V):St:=vs.map some++List.replicate (N.length - vs.length) none
def cxOf (CX:CXT)(P:Program)(w:World)(K:Frag)(mg:Str→Option Value)(base:Heap)(N:List Str)(qual:Str)(scope:Scope)(f:Addr)(cd:Value)(A:Around)(outer:List Env)(s:Shared)(H:Hp)(E:XK):Cx where
  prog:=P
  w:=w
  K:=K
  mg:=mg
  base:=base
  A:=A.deeper (envOfC qual scope s.heap.objs.size f cd)
  N:=N
  s₀:=s
  H₀:=H
  env:=envOfC qual scope s.heap.objs.size f cd
  outer:=outer
  stack:=envOfC qual scope s.heap.objs.size f cd::outer
  ex:=[]
  calm:=true
  fn:=fun _=>true
  pn:=[]
  xe:=fun e s'=>wpAny (model P w) (A.deeper (envOfC qual scope s.heap.objs.size f cd)) (leaving (envOfC qual scope s.heap.objs.size f cd) e) (fun _ s''=>CX outer H s E e s'') (fun e' s''=>CX outer H s E e' s'') s'
theorem zkk {sc:Scope}{n:Nat}{x:Str}(h:sc.names.lookup x=some .cell):∃ c,(cellsFrom n sc.names []).lookup x=some c:=by
  have q:=PySem.W.cellsFrom_some sc.names n [] (.inl h);exact yb2.mp q
theorem zmJ {CX:CXT}{P:Program}{w:World}{K:Frag}{mg:Str→Option Value}{base:Heap}{N ps:List Str}{qual:Str}{scope:Scope}{f:Addr}{cd:Value}{A:Around}{outer:List Env}{s s1:Shared}{H:Hp}{E:XK}{us:List Value}{vs:List V}
    (S:zap N ps scope) (hd:A.handled=none) (e0:Env0 P w K mg base A outer s H) (hl:vs.length=ps.length) (r:Vals vs us)
    (x:InCallC s s.heap.objs.size (bindL (envOfC qual scope s.heap.objs.size f cd).kindOf (ps.zip us) fun _=>none) (cellsFrom (s.heap.objs.size+1) scope.names []) (bindC (envOfC qual scope s.heap.objs.size f cd).kindOf (ps.zip us) fun _=>none) s1) :
    Inv (cxOf CX P w K mg base N qual scope f cd A outer s H E) [] (zcX N vs) H s1:=by
  have hpl:ps.length≤N.length:=by have:=congrArg List.length S.pre;rw[yao]at this;omega
  obtain ⟨h1,tk,rfl,hk⟩:=x.done;have noA:∀ b:Addr,b∉(cxOf CX P w K mg base N qual scope f cd A outer s H E).ex:=fun b z=>absurd (show b∈([]:List Addr) from z) (by simp);refine ⟨⟨e0.mod,S.kind,rfl,rfl,yaa _,fun y z c h1 h2=>?_,fun y hy=>?_,fun y c _ h=>?_,fun _=>hd,Around.frames_deeper e0.frames,.inr ⟨rfl,rfl⟩,fun b z=>absurd z (noA b),e0.bs,e0.bsz,fun b _ _=>noA b,fun b z=>absurd z (noA b),e0.funs,e0.frf⟩,
    rfl,e0.bare,Un.kept hk,⟨_,x.toInCall.ns,fun i y v h1 h2 h3=>?_⟩,fun y c h=>⟨_,x.cell y c h⟩,e0.hok.fresh (yaa _),fun y c h=>?_,fun p hp=>absurd (show p∈([]:List (Addr×Obj)) from hp) (by simp),e0.hok.kept hk,?_⟩
  · exact name_of_addr x.apart (PySem.mem_of_lookup h1) (PySem.mem_of_lookup h2)
  · have hy:scope.names.lookup y=some .cell∨scope.names.lookup y=some .free:=hy
    rcases hy with hy | hy
    · exact zkk hy
    · exact absurd rfl (S.nofree _ (PySem.mem_of_lookup hy))
  · exact ya3 (x.above y c (PySem.mem_of_lookup h))
  · have hi:i < vs.length:=by
      unfold zcX at h2;by_cases hi:i < vs.length
      · exact hi
      · rw[ybj (by simpa using hi)]at h2
        rw[List.getElem?_replicate]at h2;split at h2 <;> cases h2
    have ha:vs[i]?=some v:=by
      unfold zcX at h2;rw[ybn (by simpa using hi),yaq]at h2;cases e:vs[i]? with
      | none=>rw[e]at h2;cases h2
      | some a=>rw[e]at h2;cases h2;rfl
    obtain ⟨u,hu,rv⟩:=r.get ha;have hp:ps[i]?=some y:=by
      rw[← S.pre,List.getElem?_take_of_lt (by omega)];exact h1
    have ndP:ps.Nodup:=by rw[← S.pre];exact S.nd.sublist (List.take_sublist _ _)
    refine ⟨u,rv,?_⟩;rcases S.par y (yaJ hp) with k | k
    · exact .inl ⟨k,ziA ndP hp hu k⟩
    · obtain ⟨c,e⟩:=zkk (n:=s.heap.objs.size+1) k
      refine .inr ⟨.inl k,c,e,?_⟩;have q:=x.cell y c e;rw[ziC ndP hp hu (by show scope.names.lookup y≠_;rw[k];decide)]at q;exact q
  · exact e0.hok.fresh (ya3 (x.above y c (PySem.mem_of_lookup h)))
  · unfold zcX
    show _=N.length;rw[yas,yab,yby];omega
theorem zoA {CX:CXT}{P:Program}{w:World}{K:Frag}{mg:Str→Option Value}{base:Heap}{k:Nat}{f:Addr}{name qual:Str}{params:Arguments}{body:List Stmt}{scope:Scope}{dV kV doc pm cdv ct oc:Value}{an od:Option Addr}
    {osl:Array (Option Value)} {N ps:List Str} {sp:Sp} (lk:K.lookup f=some ⟨oc,od,.func (fnOf name qual params body scope dV kV doc pm an cdv ct),osl⟩) (hcd:codeIn K cdv qual=true) (S:zap N ps scope)
    (len:∀ vs H Q E,sp vs H Q E→vs.length=ps.length)
    (hbody:∀(A:Around) (outer:List Env) (s:Shared) (H:Hp) (vs:List V) (Q:VK) (E:XK),Room k (A.deeper (envOfC qual scope s.heap.objs.size f cdv))→sp vs H Q E→
      ∃ t,PSs (cxOf CX P w K mg base N qual scope f cdv A outer s H E) body t∧t { nx:=fun _ H'=>Q .non H',rt:=Q } (zcX N vs) H) :
    FnOk P w K mg base CX (k+1) f (fnOf name qual params body scope dV kV doc pm an cdv ct) ps sp:=by
  refine ⟨len,fun A outer s H args us vs Q E hr e0 hb r hsp=>?_⟩;have hl:=len _ _ _ _ hsp;have KX:K.In s.heap:=e0.mod.kin.keeps fun b o e=>(e0.bs b o e).1;have lim:s.heap.NoLimit:=e0.mod.nolimit.keeps fun b o e=>(e0.bs b o e).1;have hkind:∀ y∈ps.zip us,scope.names.lookup y.1=some .local∨(scope.names.lookup y.1=some .cell∧((cellsFrom (s.heap.objs.size+1) scope.names []).lookup y.1).isSome=true):=fun ⟨n,v⟩ hy=>by
    rcases S.par n (ybL hy).1 with q | q
    · exact .inl q
    · exact .inr ⟨q,PySem.W.cellsFrom_some _ _ _ (.inl q)⟩
  refine codeAny_call_function hr.depth (KX _ _ lk) rfl S.co S.gen rfl (PySem.W.codeRec_of KX hcd) (hb _ _ _ _ ?_);refine wpAny_newFunctionEnv_cells S.kind hkind fun env he s1 x=>?_;subst he;refine ⟨lim.keeps x.toInCall.keep,codeAny_func ?_⟩;obtain ⟨t,ht,hq⟩:=hbody A outer s H vs Q E (hr.deeper _) hsp;have I:Inv (cxOf CX P w K mg base N qual scope f cdv A outer s H E) [] (zcX N vs) H s1:=zmJ S hr.hd e0 hl r x;refine wpAny_mono (ht [] s1 (zcX N vs) H _ I hq) (fun fl s' hs=>?_) fun e s' hs=>hs;have fin:∀{σ':St} {H':Hp} {v:V} {u:Value},Inv (cxOf CX P w K mg base N qual scope f cdv A outer s H E) [] σ' H' s'→RelV v u→Q v H'→CE outer P w H s Q u s':=
    fun {σ' H' v u} J rv q=>⟨v,H',J.os,J.bare,J.base,J.hok,rv,q⟩
  cases fl with
  | ret u=>
    obtain ⟨v,σ',H',J,rv,q⟩:=hs;exact fin J rv q
  | next=>
    obtain ⟨σ',H',J,q⟩:=hs;exact fin (v:=V.non) (u:=Value.none) J rfl q
  | brk=>
    obtain ⟨_,_,_,q⟩:=hs;exact False.elim q
  | cont=>
    obtain ⟨_,_,_,q⟩:=hs;exact False.elim q
end L2
namespace L2
open PySem PySem.Spec PyProof.Rows
section
variable {X:Cx}{x:Str}{p pos:Pos}{e:Expr}{es:List Expr}{t:TA}{id T:String}{r:List V→Hp→VK→Prop}
def tCB (r:List V→Hp→VK→Prop)(t:TA):TE:=fun σ H Q=>t σ H fun vs H1=>r vs H1 Q
theorem zam (hc:zdj X (.builtin id) r)(hg:Gl X x)(hm:X.mg x=none)(hv:bootBuiltins x=some (.builtin id))(ha:PA X (e::es) t)(hn:x ≠ "__name__":=by decide)(hdb:(x == ("__debug__" : Str))=false:=by decide)
    (he:starEach (e::es) X.env=(false,eval e X.env)::starEach es X.env:=by rfl) (hpl:(backTo pos (starEach es X.env)).any (·.1)=false:=by rfl):PE X (.Call (.Name x p) (e::es) [] pos) (tCB r t):=by
  intro pins s σ H Q I h;refine wpAny_Call_Name_kw (zfe I hg hm hv ?_ hn hdb);exact PyProof.Rows.callWith_builtin1 (thn (ha pos pins s σ H _ I h) fun us s1 zq0=>(by obtain ⟨vs,H1,I1,r1,q1⟩:=zq0;exact hc pins s1 σ H1 vs us Q I1 r1 q1)) he hpl
theorem zaW (hc:zdj X (.type T) r)(hg:Gl X x)(hm:X.mg x=none)(hv:bootBuiltins x=some (.type T))(ha:PA X (e::es) t)(hn:x ≠ "__name__":=by decide)(hdb:(x == ("__debug__" : Str))=false:=by decide)
    (he:starEach (e::es) X.env=(false,eval e X.env)::starEach es X.env:=by rfl) (hpl:(backTo pos (starEach es X.env)).any (·.1)=false:=by rfl):PE X (.Call (.Name x p) (e::es) [] pos) (tCB r t):=by
  intro pins s σ H Q I h;refine wpAny_Call_Name_kw (zfe I hg hm hv ?_ hn hdb);exact PyProof.Rows.callWith_type1 (thn (ha pos pins s σ H _ I h) fun us s1 zq0=>(by obtain ⟨vs,H1,I1,r1,q1⟩:=zq0;exact hc pins s1 σ H1 vs us Q I1 r1 q1)) he hpl
end
end L2
namespace HT
open PySem PyProof.Rows
section
variable {prog:Program}{w:World}{A:Around}{E:Value→Shared→Prop}{s:Shared}
theorem cat_tup {t b:Addr}{vs ws:List Value}{Q:Value→Shared→Prop}(ht:IsTup s.heap t vs.toArray)(hb:IsTup s.heap b ws.toArray)(hv:vs≠[])
    (h1:ws=[]→Q (.ref t) s) (h2:ws≠[]→Q (.ref s.heap.objs.size) { s with heap:=s.heap.push { cls:=.type "tuple",data:=.seq (vs++ws).toArray } })
    (hsz:vs.length+ws.length≤sizeLine):wpAny (model prog w) A (binaryOp .Add (.ref t) (.ref b)) Q E s:=by
  obtain ⟨⟨cls,dd,data,sl⟩,ho,hc,n,hd⟩:=id ht;obtain ⟨⟨cls2,dd2,data2,sl2⟩,ho2,hc2,n2,hd2⟩:=id hb;simp only at hc hd hc2 hd2;subst hc hd hc2 hd2;have e:vs.toArray++ws.toArray=(vs++ws).toArray:=by simp
  by_cases hw:ws=[]
  · exact concat_meets ⟨_,ho,rfl⟩ ⟨_,ho2,rfl⟩ noFill_tuple_add seq_tuple_add PySem.F.slot_tuple_add PySem.F.entry_tuple_add (PySem.F.args_tuple_add_2 _ _)
      (tuple_addW1 t b vs.toArray ws.toArray n n2 dd dd2 sl sl2 (by simpa using hv) (by simp[hw])) ⟨ho,ho2,h1 hw⟩
  · refine concat_meets ⟨_,ho,rfl⟩ ⟨_,ho2,rfl⟩ noFill_tuple_add seq_tuple_add PySem.F.slot_tuple_add PySem.F.entry_tuple_add (PySem.F.args_tuple_add_2 _ _)
      (tuple_addW2 t b vs.toArray ws.toArray n n2 dd dd2 sl sl2 (by simpa using hv) (by simpa using hw) (by rw[yat,yat];exact hsz)) ⟨ho,ho2,?_⟩
    rw[e];exact h2 hw
def sIx (n d:Nat):Option Int→Nat
  | none=>d
  | some v=>if v < 0 then (v+(n:Int)).toNat else min v.toNat n
theorem zcD (n d k:Nat):sIx n d (some (k:Int))=min k n:=by
  show (if (k:Int) < 0 then ((k:Int)+(n:Int)).toNat else min (k:Int).toNat n)=min k n
  rw[if_neg (by omega),ya6]
theorem zrg (n d:Nat)(hd:d≤n)(o:Option Int):sIx n d o≤n:=by
  cases o with
  | none=>exact hd
  | some v=>
    show (if v < 0 then (v+(n:Int)).toNat else min v.toNat n)≤n
    by_cases hv:v < 0
    · rw[if_pos hv];omega
    · rw[if_neg hv];exact Nat.min_le_right _ _
theorem znb (v:Int)(n d:Nat):(if v < 0 then max (v+(n:Int)) 0 else min v (n:Int))=((sIx n d (some v):Nat):Int):=by
  show (if v < 0 then max (v+(n:Int)) 0 else min v (n:Int))=(((if v < 0 then (v+(n:Int)).toNat else min v.toNat n):Nat):Int)
  by_cases hv:v < 0
  · simp only[if_pos hv];omega
  · simp only[if_neg hv];omega
theorem zla (lo hi:Option Int)(n:Nat):Builtin.Slice.sliceAdjust lo hi 1 (n:Int)=(((sIx n 0 lo:Nat):Int),((sIx n n hi:Nat):Int)):=by
  have h1:¬ ((1:Int) < 0):=by omega
  unfold Builtin.Slice.sliceAdjust;simp only[h1,if_false];refine Prod.ext ?_ ?_
  · cases lo with
    | none=>rfl
    | some v=>exact znb v n 0
  · cases hi with
    | none=>rfl
    | some v=>exact znb v n n
theorem zkC (i j:Nat):Builtin.Slice.slicePlaces (i:Int) (j:Int) 1=j - i:=by
  unfold Builtin.Slice.slicePlaces;have h1:(1:Int) > 0:=by omega
  simp only[h1,if_true,Int.ediv_one];split <;> omega
theorem zgG {v:Value}{o:Option Int}{Q:Option Int→Shared→Prop}(p:IsPart v o)(h:Q o s):wpAny (model prog w) A (Builtin.Slice.slicePartIndex v) Q E s:=by
  cases p with
  | none=>exact slicePart_none h
  | int i t=>exact slicePart_int h
theorem zdd {sl:Addr}{vl vu:Value}{lo hi:Option Int}{n:Nat}{Q:Int×Int×Nat→Shared→Prop}(hs:s.heap.IsSliceOf sl vl vu .none)(pl:IsPart vl lo)(pu:IsPart vu hi)
    (h:Q (((sIx n 0 lo:Nat):Int),1,sIx n n hi - sIx n 0 lo) s):wpAny (model prog w) A (Builtin.Slice.sliceApplied (.ref sl) (pure (n:Int))) Q E s:=by
  obtain ⟨os,hos,hcs,hds⟩:=id hs;unfold Builtin.Slice.sliceApplied Builtin.Slice.sliceFields;refine wpAny_bind (wpAny_bind (wpAny_field hos hds (x:=vl) rfl (wpAny_bind (wpAny_field hos hds (x:=vu) rfl (wpAny_bind (wpAny_field hos hds (x:=.none) rfl (wpAny_pure ?_)))))));refine wpAny_bind (slicePart_none ?_);show wpAny _ _ (if ((1:Int) == 0)=true then _ else _) _ _ s
  rw[if_neg (by decide)];refine wpAny_bind (zgG pl (wpAny_bind (zgG pu (wpAny_bind (wpAny_pure ?_)))));show wpAny _ _ (match Builtin.Slice.sliceAdjust lo hi 1 (n:Int) with | (lo,hi)=>pure (lo,(1:Int),Builtin.Slice.slicePlaces lo hi 1)) _ _ s
  rw[zla lo hi n];show wpAny _ _ (pure (((sIx n 0 lo:Nat):Int),(1:Int),Builtin.Slice.slicePlaces ((sIx n 0 lo:Nat):Int) ((sIx n n hi:Nat):Int) 1)) _ _ s;rw[zkC];exact wpAny_pure h
theorem znL (xs:Array Value)(i k:Nat):((List.range k).filterMap fun (m:Nat)=>xs[((i:Int)+(m:Int) * 1).toNat]?).toArray=((xs.toList.drop i).take k).toArray:=by
  have e:(fun (m:Nat)=>xs[((i:Int)+(m:Int) * 1).toNat]?)=fun m=>xs[i+m]?:=by
    funext m
    have:((i:Int)+(m:Int) * 1).toNat=i+m:=by omega
    rw[this]
  rw[e];have:=pick_run xs i k;rw[List.filterMap_map]at this;have e2:((fun x=>xs[x]?) ∘ fun x=>i+x)=fun m=>xs[i+m]?:=rfl;rw[e2]at this;rw[this]
theorem getItem_tuple_cut {t sl:Addr}{items:Array Value}{vl vu:Value}{lo hi:Option Int}{Q:Value→Shared→Prop}(ht:IsTup s.heap t items)(hs:s.heap.IsSliceOf sl vl vu .none)(pl:IsPart vl lo)(pu:IsPart vu hi)
    (hw:¬ (sIx items.size 0 lo=0∧sIx items.size items.size hi=items.size))
    (h:Q (.ref s.heap.objs.size) { s with heap:=s.heap.push { cls:=.type "tuple",data:=.seq ((items.toList.drop (sIx items.size 0 lo)).take (sIx items.size items.size hi - sIx items.size 0 lo)).toArray } })
    (hsz:items.size≤sizeLine):wpAny (model prog w) A (getItem (.ref t) (.ref sl)) Q E s:=by
  have htake:sizeOk (.seq ((items.toList.drop (sIx items.size 0 lo)).take (sIx items.size items.size hi - sIx items.size 0 lo)).toArray):=by
    show ((items.toList.drop (sIx items.size 0 lo)).take (sIx items.size items.size hi - sIx items.size 0 lo)).toArray.size≤sizeLine;rw[yat,yao,yaN,yar];omega
  have hj:sIx items.size items.size hi≤items.size:=zrg _ _ (yaa _) hi;obtain ⟨os,hos,hcs,hds⟩:=id hs;have hTs:s.TypeIs (.ref sl) "slice":=⟨os,hos,hcs⟩;unfold getItem
  try with_reducible refine wpAny_holding ?_
  first | refine wpAny_bind (wpAny_pure ?_) | skip
  refine wpAny_bind (wpAny_sequenceKey ht.typeIs (by decide) ?_);refine wpAny_bind (wpAny_callSpecial?_slot (name:=Str.ofString "__getitem__") ht.typeIs PyProof.Rows.slot_tuple_getitem
    (wpAny_call_entry PyProof.Rows.slot_tuple_getitem ht.typeIs entry_tuple_getitem ?_ (args_tuple_getitem _ _)))
  show wpAny _ _ (Builtin.Tuple.tupleItemsOf (.ref t) >>= _) _ _ s;refine wpAny_bind (tupleItemsOf_ ht ?_);refine wpAny_bind (wpAny_typeOf hTs ?_);rw[if_pos (by decide)];refine wpAny_bind (zdd hs pl pu ?_);have hno:¬ ((((sIx items.size 0 lo:Nat):Int) == 0 && (1:Int) == 1 && (sIx items.size items.size hi - sIx items.size 0 lo) == items.size)=true):=by
    intro q;rw[ybo,ybo]at q;have q1:((sIx items.size 0 lo:Nat):Int)=0:=eq_of_beq q.1.1;have q2:sIx items.size items.size hi - sIx items.size 0 lo=items.size:=eq_of_beq q.2;exact hw ⟨by omega,by omega⟩
  show wpAny _ _ (if (((sIx items.size 0 lo:Nat):Int) == 0 && (1:Int) == 1 && (sIx items.size items.size hi - sIx items.size 0 lo) == items.size)=true then _ else _) _ _ s
  rw[if_neg hno,znL]
  first
    | exact wpAny_bind (m:=Builtin.Tuple.tupleExact _) (wpAny_newObj_type (wpAny_pure ⟨_,rfl,wpAny_pure h⟩) htake)
    | exact wpAny_bind (m:=Builtin.Tuple.tupleExact _) (wpAny_newObj_type (wpAny_bind (wpAny_pure (wpAny_pure ⟨_,rfl,wpAny_pure h⟩))) htake)
    | exact wpAny_bind (wpAny_bind (m:=Builtin.Tuple.tupleExact _) (wpAny_newObj_type (wpAny_pure (wpAny_pure ⟨_,rfl,wpAny_pure h⟩)) htake))
    | exact wpAny_bind (wpAny_bind (m:=Builtin.Tuple.tupleExact _) (wpAny_newObj_type (wpAny_pure ⟨_,rfl,wpAny_pure h⟩) htake))
end
end HT
namespace L2
open PySem PySem.Spec PyProof.Rows
abbrev TO:=St→Hp→(Option Int→Hp→Prop)→Prop
def PO (X:Cx)(e:Option Expr)(t:TO):Prop:=
  ∀(pins:List (Addr×Obj)) (s:Shared) (σ:St) (H:Hp) (Q:Option Int→Hp→Prop),Inv X pins σ H s→t σ H Q→
    wpAny (model X.prog X.w) X.A (evalPart e X.env) (fun u s'=>∃ o H',Inv X pins σ H' s'∧IsPart u o∧Q o H') X.xe s
def ziL:TO:=fun _ H Q=>Q none H
def zsr (t:TE):TO:=fun σ H Q=>t σ H fun x H1=>∃ i,x=.int i∧Q (some i) H1
section
variable {X:Cx}{e:Expr}{te:TE}{lo hi:Option Expr}{tl th:TO}{pos p2:Pos}
theorem zcE:PO X none ziL:=by
  intro pins s σ H Q I h;rw[evalPart_none];exact wpAny_pure ⟨none,H,I,.none,h⟩
theorem zbL (h:PE X e te):PO X (some e) (zsr te):=by
  intro pins s σ H Q I hw;rw[evalPart_some];refine thn (h pins s σ H _ I hw) fun u s1 zq0=>?_;obtain ⟨x,H1,I1,r1,q1⟩:=zq0;obtain ⟨i,rfl,q⟩:=q1;obtain ⟨t,rfl⟩:=r1;exact ⟨some i,H1,I1,.int i t,q⟩
def SlR (X:Cx)(r:V→Option Int→Option Int→Hp→VK→Prop):Prop:=
  ∀(pins:List (Addr×Obj)) (s:Shared) (σ:St) (H:Hp) (x:V) (v vl vu:Value) (lo hi:Option Int) (sl:Addr) (Q:VK),Inv X pins σ H s→RelV x v→s.heap.IsSliceOf sl vl vu .none→IsPart vl lo→IsPart vu hi→r x lo hi H Q→
    ∃ T id,typeLookup (.type T) "__getitem__" = pure (some (.builtin id))∧s.TypeIs v T∧wpAny (model X.prog X.w) X.A (getItem v (.ref sl)) (EP X pins σ Q) X.xe s
def tSl (r:V→Option Int→Option Int→Hp→VK→Prop)(te:TE)(tl th:TO):TE:=fun σ H Q=>te σ H fun x H1=>tl σ H1 fun l H2=>th σ H2 fun u H3=>r x l u H3 Q
theorem zbB {r:V→Option Int→Option Int→Hp→VK→Prop}(hr:SlR X r)(he:PE X e te)(hl:PO X lo tl)(hu:PO X hi th):PE X (.Subscript e (.Slice lo hi none p2) pos) (tSl r te tl th):=by
  intro pins s σ H Q I h;refine Subscript_ (thn (he pins s σ H _ I h) fun v s1 zq0=>?_);obtain ⟨x,H1,I1,r1,q1⟩:=zq0;refine wpAny_Slice (thn (hl pins s1 σ H1 _ I1 q1) fun vl s2 zq0=>?_);obtain ⟨l,H2,I2,pl,q2⟩:=zq0;refine thn (hu pins s2 σ H2 _ I2 q2) fun vu s3 zq1=>?_;obtain ⟨u,H3,I3,pu,q3⟩:=zq1;rw[evalPart_none];refine wpAny_pure ?_;have I4:Inv X pins σ H3 { s3 with heap:=s3.heap.push { cls:=.type "slice",data:=.fields #[vl,vu,.none] } }:=I3.kept (t':=s3.toks) fun b ob q=>yai _ q;obtain ⟨T,id,hT,ht,hg⟩:=hr pins { s3 with heap:=s3.heap.push { cls:=.type "slice",data:=.fields #[vl,vu,.none] } } σ H3 x v vl vu l u s3.heap.objs.size Q I4 r1 (Heap.IsSliceOf.new ..) pl pu q3;show wpAny (model X.prog X.w) X.A (subscriptTail e (.Slice lo hi none p2) v (.ref s3.heap.objs.size)) (EP X pins σ Q) X.xe { s3 with heap:=s3.heap.push { cls:=.type "slice",data:=.fields #[vl,vu,.none] } };exact tail_any (ops:=[.ref s3.heap.objs.size,v]) ht hT hg (by with_unfolding_all rfl)
def cutV (xs:List V)(lo hi:Option Int):List V:=(xs.drop (HT.sIx xs.length 0 lo)).take (HT.sIx xs.length xs.length hi - HT.sIx xs.length 0 lo)
theorem zgh (xs:List V)(lo hi:Option Int):(cutV xs lo hi).length≤xs.length:=by
  unfold cutV;rw[yao,yaN];omega
def rSlT (K:Frag):V→Option Int→Option Int→Hp→VK→Prop:=fun x lo hi H Q=>∃ a xs,x=.ref a∧SqT K H a xs∧
  ¬ (HT.sIx xs.length 0 lo=0∧HT.sIx xs.length xs.length hi=xs.length)∧∀ p,H p=none→Q (.ref p) (upd H p (.tup (cutV xs lo hi)))
theorem zrf:SlR X (rSlT X.K):=by
  intro pins s σ H x v vl vu lo hi sl Q I rx hs pl pu h;obtain ⟨a,xs,rfl,hx,hw,q⟩:=h;cases rx
  obtain ⟨its,r,ht,hz⟩:=I.tuple hx;have hlen:its.toArray.size=xs.length:=by rw[yat];exact r.length.symm
  refine ⟨"tuple",_,PyProof.Rows.slot_tuple_getitem.lookup,ht.typeIs,?_⟩;refine HT.getItem_tuple_cut ht hs pl pu (by rw[hlen];exact hw) ?_ (by rw[hlen];exact hz);rw[hlen];refine ⟨.ref s.heap.objs.size,_,I.laid (t':=s.toks) (o:=.tup (cutV xs lo hi)) (fun b ob q=>yai _ q) (yaa _) ?_,rfl,q _ (I.hok.fresh (yaa _))⟩;exact ⟨yaB (zgh xs lo hi) hz,_,(r.drop (HT.sIx xs.length 0 lo)).take (HT.sIx xs.length xs.length hi - HT.sIx xs.length 0 lo),IsTup.new _ _⟩
def zpP (K:Frag):R2:=fun x y H Q=>∃ a b xs ys,x=.ref a∧y=.ref b∧SqT K H a xs∧SqT K H b ys∧xs≠[]∧xs.length+ys.length≤sizeLine∧
  (ys=[]→Q (.ref a) H)∧(ys≠[]→∀ p,H p=none→Q (.ref p) (upd H p (.tup (xs++ys))))
theorem Vals.nil_iff {xs:List V}{us:List Value}(r:Vals xs us):us=[]↔xs=[]:=by
  cases r with
  | nil=>simp
  | cons _ _=>simp
theorem zf2:OpR X (binaryOp .Add) (zpP X.K):=by
  intro pins s σ H x y v u Q I rx ry h;obtain ⟨a,b,xs,ys,rfl,rfl,ha,hb,hx,hz,q1,q2⟩:=h;cases rx
  cases ry
  obtain ⟨its,r1,p1,_⟩:=I.tuple ha;obtain ⟨its2,r2,p2,_⟩:=I.tuple hb;refine HT.cat_tup p1 p2 (fun z=>hx (r1.nil_iff.mp z)) (fun z=>⟨.ref a,H,I,rfl,q1 (r2.nil_iff.mp z)⟩) (fun z=>?_) (by rw[← r1.length,← r2.length];exact hz);refine ⟨.ref s.heap.objs.size,_,I.laid (t':=s.toks) (o:=.tup (xs++ys)) (fun b ob q=>yai _ q) (yaa _) ?_,rfl,q2 (fun w=>z (r2.nil_iff.mpr w)) _ (I.hok.fresh (yaa _))⟩;exact ⟨by rw[yas];exact hz,_,r1.append r2,IsTup.new _ _⟩
end
end L2
namespace L2
open PySem PySem.Spec PyProof.Rows
def ixN (n:Nat)(i:Int):Option Nat:=if 0≤i then (if i < n then some i.toNat else none) else if -(n:Int)≤i then some (i+n).toNat else none
def atI {α:Type}(xs:List α)(i:Int):Option α:=(ixN xs.length i).bind fun j=>xs[j]?
theorem zmH {n:Nat}{i:Int}{j:Nat}(h:ixN n i=some j):seqIndex? i n=some j∧j < n∧-(n:Int)≤i∧i < n:=by
  unfold ixN at h;by_cases h0:0≤i
  · rw[if_pos h0]at h
    by_cases h1:i < n
    · rw[if_pos h1]at h
      have e:i.toNat=j:=yad h;exact ⟨by rw[seqIndex_of h0 h1,e],by omega,by omega,h1⟩
    · rw[if_neg h1]at h;cases h
  · rw[if_neg h0]at h
    by_cases h1:-(n:Int)≤i
    · rw[if_pos h1]at h
      have e:(i+n).toNat=j:=yad h;exact ⟨by rw[seqIndex_neg (by omega) h1,e],by omega,h1,by omega⟩
    · rw[if_neg h1]at h;cases h
theorem znl {α:Type}{xs:List α}{i:Int}{v:α}(h:atI xs i=some v):∃ j,seqIndex? i xs.length=some j∧xs[j]?=some v∧j < xs.length∧-(xs.length:Int)≤i∧i < xs.length:=by
  unfold atI at h;cases e:ixN xs.length i with
  | none=>rw[e]at h;cases h
  | some j=>
    rw[e]at h;obtain ⟨h1,h2,h3,h4⟩:=zmH e;exact ⟨j,h1,h,h2,h3,h4⟩
theorem zdw {α:Type}{xs:List α}{j:Nat}{v:α}(h:xs[j]?=some v):atI xs (j:Int)=some v:=by
  have hj:j < xs.length:=(yap.mp h).1;have e:ixN xs.length (j:Int)=some j:=by
    unfold ixN;rw[if_pos (by omega),if_pos (by omega)];simp
  unfold atI;rw[e];exact h
def zqN (b:Expr):Prop:=∀ o i,subscripted b false o i=operate [o,i] (getItem o i)
def IxR (X:Cx)(r:R2):Prop:=
  ∀(value slice:Expr) (pins:List (Addr×Obj)) (s:Shared) (σ:St) (H:Hp) (x y:V) (v u:Value) (Q:VK),Inv X pins σ H s→RelV x v→RelV y u→r x y H Q→
    subscripted slice false v u=operate [v,u] (getItem v u)→wpAny (model X.prog X.w) X.A (subscriptTail value slice v u) (EP X pins σ Q) X.xe s
def MtR (X:Cx)(id:String)(r:V→List V→Hp→VK→Prop):Prop:=
  ∀(pins:List (Addr×Obj)) (s:Shared) (σ:St) (H:Hp) (x:V) (xs:List V) (v:Value) (us:List Value) (Q:VK),Inv X pins σ H s→RelV x v→Vals xs us→r x xs H Q→
    wpAny (model X.prog X.w) X.A (call (.builtin id) (v::us)) (EP X pins σ Q) X.xe s
section
variable {X:Cx}{a b:Expr}{ta tb:TE}{pos:Pos}
theorem zaK {r:R2}(hr:IxR X r)(ha:PE X a ta)(hb:PE X b tb)(hs:zqN b):PE X (.Subscript a b pos) (tOp r ta tb):=by
  intro pins s σ H Q I h;exact Subscript_ (binT ha hb I h fun v u s2 x y H2 I2 rx ry q=>hr a b pins s2 σ H2 x y v u Q I2 rx ry q (hs _ _))
def rIxL (K:Frag):R2:=fun x y H Q=>∃ p xs i v,x=.ref p∧y=.int i∧SqL K H p xs∧atI xs i=some v∧Q v H
def rIxT (K:Frag):R2:=fun x y H Q=>∃ p xs i v,x=.ref p∧y=.int i∧SqT K H p xs∧atI xs i=some v∧Q v H
theorem zaX:IxR X (rIxL X.K):=by
  intro value slice pins s σ H x y v u Q I rx ry h hs;obtain ⟨p,xs,i,z,rfl,rfl,hq,he,q⟩:=h;cases rx
  obtain ⟨t,rfl⟩:=ry;obtain ⟨its,r,pl,hz⟩:=I.list hq;obtain ⟨j,h1,h2,h3,h4,h5⟩:=znl he;obtain ⟨w,ew,rw'⟩:=r.get h2;have hl:=r.length;have hn:=zj7;have fin:EP X pins σ Q w s:=⟨z,H,I,rw',q⟩;by_cases h0:0≤i
  · have hj:i.toNat=j:=by
      rw[seqIndex_of h0 h5]at h1;exact yad h1
    exact item_listR pl.isList h0 (by omega) (by rw[hj];simpa using ew) fin hs
  · have hj:(i+(its.toArray.size:Int)).toNat=j:=by
      rw[seqIndex_neg (by omega) h4]at h1;rw[yat,← hl];exact yad h1
    exact subscriptTail_builtinR (x:=w) pl.isList.typeIs slot_list_getitem.lookup
      (wpAny_getItem_list_neg (Q:=fun r s'=>r=w∧EP X pins σ Q r s') pl.isList (by omega) (by rw[yat] <;> omega) (by omega) (by rw[hj];simpa using ew) ⟨rfl,fin⟩) hs
theorem zaM:IxR X (rIxT X.K):=by
  intro value slice pins s σ H x y v u Q I rx ry h hs;obtain ⟨p,xs,i,z,rfl,rfl,hq,he,q⟩:=h;cases rx
  obtain ⟨t,rfl⟩:=ry;obtain ⟨its,r,pl,hz⟩:=I.tuple hq;obtain ⟨j,h1,h2,h3,h4,h5⟩:=znl he;obtain ⟨w,ew,rw'⟩:=r.get h2;have hl:=r.length;have hn:=zj7;have fin:EP X pins σ Q w s:=⟨z,H,I,rw',q⟩;exact subscriptTail_builtinR (x:=w) pl.typeIs slot_tuple_getitem.lookup
    (getItem_tuple (j:=j) (Q:=fun r s'=>r=w∧EP X pins σ Q r s') pl (by omega) (by omega) (by rw[yat,← hl];exact h1) (by simpa using ew) ⟨rfl,fin⟩) hs
theorem zkT (its:List Value)(n j:Nat)(u:Value):Obj.mapSeq (·.setIfInBounds j u) { cls:=.type "list",data:=.seq its.toArray n }={ cls:=.type "list",data:=.seq (its.set j u).toArray n }:=by
  simp[Obj.mapSeq]
theorem Inv.lst {pins:List (Addr×Obj)}{σ:St}{H:Hp}{s:Shared}{p:Addr}{xs:List V}(I:Inv X pins σ H s)(h:H p=some (.lst xs)) :
    ∃(its:List Value) (n:Nat),Vals xs its∧s.heap.get? p=some { cls:=.type "list",data:=.seq its.toArray n }∧xs.length≤sizeLine:=by
  obtain ⟨z,its,n,r,e⟩:=I.hok p _ h;exact ⟨its,n,r,e,z⟩
theorem Inv.lstUpd {pins:List (Addr×Obj)}{σ:St}{H:Hp}{s:Shared}{p:Addr}{xs ys:List V}{its its':List Value}{n n':Nat}{f:Obj→Obj}(I:Inv X pins σ H s)(h:H p=some (.lst xs))
    (ho:s.heap.get? p=some { cls:=.type "list",data:=.seq its.toArray n }) (hf:f { cls:=.type "list",data:=.seq its.toArray n }={ cls:=.type "list",data:=.seq its'.toArray n' }) (r:Vals ys its') (hz:ys.length≤sizeLine) (t:Nat) :
    Inv X pins σ (upd H p (.lst ys)) { s with heap:=s.heap.update p f,toks:=t }:=by
  have e:(s.heap.update p f).get? p=some { cls:=.type "list",data:=.seq its'.toArray n' }:=by
    rw[Heap.get?_update_self f ho (by rw[hf] <;> rfl),hf]
  refine I.write (x:=p) (e:=p) (by rw[h];trivial) (.inl rfl) (fun b u hb q=>(ybp _ _ (Ne.symm hb)).trans q) ⟨_,e⟩ ?_;exact ⟨hz,its',n',r,e⟩
def zsB:V→V→V→Hp→(Hp→Prop)→Prop:=fun o i v H Q=>∃ p xs k j,o=.ref p∧i=.int k∧H p=some (.lst xs)∧ixN xs.length k=some j∧Q (upd H p (.lst (xs.set j v)))
theorem zeg:PSet X zsB:=by
  intro pins s σ H o i v ov iv u Q I ro ri rv h;obtain ⟨p,xs,k,j,rfl,rfl,hp,hj,q⟩:=h;cases ro
  obtain ⟨t,rfl⟩:=ri;obtain ⟨its,n,r,ho,hz⟩:=I.lst hp;obtain ⟨h1,h2,h3,h4⟩:=zmH hj;have hl:=r.length;have hn:=zj7;have I':Inv X pins σ (upd H p (.lst (xs.set j v))) { s with heap:=s.heap.update p (Obj.mapSeq (·.setIfInBounds j u)) }:=
    I.lstUpd hp ho (zkT its n j u) (r.set rv j) (by rw[yb3];exact hz) s.toks
  by_cases h0:0≤k
  · have hk:k.toNat=j:=by
      rw[seqIndex_of h0 h4]at h1;exact yad h1
    exact PySem.W.ki_setAt ho h0 (by omega) (by rw[yat,← hl];exact h4) (by rw[hk];exact ⟨_,I',q⟩)
  · have hk:(k+(its.toArray.size:Int)).toNat=j:=by
      rw[seqIndex_neg (by omega) h3]at h1;rw[yat,← hl];exact yad h1
    exact PySem.W.ki_setBack ho (by omega) (by rw[yat,← hl];exact h3) (by omega) (by rw[hk];exact ⟨_,I',q⟩)
theorem zh8 (lo hi:Option Int)(n:Nat):(sliceBounds lo hi none n).1=((HT.sIx n 0 lo:Nat):Int)∧(sliceBounds lo hi none n).2.1=((HT.sIx n n hi:Nat):Int)∧(sliceBounds lo hi none n).2.2=1:=by
  refine ⟨?_,?_,rfl⟩
  · cases lo with
    | none=>simp[sliceBounds,HT.sIx]
    | some i=>
      simp only[sliceBounds,HT.sIx,Option.getD_none,show (1:Int) > 0 by decide,if_true];by_cases h:i < 0
      · simp only[h,if_true] <;> omega
      · simp only[h,if_false] <;> omega
  · cases hi with
    | none=>simp[sliceBounds,HT.sIx]
    | some i=>
      simp only[sliceBounds,HT.sIx,Option.getD_none,show (1:Int) > 0 by decide,if_true];by_cases h:i < 0
      · simp only[h,if_true] <;> omega
      · simp only[h,if_false] <;> omega
theorem zg8 (its:List Value)(lo hi:Option Int):slicePick its.toArray lo hi none=((its.drop (HT.sIx its.length 0 lo)).take (HT.sIx its.length its.length hi - HT.sIx its.length 0 lo)).toArray:=by
  obtain ⟨h1,h2,h3⟩:=zh8 lo hi its.toArray.size;unfold slicePick;rw[h1,h2,h3];simp only[sliceRange_one,pick_run,yat] <;> rfl
def rSlL (K:Frag):V→Option Int→Option Int→Hp→VK→Prop:=fun x lo hi H Q=>∃ a xs,x=.ref a∧SqL K H a xs∧∀ p,H p=none→Q (.ref p) (upd H p (.lst (cutV xs lo hi)))
theorem zlL:SlR X (rSlL X.K):=by
  intro pins s σ H x v vl vu lo hi sl Q I rx hs pl pu h;obtain ⟨a,xs,rfl,hx,q⟩:=h;cases rx
  obtain ⟨its,r,ht,hz⟩:=I.list hx;have hlen:=r.length;refine ⟨"list",_,slot_list_getitem.lookup,ht.isList.typeIs,?_⟩;refine wpAny_getItem_list_slice ht.isList hs pl pu .none (by simp) ?_ (by rw[yat] <;> omega)
  rw[zg8,← hlen];refine ⟨.ref s.heap.objs.size,_,I.laid (t':=s.toks) (o:=.lst (cutV xs lo hi)) (fun b ob q=>yai _ q) (yaa _) ?_,rfl,q _ (I.hok.fresh (yaa _))⟩;exact ⟨yaB (zgh xs lo hi) hz,_,0,(r.drop (HT.sIx xs.length 0 lo)).take (HT.sIx xs.length xs.length hi - HT.sIx xs.length 0 lo),yaD _ rfl⟩
def zdW:V→Bool
  | .non=>true
  | .bl _=>true
  | .int _=>true
  | .str _=>true
  | _=>false
def eqV:V→V→Bool
  | .non,.non=>true
  | .bl a,.bl b=>a == b
  | .bl a,.int b=>(if a then 1 else 0) == b
  | .int a,.bl b=>a == (if b then 1 else 0)
  | .int a,.int b=>a == b
  | .str a,.str b=>a == b
  | _,_=>false
theorem zsg {A:Around}{s:Shared}{y x:V}{u v:Value}(ry:RelV y u)(rx:RelV x v)(fy:zdW y=true)(fx:zdW x=true):SeqAt.EqAt A s u v (eqV y x):=by
  cases y with
  | non=>
    cases ry
    cases x with
    | non=>cases rx;exact SeqAt.EqAt.same _
    | bl b=>cases rx;exact SeqAt.EqAt.none_bool b
    | int b=>obtain ⟨t,rfl⟩:=rx;exact SeqAt.EqAt.none_int b t
    | str b=>obtain ⟨t,rfl⟩:=rx;exact SeqAt.EqAt.none_str b t
    | _=>exact absurd (show false=true from fx) yaC
  | bl a=>
    cases ry
    cases x with
    | non=>cases rx;exact SeqAt.EqAt.bool_none a
    | bl b=>cases rx;exact SeqAt.EqAt.bool_bool a b
    | int b=>obtain ⟨t,rfl⟩:=rx;exact SeqAt.EqAt.bool_int a b t
    | str b=>obtain ⟨t,rfl⟩:=rx;exact SeqAt.EqAt.bool_str a b t
    | _=>exact absurd (show false=true from fx) yaC
  | int a=>
    obtain ⟨t',rfl⟩:=ry;cases x with
    | non=>cases rx;exact SeqAt.EqAt.int_none a t'
    | bl b=>cases rx;exact SeqAt.EqAt.int_bool a t' b
    | int b=>obtain ⟨t,rfl⟩:=rx;exact SeqAt.EqAt.int_int a t' b t
    | str b=>obtain ⟨t,rfl⟩:=rx;exact SeqAt.EqAt.int_str a t' b t
    | _=>exact absurd (show false=true from fx) yaC
  | str a=>
    obtain ⟨t',rfl⟩:=ry;cases x with
    | non=>cases rx;exact SeqAt.EqAt.str_none a t'
    | bl b=>cases rx;exact SeqAt.EqAt.str_bool a t' b
    | int b=>obtain ⟨t,rfl⟩:=rx;exact SeqAt.EqAt.str_int a t' b t
    | str b=>obtain ⟨t,rfl⟩:=rx;exact SeqAt.EqAt.str_str a t' b t
    | _=>exact absurd (show false=true from fx) yaC
  | _=>exact absurd (show false=true from fy) yaC
def eqU (x:V)(u:Value):Bool:=match u with
  | .none=>eqV .non x
  | .bool b=>eqV (.bl b) x
  | .int i _=>eqV (.int i) x
  | .str z _=>eqV (.str z) x
  | _=>false
theorem zpt {x y:V}{u:Value}(r:RelV y u)(f:zdW y=true):eqU x u=eqV y x:=by
  cases y with
  | non=>cases r;rfl
  | bl b=>cases r;rfl
  | int i=>obtain ⟨t,rfl⟩:=r;rfl
  | str z=>obtain ⟨t,rfl⟩:=r;rfl
  | _=>exact absurd (show false=true from f) yaC
theorem zgq {x:V}:∀{xs:List V} {us:List Value},Vals xs us→xs.all zdW=true→us.any (eqU x)=xs.any fun y=>eqV y x
  | _,_,.nil,_=>rfl
  | y::xs,u::us,.cons r t,f=>by
    rw[ybM,ybo]at f;rw[ybc,ybc,zpt r f.1,zgq t f.2]
theorem zeB {A:Around}{s:Shared}{x:V}{v:Value}(rx:RelV x v)(fx:zdW x=true):∀{xs:List V} {us:List Value},Vals xs us→xs.all zdW=true→∀ u∈us,SeqAt.EqAt A s u v (eqU x u)
  | _,_,.nil,_=>fun u hu=>by cases hu
  | y::xs,u::us,.cons r t,f=>fun u' hu=>by
    rw[ybM,ybo]at f;rcases yah.mp hu with rfl | hu
    · rw[zpt r f.1];exact zsg r rx f.1 fx
    · exact zeB rx fx t f.2 u' hu
def inV (x:V)(xs:List V):Bool:=xs.any fun y=>eqV y x
def rIn (K:Frag)(neg:Bool):R2:=fun x y H Q=>∃ p xs,y=.ref p∧(SqL K H p xs∨SqT K H p xs)∧zdW x=true∧xs.all zdW=true∧Q (.bl (if neg then !inV x xs else inV x xs)) H
theorem zeA:OpR X (compareOp .In) (rIn X.K false):=by
  intro pins s σ H x y v u Q I rx ry h;obtain ⟨p,xs,rfl,hq,fx,fs,q⟩:=h;cases ry
  rcases hq with hq | hq
  · obtain ⟨its,r,pl,hz⟩:=I.list hq
    refine SeqAt.in_listAt (eqU x) pl.isList (fun w hw=>zeB rx fx r fs w (by simpa using hw)) ⟨.bl _,H,I,rfl,?_⟩;rw[show its.toArray.any (eqU x)=its.any (eqU x) by simp,zgq r fs];exact q
  · obtain ⟨its,r,pl,hz⟩:=I.tuple hq
    refine SeqAt.in_tupleAt (eqU x) pl (fun w hw=>zeB rx fx r fs w (by simpa using hw)) ⟨.bl _,H,I,rfl,?_⟩;rw[show its.toArray.any (eqU x)=its.any (eqU x) by simp,zgq r fs];exact q
theorem zb2:OpR X (compareOp .NotIn) (rIn X.K true):=by
  intro pins s σ H x y v u Q I rx ry h;obtain ⟨p,xs,rfl,hq,fx,fs,q⟩:=h;cases ry
  rcases hq with hq | hq
  · obtain ⟨its,r,pl,hz⟩:=I.list hq
    refine SeqAt.notIn_listAt (eqU x) pl.isList (fun w hw=>zeB rx fx r fs w (by simpa using hw)) ⟨.bl _,H,I,rfl,?_⟩;rw[show its.toArray.any (eqU x)=its.any (eqU x) by simp,zgq r fs];exact q
  · obtain ⟨its,r,pl,hz⟩:=I.tuple hq
    refine SeqAt.notIn_tupleAt (eqU x) pl (fun w hw=>zeB rx fx r fs w (by simpa using hw)) ⟨.bl _,H,I,rfl,?_⟩;rw[show its.toArray.any (eqU x)=its.any (eqU x) by simp,zgq r fs];exact q
theorem zak:zdj X (.builtin "len") (fun xs H Q=>∃ p ys,xs=[.ref p]∧(SqL X.K H p ys∨SqT X.K H p ys)∧Q (.int ys.length) H):=by
  intro pins s σ H xs us Q I r h;obtain ⟨p,ys,rfl,hq,q⟩:=h;obtain ⟨u,rfl,rx⟩:=zfP r;cases rx
  have hn:=zj7;rcases hq with hq | hq
  · obtain ⟨its,r',pl,hz⟩:=I.list hq
    have hlen:=r'.length;exact Calls.call_len_list pl.isList (by simp only[yat] <;> omega) ⟨.int ys.length,H,I.tok _,⟨s.toks+1,by rw[yat,hlen]⟩,q⟩
  · obtain ⟨its,r',pl,hz⟩:=I.tuple hq
    have hlen:=r'.length;exact len_tuple pl (by simp only[yat] <;> omega) ⟨.int ys.length,H,I.tok _,⟨s.toks+1,by rw[yat,hlen]⟩,q⟩
theorem zcB:zdj X (.type "list") (fun xs H Q=>∃ p ys,xs=[.ref p]∧(SqL X.K H p ys∨SqT X.K H p ys)∧∀ l,H l=none→Q (.ref l) (upd H l (.lst ys))):=by
  intro pins s σ H xs us Q I r h;obtain ⟨p,ys,rfl,hq,q⟩:=h;obtain ⟨u,rfl,rx⟩:=zfP r;cases rx
  have fin:∀(its:List Value),Vals ys its→ys.length≤sizeLine→∀(h':Heap) (c':Nat),(∀ b o',s.heap.get? b=some o'→h'.get? b=some o')→
      h'.get? s.heap.objs.size=some { cls:=.type "list",dict:=none,data:=.seq its.toArray c',slots:=#[] }→EP X pins σ Q (.ref s.heap.objs.size) { s with heap:=h' }:=fun its r' hz h' c' kp e=>
    ⟨.ref s.heap.objs.size,_,I.laid (t':=s.toks) kp (yaa _) (show zbe X.prog X.w _ h' _ (.lst ys) from ⟨hz,its,c',r',e⟩),rfl,q _ (I.hok.fresh (yaa _))⟩
  rcases hq with hq | hq
  · obtain ⟨its,r',pl,hz⟩:=I.list hq
    have hlen:=r'.length;obtain ⟨o,ho,hc,n,hd⟩:=pl.isList;exact call_list_seq p (.inl rfl) ho hc hd (fun h' c' kp e=>fin its r' hz h' c' kp e) (by simp only[yat] <;> omega)
  · obtain ⟨its,r',pl,hz⟩:=I.tuple hq
    have hlen:=r'.length;obtain ⟨o,ho,hc,n,hd⟩:=pl;exact call_list_seq p (.inr rfl) ho hc hd (fun h' c' kp e=>fin its r' hz h' c' kp e) (by simp only[yat] <;> omega)
theorem zaS:zdj X (.type "tuple") (fun xs H Q=>∃ p ys,xs=[.ref p]∧((SqL X.K H p ys∧∀ l,H l=none→Q (.ref l) (upd H l (.tup ys)))∨(SqT X.K H p ys∧Q (.ref p) H))):=by
  intro pins s σ H xs us Q I r h;obtain ⟨p,ys,rfl,h⟩:=h;obtain ⟨u,rfl,rx⟩:=zfP r;cases rx
  rcases h with ⟨hq,q⟩ | ⟨hq,q⟩
  · obtain ⟨its,r',pl,hz⟩:=I.list hq
    have hlen:=r'.length;refine call_tuple_list pl.isList (fun h' kp=>?_) (by simp only[yat] <;> omega)
    have I1:Inv X pins σ H { s with heap:=h' }:=I.kept (t':=s.toks) kp;have I2:Inv X pins σ (upd H h'.objs.size (.tup ys)) { s with heap:=h'.push { cls:=.type "tuple",data:=.seq its.toArray } }:=
      I1.laid (t':=s.toks) (fun b o e=>yai _ e) (yaa _) (show zbe X.prog X.w _ _ _ (.tup ys) from ⟨hz,its,r',IsTup.new _ _⟩)
    exact ⟨.ref h'.objs.size,_,I2,rfl,q _ (I1.hok.fresh (yaa _))⟩
  · obtain ⟨its,r',pl,hz⟩:=I.tuple hq
    exact call_tuple_same pl ⟨.ref p,H,I,rfl,q⟩
def tyV (K:Frag)(T:String)(x:V)(H:Hp):Prop:=match x with
  | .str _=>T = "str"
  | .int _=>T = "int"
  | .ref p=>(T = "list"∧∃ xs,SqL K H p xs)∨(T = "tuple"∧∃ o,K.lookup p=some o∧o.cls=.type "tuple"∧o.dict=none)∨
      (T = "dict"∧((∃ kvs,H p=some (.dK kvs))∨∃ kvs,H p=some (.dT kvs)))∨(T = "set"∧∃ S n,H p=some (.set S n))
  | _=>False
theorem zoX {pins:List (Addr×Obj)}{σ:St}{H:Hp}{s:Shared}{T:String}{x:V}{v:Value}(I:Inv X pins σ H s)(r:RelV x v)(ty:tyV X.K T x H) :
    s.TypeIs v T∧∀ a,v=.ref a→∃ ob,s.heap.get? a=some ob∧ob.dict=none:=by
  cases x with
  | str z=>
    obtain ⟨t,rfl⟩:=r;cases (show T = "str" from ty)
    exact ⟨typeIs_str s z t,fun _ e=>nomatch e⟩
  | int i=>
    obtain ⟨t,rfl⟩:=r;cases (show T = "int" from ty)
    exact ⟨typeIs_int s i t,fun _ e=>nomatch e⟩
  | ref p=>
    cases r
    rcases ty with ⟨rfl,xs,hq⟩ | ⟨rfl,o,hk,hc,hd⟩ | ⟨rfl,hk⟩ | ⟨rfl,S,n,hk⟩
    · obtain ⟨its,_,pl,_⟩:=I.list hq
      refine ⟨pl.isList.typeIs,fun a e=>?_⟩;cases e
      obtain ⟨o,n,e,c,hd,_⟩:=pl;exact ⟨o,e,hd⟩
    · refine ⟨⟨o,I.kIn p o hk,hc⟩,fun a e=>?_⟩
      cases e
      exact ⟨o,I.kIn _ o hk,hd⟩
    · have z:∃ o,s.heap.get? p=some o∧o.ExactDict:=by
        rcases hk with ⟨kvs,hk⟩ | ⟨kvs,hk⟩
        · obtain ⟨_,_,_,_,o,_,_,e,ex,_⟩:=I.hok p _ hk
          exact ⟨o,e,ex⟩
        · obtain ⟨_,_,_,_,o,_,_,e,ex,_⟩:=I.hok p _ hk
          exact ⟨o,e,ex⟩
      obtain ⟨o,e,ex⟩:=z;refine ⟨⟨o,e,ex.1⟩,fun a e2=>?_⟩;cases e2
      exact ⟨o,e,ex.2.1⟩
    · obtain ⟨o,_,_,_,e,ex,_⟩:=I.hok p _ hk
      refine ⟨⟨o,e,ex.1⟩,fun a e2=>?_⟩;cases e2
      exact ⟨o,e,ex.2.1⟩
  | _=>exact False.elim ty
def tBM0 (K:Frag)(T:String)(r:V→List V→Hp→VK→Prop)(to:TE):TE:=fun σ H Q=>to σ H fun x H1=>tyV K T x H1∧r x [] H1 Q
def tBM (K:Frag)(T:String)(r:V→List V→Hp→VK→Prop)(to:TE)(t:TA):TE:=fun σ H Q=>to σ H fun x H1=>tyV K T x H1∧t σ H1 fun xs H2=>r x xs H2 Q
variable {o e:Expr}{es:List Expr}{to:TE}{t:TA}{name:Str}{apos cpos:Pos}{T id:String}{r:V→List V→Hp→VK→Prop}
theorem zrt (pa:PlainAttrs T)(slot:Slot T name id)(hty:typeOf (.builtin id)=pure (.type "method_descriptor"))(hm:MtR X id r)(ho:PE X o to)
    (hbase:attributeBase o name X.env (eval o X.env)=eval o X.env:=by rfl) (hline:(apos.endLine == cpos.line)=true:=by rfl):PE X (.Call (.Attribute o name apos) [] [] cpos) (tBM0 X.K T r to):=by
  intro pins s σ H Q I h;refine wpAny_Call_method0_late hbase hline (thn (ho pins s σ H _ I h) fun v s1 zq0=>?_);obtain ⟨x,H1,I1,r1,ty,q1⟩:=zq0;obtain ⟨h1,h2⟩:=zoX I1 r1 ty;exact ⟨T,id,pa,slot,hty,h1,h2,Calls.callWith_builtin rfl (PySem.evalArgs_none (hm pins s1 σ H1 x [] v [] Q I1 r1 .nil q1))⟩
theorem zgz (pa:PlainAttrs T)(slot:Slot T name id)(hty:typeOf (.builtin id)=pure (.type "method_descriptor"))(hm:MtR X id r)(ho:PE X o to)(ha:PA X (e::es) t)
    (hbase:attributeBase o name X.env (eval o X.env)=eval o X.env:=by rfl)
    (hfew:((backTo cpos (starEach (e::es) X.env)).all (fun x=>!x.1) && (backToKw cpos (keywordEach [] X.env)).all (fun x=>x.1.isSome)
      && decide ((e::es).length+([]:List Keyword).length+(if ([]:List Keyword).isEmpty then 0 else 1) < 30))=true:=by rfl)
    (hline:(apos.endLine == cpos.line)=true:=by rfl) (hs:starEach (e::es) X.env=(false,eval e X.env)::starEach es X.env:=by rfl) (hplain:(backTo cpos (starEach es X.env)).any (·.1)=false:=by rfl) :
    PE X (.Call (.Attribute o name apos) (e::es) [] cpos) (tBM X.K T r to t):=by
  intro pins s σ H Q I h;refine wpAny_Call_method_late hbase hfew hline rfl (thn (ho pins s σ H _ I h) fun v s1 zq0=>?_);obtain ⟨x,H1,I1,r1,ty,q1⟩:=zq0;obtain ⟨h1,h2⟩:=zoX I1 r1 ty;refine ⟨T,id,pa,slot,hty,h1,h2,?_⟩;have hA:=ha cpos pins s1 σ H1 _ I1 q1;rw[hs]at hA ⊢;refine Calls.callWith_builtin (by show (false || (backTo cpos (starEach es X.env)).any (·.1))=false;rw[hplain] <;> rfl) (Calls.evalArgs_plain ?_)
  exact thn hA fun us s2 zq0=>(by obtain ⟨vs,H2,I2,r2,q2⟩:=zq0;exact hm pins s2 σ H2 x vs v us Q I2 r1 r2 q2)
end
end L2
namespace L2
open PySem PySem.Spec PyProof.Rows
def MtM (X:Cx)(id:String)(r:V→List V→Hp→VK→Prop):Prop:=
  ∀(pins:List (Addr×Obj)) (s:Shared) (σ:St) (H:Hp) (x:V) (xs:List V) (v:Value) (us:List Value) (Q:VK),Inv X pins σ H s→RelV x v→Vals xs us→r x xs H Q→
    wpAny (model X.prog X.w) X.A (call (.builtin id) (v::us)) (EP X pins σ Q) X.xe s
theorem Vals.one:∀{x:V} {us:List Value},Vals [x] us→∃ u,us=[u]∧RelV x u
  | _,_,.cons r .nil=>⟨_,rfl,r⟩
section
variable {X:Cx}{pins:List (Addr×Obj)}{σ:St}{H:Hp}{s:Shared}{l b:Addr}{xs ys zs:List V}
theorem Inv.lset {its its':List Value}{n:Nat}{f:Array Value→Array Value}{t':Nat}(I:Inv X pins σ H s)(hH:H l=some (.lst xs))
    (e:s.heap.get? l=some { cls:=.type "list",data:=.seq its.toArray n }) (hf:f its.toArray=its'.toArray) (hv:Vals ys its') (hz:ys.length≤sizeLine) :
    Inv X pins σ (upd H l (.lst ys)) { s with heap:=s.heap.update l (Obj.mapSeq f),toks:=t' }:=by
  have q:=PySem.IsL.update e f;rw[hf]at q;refine I.write (x:=l) (e:=l) (by rw[hH];exact trivial) (.inl rfl) (fun b' u hb hu=>(ybp s.heap (Obj.mapSeq f) (Ne.symm hb)).trans hu) ⟨_,q⟩ ?_;exact ⟨hz,its',_,hv,q⟩
theorem Inv.lnew {its:List Value}{t':Nat}(I:Inv X pins σ H s)(hv:Vals ys its)(hz:ys.length≤sizeLine) :
    Inv X pins σ (upd H s.heap.objs.size (.lst ys)) { s with heap:=s.heap.push { cls:=.type "list",data:=.seq its.toArray },toks:=t' }:=
  I.laid (fun _ _ q=>yai _ q) (yaa _) ⟨hz,its,0,hv,yaD _ rfl⟩
theorem Inv.fresh (I:Inv X pins σ H s):H s.heap.objs.size=none:=I.hok.fresh (yaa _)
theorem Inv.lstM (I:Inv X pins σ H s)(hH:H l=some (.lst xs)):xs.length≤sizeLine∧∃(its:List Value) (n:Nat),Vals xs its∧xs.length=its.length∧s.heap.get? l=some { cls:=.type "list",data:=.seq its.toArray n }:=by
  obtain ⟨z,its,n,r,e⟩:=I.hok l _ hH;exact ⟨z,its,n,r,r.length,e⟩
theorem zof {n:Nat}(h:n≤sizeLine):Builtin.List.listTooLong n=false:=by
  unfold Builtin.List.listTooLong;exact yaf (by omega)
end
section
variable {X:Cx}
def zpR:V→List V→Hp→VK→Prop:=fun x vs H Q=>∃ l xs y,x=.ref l∧vs=[y]∧H l=some (.lst xs)∧xs.length < sizeLine∧Q .non (upd H l (.lst (xs++[y])))
theorem zbO:MtM X "list.append" zpR:=by
  intro pins s σ H x vs v us Q I rx rv h;obtain ⟨l,xs,y,rfl,rfl,hH,hz,q⟩:=h;cases rx
  obtain ⟨u,rfl,ru⟩:=rv.one;obtain ⟨z,its,n,r,hl,e⟩:=I.lstM hH;refine call_meets F.slot_list_append ⟨_,e,rfl⟩ F.entry_list_append (F.args_list_append_2 _ _) (PySem.list_append l its.toArray n u (by rw[yat];omega)) ⟨e,?_⟩;refine ⟨.non,_,I.lset (its':=its++[u]) hH e (by simp) (r.append (.cons ru .nil)) ?_,rfl,q⟩;rw[yas,ybk];omega
def zpO:V→List V→Hp→VK→Prop:=fun x vs H Q=>∃ l b xs zs,x=.ref l∧vs=[.ref b]∧H l=some (.lst xs)∧H b=some (.lst zs)∧xs.length+zs.length≤sizeLine∧Q .non (upd H l (.lst (xs++zs)))
theorem zmk:MtM X "list.extend" zpO:=by
  intro pins s σ H x vs v us Q I rx rv h;obtain ⟨l,b,xs,zs,rfl,rfl,hH,hB,hz,q⟩:=h;cases rx
  obtain ⟨u,rfl,ru⟩:=rv.one;cases ru
  obtain ⟨z,its,n,r,hl,e⟩:=I.lstM hH;obtain ⟨z2,its2,n2,r2,hl2,e2⟩:=I.lstM hB;have hsz:its.toArray.size+its2.toArray.size≤sizeLine:=by rw[yat,yat];omega
  have hlong:¬ (!its.toArray.isEmpty && Builtin.List.listTooLong (its.toArray.size+its2.toArray.size))=true:=by
    rw[zof hsz,yb4];exact yaC
  refine call_meets F.slot_list_extend ⟨_,e,rfl⟩ F.entry_list_extend (F.args_list_extend_2 _ _)
    (AutoSeq1.list_extend_list_list_0 l its.toArray n b its2.toArray n2 hlong (by rw[yat];omega) (by omega)) ⟨e,e2,?_⟩
  refine ⟨.non,_,I.lset (its':=its++its2) hH e (by simp) (r.append r2) ?_,rfl,q⟩;rw[yas];omega
def rCat:R2:=fun x y H Q=>∃ l b xs zs,x=.ref l∧y=.ref b∧H l=some (.lst xs)∧H b=some (.lst zs)∧xs.length+zs.length≤sizeLine∧∀ p,H p=none→Q (.ref p) (upd H p (.lst (xs++zs)))
theorem zpi:OpR X (binaryOp .Add) rCat:=by
  intro pins s σ H x y v u Q I rx ry h;obtain ⟨l,b,xs,zs,rfl,rfl,hH,hB,hz,q⟩:=h;cases rx
  cases ry
  obtain ⟨z,its,n,r,hl,e⟩:=I.lstM hH;obtain ⟨z2,its2,n2,r2,hl2,e2⟩:=I.lstM hB;refine PySem.P.add_list e e2 ?_ (by rw[yat,yat];omega);have ea:its.toArray++its2.toArray=(its++its2).toArray:=by simp
  rw[ea];exact ⟨.ref _,_,I.lnew (t':=s.toks) (r.append r2) (by rw[yas];omega),rfl,q _ I.fresh⟩
end
end L2
namespace L2
open PySem PySem.Spec PyProof.Rows
section
variable {κ:Type}[DecidableEq κ]
def valV (kvs:List (κ×V))(k:κ):Option V:=(kvs.find? fun kv=>decide (kv.1=k)).map (·.2)
def putK (kvs:List (κ×V))(k:κ)(v:V):List (κ×V):=
  if (kvs.any fun kv=>decide (kv.1=k))=true then kvs.map (fun kv=>if kv.1=k then (kv.1,v) else kv) else kvs++[(k,v)]
theorem zcs {p:κ×V}{r:List (κ×V)}{k:κ}(e:p.1=k):valV (p::r) k=some p.2:=by simp[valV,ybz,e]
theorem zbw {p:κ×V}{r:List (κ×V)}{k:κ}(e:¬ p.1=k):valV (p::r) k=valV r k:=by simp[valV,ybz,e]
theorem zgZ (k:κ):∀ kvs:List (κ×V),(kvs.any fun kv=>decide (kv.1=k))=(valV kvs k).isSome
  | []=>rfl
  | p::r=>by
    rw[ybc];by_cases e:p.1=k
    · simp only[zcs e,yaj e,Bool.true_or,Option.isSome_some]
    · rw[zbw e,yaf e,Bool.false_or];exact zgZ k r
theorem zc9 (kvs:List (κ×V))(k:κ)(v:V):(putK kvs k v).length≤kvs.length+1:=by
  unfold putK;split
  · rw[yab];omega
  · rw[yas,yaI,ybq];omega
theorem zeo {kvs:List (κ×V)}{k:κ}(v:V)(h:valV kvs k=none):putK kvs k v=kvs++[(k,v)]:=by
  unfold putK;rw[zgZ,h];exact if_neg (by decide)
theorem RelO.isSome_eq {o:Option V}{u:Option Value}(r:RelO o u):o.isSome=u.isSome:=by
  cases o with
  | none=>cases u with
    | none=>rfl
    | some _=>exact (show False from r).elim
  | some _=>cases u with
    | none=>exact (show False from r).elim
    | some _=>rfl
theorem KV.val {kvs:List (κ×V)}{vs:List (κ×Value)}(r:KV kvs vs)(k:κ):RelO (valV kvs k) (valueAt vs k):=by
  unfold KV at r
  induction r with
  | nil=>exact True.intro
  | @cons p q ps qs h t ih=>
    obtain ⟨h1,h2⟩:=h;by_cases e:p.1=k
    · have e':q.1=k:=h1.symm.trans e
      have b:valueAt (q::qs) k=some q.2:=by simp[valueAt,ybz,e']
      rw[zcs e,b];exact h2
    · have e':¬ q.1=k:=fun z=>e (h1.trans z)
      have b:valueAt (q::qs) k=valueAt qs k:=by simp[valueAt,ybz,e']
      rw[zbw e,b];exact ih
theorem KV.any {kvs:List (κ×V)}{vs:List (κ×Value)}(r:KV kvs vs)(k:κ):(kvs.any fun kv=>decide (kv.1=k))=vs.any fun kv=>decide (kv.1=k):=by
  unfold KV at r
  induction r with
  | nil=>rfl
  | cons h t ih=>rw[ybc,ybc,ih,h.1]
theorem KV.repl {kvs:List (κ×V)}{vs:List (κ×Value)}(r:KV kvs vs)(k:κ){y:V}{u:Value}(ry:RelV y u) :
    KV (kvs.map fun kv=>if kv.1=k then (kv.1,y) else kv) (vs.map fun kv=>if kv.1=k then (kv.1,u) else kv):=by
  unfold KV at r ⊢
  induction r with
  | nil=>exact .nil
  | @cons p q ps qs h t ih=>
    rw[yan,yan];refine .cons ?_ ih;obtain ⟨h1,h2⟩:=h;by_cases e:p.1=k
    · rw[if_pos e,if_pos (h1.symm.trans e)];exact ⟨h1,ry⟩
    · rw[if_neg e,if_neg (fun z=>e (h1.trans z))];exact ⟨h1,h2⟩
theorem KV.put {kvs:List (κ×V)}{vs:List (κ×Value)}(r:KV kvs vs)(k:κ){y:V}{u:Value}(ry:RelV y u):KV (putK kvs k y) (stored vs k u):=by
  unfold putK stored;rw[r.any k];by_cases e:(vs.any fun kv=>decide (kv.1=k))=true
  · rw[if_pos e,if_pos e];exact r.repl k ry
  · rw[if_neg e,if_neg e];exact Paired.snoc r ⟨rfl,ry⟩
theorem KV.length {kvs:List (κ×V)}{vs:List (κ×Value)}(r:KV kvs vs):kvs.length=vs.length:=Paired.length r
end
theorem zmF {P:Program}{w:World}{k:Key}{u:Value}(r:RelV (kV k) u):(zbc P w).is k u=true:=by
  cases k with
  | inl i=>obtain ⟨t,e⟩:=(show ∃ t,u=Value.int i t from r);subst e;exact zi1 P w i t
  | inr x=>obtain ⟨t,e⟩:=(show ∃ t,u=Value.str x t from r);subst e;exact zi0 P w x t
theorem zik {P:Program}{w:World}:∀{ks:List Key} {us:List Value},Vals (ks.map kV) us→ItemsAre (zbc P w) ks us
  | [],_,r=>by rw[ybN]at r;cases r;exact .nil
  | k::ks,_,r=>by
    rw[yan]at r;cases r with
    | cons h t=>exact .cons (zmF h) (zik t)
abbrev KT (H:Hp):List (List Key×V)→List (List Key×Addr×Value)→Prop:=Paired fun p q=>p.1=q.1∧H q.2.1=some (.tup (p.1.map kV))∧RelV p.2 q.2.2
theorem KT.val {H:Hp}{kvs:List (List Key×V)}{xs:List (List Key×Addr×Value)}(r:KT H kvs xs)(k:List Key):RelO (valV kvs k) ((atKey xs k).map (·.2)):=by
  induction r with
  | nil=>exact True.intro
  | @cons p q ps qs h t ih=>
    obtain ⟨h1,_,h2⟩:=h;by_cases e:p.1=k
    · have e':q.1=k:=h1.symm.trans e
      have b:atKey (q::qs) k=some q.2:=by simp[atKey,ybz,e']
      rw[zcs e,b];exact h2
    · have e':¬ q.1=k:=fun z=>e (h1.trans z)
      have b:atKey (q::qs) k=atKey qs k:=by simp[atKey,ybz,e']
      rw[zbw e,b];exact ih
theorem KT.repl {H:Hp}{kvs:List (List Key×V)}{xs:List (List Key×Addr×Value)}(r:KT H kvs xs)(k:List Key){y:V}{u:Value}(ry:RelV y u) :
    KT H (kvs.map fun kv=>if kv.1=k then (kv.1,y) else kv) (xs.map (putAt k u)):=by
  induction r with
  | nil=>exact .nil
  | @cons p q ps qs h t ih=>
    rw[yan,yan];refine .cons ?_ ih;obtain ⟨h1,h2,h3⟩:=h;unfold putAt;by_cases e:p.1=k
    · rw[if_pos e,if_pos (h1.symm.trans e)];exact ⟨h1,h2,ry⟩
    · rw[if_neg e,if_neg (fun z=>e (h1.trans z))];exact ⟨h1,h2,h3⟩
theorem KT.put {H:Hp}{kvs:List (List Key×V)}{xs:List (List Key×Addr×Value)}(r:KT H kvs xs)(k:List Key){b:Addr}{y:V}{u:Value}(hb:H b=some (.tup (k.map kV)))(ry:RelV y u) :
    KT H (putK kvs k y) (storedH xs k b u):=by
  have e:(kvs.any fun kv=>decide (kv.1=k))=(atKey xs k).isSome:=by
    rw[zgZ,(r.val k).isSome_eq,Option.isSome_map]
  unfold putK storedH;rw[e];by_cases q:(atKey xs k).isSome=true
  · rw[if_pos q,if_pos q];exact r.repl k ry
  · rw[if_neg q,if_neg q];exact Paired.snoc r ⟨rfl,hb,ry⟩
theorem KT.keeps {H H':Hp}{kvs:List (List Key×V)}{xs:List (List Key×Addr×Value)}(r:KT H kvs xs)(ht:∀ b ys,H b=some (.tup ys)→H' b=some (.tup ys)):KT H' kvs xs:=
  Paired.mapP r fun _ _ z=>⟨z.1,ht _ _ z.2.1,z.2.2⟩
section
variable {P:Program}{w:World}{H:Hp}{h:Heap}{a:Addr}
theorem zrh {u:HO}(ok:HOk P w H h)(e:Rd H a u):zbe P w H h a u:=e.ok ok
theorem zoD {kvs:List (Key×V)}(ok:HOk P w H h)(e:Rd H a (.dK kvs)):kvs.length≤sizeLine∧(a == sysModules)=false∧∃ vs,KV kvs vs∧h.DictOf (zbc P w) a vs:=
  show zbe P w H h a (.dK kvs) from zrh ok e
theorem zqD {kvs:List (Key×V)}(ok:HOk P w H h)(e:H a=some (.dK kvs)):kvs.length≤sizeLine∧(a == sysModules)=false∧∃ vs,KV kvs vs∧h.DictOf (zbc P w) a vs:=zoD ok (.inl e)
theorem zkc {ks:List Key}(ok:HOk P w H h)(e:H a=some (.tup (ks.map kV))):(tupleKind (zbc P w)).is h ks a:=by
  obtain ⟨_,its,r,o,h1,h2,n,h3⟩:=(show zbe P w H h a (.tup (ks.map kV)) from ok a _ e);exact ⟨o,its.toArray,n,h1,h2,h3,by simpa using zik r⟩
theorem zoB {kvs:List (List Key×V)}(ok:HOk P w H h)(e:Rd H a (.dT kvs)):kvs.length≤sizeLine∧(a == sysModules)=false∧
    ∃ xs,KT H kvs xs∧h.DictOfH (tupleKind (zbc P w)) a xs:=by
  obtain ⟨z,y,xs,r,o,es,ep,h1,h2,h3,h4,h5⟩:=(show zbe P w H h a (.dT kvs) from zrh ok e);refine ⟨z,y,xs,r,o,es,ep,h1,h2,h3,h4,fun x hx=>?_,h5⟩;have all:∀{l:List (List Key×V)} {m:List (List Key×Addr×Value)},KT H l m→∀ x∈m,(tupleKind (zbc P w)).is h x.1 x.2.1:=by
    intro l m q
    induction q with
    | nil=>intro x hx;exact nomatch hx
    | @cons p q ps qs hq t ih=>
      intro x hx;rcases yah.mp hx with e | hx
      · subst e
        exact zkc ok (by rw[← hq.1];exact hq.2.1)
      · exact ih x hx
  exact all r x hx
theorem zsM {kvs:List (List Key×V)}(ok:HOk P w H h)(e:H a=some (.dT kvs)):kvs.length≤sizeLine∧(a == sysModules)=false∧
    ∃ xs,KT H kvs xs∧h.DictOfH (tupleKind (zbc P w)) a xs:=zoB ok (.inl e)
end
def DGet (H:Hp)(a:Addr)(y:V)(r:Option V):Prop:=
  (∃ kvs k,Rd H a (.dK kvs)∧y=kV k∧r=valV kvs k)∨∃ kvs k b,Rd H a (.dT kvs)∧y=.ref b∧H b=some (.tup (k.map kV))∧r=valV kvs k
def DPut (H:Hp)(a:Addr)(y v:V)(H':Hp):Prop:=
  (∃ kvs k,H a=some (.dK kvs)∧y=kV k∧kvs.length < sizeLine∧H'=upd H a (.dK (putK kvs k v)))∨
  ∃ kvs k b,H a=some (.dT kvs)∧y=.ref b∧H b=some (.tup (k.map kV))∧kvs.length < sizeLine∧H'=upd H a (.dT (putK kvs k v))
theorem DGet.k {H:Hp}{a:Addr}{kvs:List (Key×V)}{k:Key}(e:H a=some (.dK kvs)):DGet H a (kV k) (valV kvs k):=.inl ⟨kvs,k,.inl e,rfl,rfl⟩
theorem DGet.t {H:Hp}{a b:Addr}{kvs:List (List Key×V)}{k:List Key}(e:H a=some (.dT kvs))(eb:H b=some (.tup (k.map kV))):DGet H a (.ref b) (valV kvs k):=.inr ⟨kvs,k,b,.inl e,rfl,eb,rfl⟩
theorem DPut.k {H:Hp}{a:Addr}{kvs:List (Key×V)}{k:Key}{v:V}(e:H a=some (.dK kvs))(hl:kvs.length < sizeLine):DPut H a (kV k) v (upd H a (.dK (putK kvs k v))):=.inl ⟨kvs,k,e,rfl,hl,rfl⟩
theorem DPut.t {H:Hp}{a b:Addr}{kvs:List (List Key×V)}{k:List Key}{v:V}(e:H a=some (.dT kvs))(eb:H b=some (.tup (k.map kV)))(hl:kvs.length < sizeLine) :
    DPut H a (.ref b) v (upd H a (.dT (putK kvs k v))):=.inr ⟨kvs,k,b,e,rfl,eb,hl,rfl⟩
section
variable {X:Cx}{pins:List (Addr×Obj)}{σ:St}{H:Hp}{s:Shared}{a:Addr}{y v:V}{u r:Value}{o:Option V}{A:Around}{E:Value→Shared→Prop}
theorem Inv.big (I:Inv X pins σ H s):sysModules < s.heap.objs.size:=by
  have h:mainGlobals < s.heap.objs.size:=(I.mod.glob.keeps I.bk).lt;exact Nat.lt_trans (by decide) h
theorem zm6 {Q:Value→Shared→Prop}(hu:A.units+1 < cLine)(I:Inv X pins σ H s)(g:DGet H a y (some v))(ry:RelV y u)(h:∀ w' s',Inv X pins σ H s'→RelV v w'→Q w' s') :
    wpAny (model X.prog X.w) A (getItem (.ref a) u) Q E s:=by
  rcases g with ⟨kvs,k,e,ey,l⟩ | ⟨kvs,k,b,e,ey,eb,l⟩
  · subst ey
    obtain ⟨z,hd,vs,rel,dd⟩:=zoD I.hok e;obtain ⟨w',hw,rw'⟩:=RelO.some_of (v:=v) (o:=valueAt vs k) (by rw[l];exact rel.val k);exact wpAny_getItem_of (zmF ry) dd.mapOf hw (h w' _ (I.tok _) rw')
  · subst ey
    cases (show u=Value.ref b from ry)
    obtain ⟨z,hd,xs,rel,dd⟩:=zoB I.hok e;obtain ⟨w',hw,rw'⟩:=RelO.some_of (v:=v) (o:=(atKey xs k).map (·.2)) (by rw[l];exact rel.val k);obtain ⟨p,hp,hp2⟩:=ybA.mp hw;refine wpAny_getItem_heap (tupleKind_room_in1 hu) (zkc I.hok eb) dd hp ?_;rw[hp2];exact h w' _ (I.tok _) rw'
theorem zqE {Q:Value→Shared→Prop}(hu:A.units+1 < cLine)(I:Inv X pins σ H s)(g:DGet H a y o)(ry:RelV y u)(h:∀ s',Inv X pins σ H s'→Q (.bool (!o.isSome)) s') :
    wpAny (model X.prog X.w) A (compareOp .NotIn u (.ref a)) Q E s:=by
  rcases g with ⟨kvs,k,e,ey,l⟩ | ⟨kvs,k,b,e,ey,eb,l⟩
  · subst ey
    obtain ⟨z,hd,vs,rel,dd⟩:=zoD I.hok e;refine wpAny_notIn_of (zmF ry) hd dd.mapOf ?_;rw[← (rel.val k).isSome_eq,← l];exact h _ (I.tok _)
  · subst ey
    cases (show u=Value.ref b from ry)
    obtain ⟨z,hd,xs,rel,dd⟩:=zoB I.hok e;refine wpAny_notIn_heap (tupleKind_room_in1 hu) (zkc I.hok eb) hd dd ?_;have q:=(rel.val k).isSome_eq;rw[Option.isSome_map]at q;rw[← q,← l];exact h _ (I.tok _)
theorem zji {h':Heap}{t':Nat}{ob:HO}(I:Inv X pins σ H s)(mu:Mut (H a))(hs:Heap.SameBut a s.heap h')(he:∃ q,h'.get? a=some q)(new:zbe X.prog X.w (upd H a ob) h' a ob) :
    Inv X pins σ (upd H a ob) { s with heap:=h',toks:=t' }:=
  I.write (x:=a) (e:=a) mu (.inl rfl) (fun b q hb z=>(hs.2 b hb).trans z) he new
theorem zpu {P:Program}{w:World}{H':Hp}{h':Heap}{kvs:List (Key×V)}{vs:List (Key×Value)}(z:kvs.length≤sizeLine)(hd:(a == sysModules)=false)(rel:KV kvs vs)(dd:h'.DictOf (zbc P w) a vs) :
    zbe P w H' h' a (.dK kvs):=⟨z,hd,vs,rel,dd⟩
theorem zm5 {H':Hp}{Q:Unit→Shared→Prop}(hu:A.units+1 < cLine)(I:Inv X pins σ H s)(g:DPut H a y v H')(ry:RelV y u)(rv:RelV v r)(h:∀ s',Inv X pins σ H' s'→Q () s') :
    wpAny (model X.prog X.w) A (setItem (.ref a) u r) Q E s:=by
  rcases g with ⟨kvs,k,e,ey,l,eH⟩ | ⟨kvs,k,b,e,ey,eb,l,eH⟩
  · subst ey eH
    obtain ⟨z,hd,vs,rel,dd⟩:=zqD I.hok e;have hz:vs.length≤sizeLine:=by rw[← rel.length];exact z
    have hl:(putK kvs k v).length≤sizeLine:=by have:=zc9 kvs k v;omega
    refine wpAny_setItem_pairs (hsz:=hz) (zmF ry) dd fun h' dd' hs=>h _ ?_;have he:∃ q,h'.get? a=some q:=let ⟨q,_,_,hq,_⟩:=dd';⟨q,hq⟩;exact zji I (by rw[e];exact True.intro) hs he (zpu hl hd (rel.put k rv) dd')
  · subst ey eH
    cases (show u=Value.ref b from ry)
    obtain ⟨z,hd,xs,rel,dd⟩:=zsM I.hok e;have hz:xs.length≤sizeLine:=by rw[← Paired.length rel];exact z
    have hl:(putK kvs k v).length≤sizeLine:=by have:=zc9 kvs k v;omega
    refine wpAny_setItem_heap (hsz:=hz) (tupleKind_room_in1 hu) (zkc I.hok eb) dd fun h' dd' hs=>h _ ?_;obtain ⟨q,es,ep,hq,h2,h3,h4,_,h5⟩:=dd';refine zji I (by rw[e];exact True.intro) hs ⟨q,hq⟩ ⟨hl,hd,_,(rel.put k eb rv).keeps fun c ys ec=>?_,q,es,ep,hq,h2,h3,h4,h5⟩;rw[zaj (zrJ ec e (fun z=>nomatch z))];exact ec
end
def NoSl (i:Expr):Prop:=∀ ov iv,subscripted i false ov iv=operate [ov,iv] (getItem ov iv)
theorem zpI {prog:Program}{w:World}{A:Around}{E:Value→Shared→Prop}{s:Shared}{env:Env}{value slice:Expr}{pos:Pos}{T id:String}{Q:Value→Shared→Prop}
    (hl:typeLookup (.type T) "__getitem__" = pure (some (.builtin id))) (hs:NoSl slice)
    (h:wpAny (model prog w) A (eval value env) (fun o s₁=>wpAny (model prog w) A (eval slice env) (fun i s₂=>s₂.TypeIs o T∧wpAny (model prog w) A (getItem o i) Q E s₂) E s₁) E s) :
    wpAny (model prog w) A (eval (.Subscript value slice pos) env) Q E s:=by
  refine Subscript_ (wpAny_mono h (fun o s₁ h₁=>wpAny_mono h₁ (fun i s₂ h₂=>?_) fun _ _ x=>x) fun _ _ x=>x);obtain ⟨hT,h₂⟩:=h₂;unfold subscriptTail;refine wpAny_bind ?_;rw[getitemInPython_of_ne hT.not_modules];refine wpAny_bind (wpAny_specialOf hT hl ?_);have fin:wpAny (model prog w) A (subscripted slice false o i) (fun r s₃=>wpAny (model prog w) A (letTemporaryGo value o r >>= fun _=>pure r) Q E s₃) E s₂:=by
    rw[hs o i];exact wpAny_operating (wpAny_mono h₂ (fun r s₃ h₃=>wpAny_bind (wpAny_letTemporaryGo (wpAny_pure h₃))) fun _ _ x=>x)
  first
    | exact wpAny_pure (wpAny_bind fin)
    | exact wpAny_bind (wpAny_pure (wpAny_bind fin))
    | exact wpAny_bind fin
theorem zjf {X:Cx}{pins:List (Addr×Obj)}{σ:St}{H:Hp}{s:Shared}{a:Addr}{y:V}{o:Option V}(I:Inv X pins σ H s)(g:DGet H a y o):s.TypeIs (.ref a) "dict":=by
  rcases g with ⟨kvs,k,e,_,_⟩ | ⟨kvs,k,b,e,_,_,_⟩
  · obtain ⟨_,_,vs,_,dd⟩:=zoD I.hok e
    exact dd.typeIs
  · obtain ⟨_,_,xs,_,dd⟩:=zoB I.hok e
    exact dd.typeIs
def zsw (td ty:TE):TE:=fun σ H Q=>td σ H fun x H1=>ty σ H1 fun y H2=>∃ a v,x=.ref a∧DGet H2 a y (some v)∧Q v H2
def zsz (td ty tv:TE):TS:=fun D σ H=>tv σ H fun v H1=>td σ H1 fun x H2=>ty σ H2 fun y H3=>∃ a H4,x=.ref a∧DPut H3 a y v H4∧D.nx σ H4
section
variable {X:Cx}{o i e value:Expr}{pos pos' tpos:Pos}{td ty tv:TE}
theorem zd7 (hu:X.A.units+1 < cLine)(ho:PE X o td)(hi:PE X i ty)(hs:NoSl i):PE X (.Subscript o i pos) (zsw td ty):=by
  intro pins s σ H Q I h;refine zpI PySem.F.slot_dict_getitem.lookup hs (thn (ho pins s σ H _ I h) fun u s1 zq0=>?_);obtain ⟨x,H1,I1,rx,q1⟩:=zq0;refine thn (hi pins s1 σ H1 _ I1 q1) fun iv s2 zq1=>?_;obtain ⟨y,H2,I2,ry,a,v,ex,g,q2⟩:=zq1;subst ex;obtain rfl:u=Value.ref a:=rx;exact ⟨zjf I2 g,zm6 hu I2 g ry fun w' s3 I3 rw'=>⟨v,H2,I3,rw',q2⟩⟩
theorem zeS (hu:X.A.units+1 < cLine)(ho:PE X o td)(hi:PE X i ty)(hv:PE X value tv)(hs:swapsWith value (some (.Subscript o i pos')) pos.line X.env=pure false) :
    PS X (.Assign [.Subscript o i pos'] value pos) (zsz td ty tv):=by
  intro pins s σ H D I h;refine wpAny_Assign_Subscript (thn (hv pins s σ H _ I h) fun r s1 zq0=>?_) hs;obtain ⟨v,H1,I1,rv,q1⟩:=zq0;refine thn (ho pins s1 σ H1 _ I1 q1) fun u s2 zq1=>?_;obtain ⟨x,H2,I2,rx,q2⟩:=zq1;refine thn (hi pins s2 σ H2 _ I2 q2) fun iv s3 zq2=>?_;obtain ⟨y,H3,I3,ry,a,H4,ex,g,q3⟩:=zq2;subst ex;obtain rfl:u=Value.ref a:=rx;exact zm5 hu I3 g ry rv fun s4 I4=>⟨σ,H4,I4,q3⟩
end
theorem zki {P:Program}{w:World}{H:Hp}(h:Heap)(hb:sysModules < h.objs.size):zbe P w H (h.push { cls:=.type "dict",data:=.dict #[] }) h.objs.size (.dK []):=
  ⟨yaH _,beq_eq_false_iff_ne.mpr (Ne.symm (yam hb)),[],.nil,Heap.DictOf.new h⟩
theorem zoC {P:Program}{w:World}{H:Hp}(h:Heap)(hb:sysModules < h.objs.size):zbe P w H (h.push { cls:=.type "dict",data:=.dict #[] }) h.objs.size (.dT []):=
  ⟨yaH _,beq_eq_false_iff_ne.mpr (Ne.symm (yam hb)),[],.nil,_,#[],0,yaD _ rfl,⟨rfl,rfl,rfl⟩,rfl,rfl,ybd⟩
def zq5:TE:=fun _ H Q=>∀ p,H p=none→Q (.ref p) (upd H p (.dK []))
def zq4:TE:=fun _ H Q=>∀ p,H p=none→Q (.ref p) (upd H p (.dT []))
section
variable {X:Cx}{pos:Pos}
theorem zfG:PE X (.Dict [] [] pos) zq5:=fun pins s σ H Q I h=>
  wpAny_Dict_empty ⟨.ref s.heap.objs.size,_,I.laid (a:=s.heap.objs.size) (o:=.dK []) (t':=s.toks) (fun _ _ q=>yai _ q) (yaa _) (zki s.heap I.big),rfl,h _ (I.hok.fresh (yaa _))⟩
theorem znP:PE X (.Dict [] [] pos) zq4:=fun pins s σ H Q I h=>
  wpAny_Dict_empty ⟨.ref s.heap.objs.size,_,I.laid (a:=s.heap.objs.size) (o:=.dT []) (t':=s.toks) (fun _ _ q=>yai _ q) (yaa _) (zoC s.heap I.big),rfl,h _ (I.hok.fresh (yaa _))⟩
end
def zlw:List (TE×TE)→St→Hp→(List (V×V)→Hp→Prop)→Prop
  | [],_,H,Q=>Q [] H
  | (tk,tv)::r,σ,H,Q=>tk σ H fun x H1=>tv σ H1 fun y H2=>zlw r σ H2 fun ps H3=>Q ((x,y)::ps) H3
abbrev VV:List (V×V)→List (Value×Value)→Prop:=Paired fun p q=>RelV p.1 q.1∧RelV p.2 q.2
def PPs (X:Cx)(pos:Pos)(keys:List (Option Expr))(values:List Expr)(trs:List (TE×TE)):Prop:=
  ∀(pins:List (Addr×Obj)) (s:Shared) (σ:St) (H:Hp) (Q:List (V×V)→Hp→Prop),Inv X pins σ H s→zlw trs σ H Q→
    wpAny (model X.prog X.w) X.A (evalPairs (pairTrees keys values X.env pos)) (fun vs s'=>∃ ps H',Inv X pins σ H' s'∧VV ps vs∧Q ps H') X.xe s
theorem zpU {X:Cx}{pos:Pos}:PPs X pos [] [] []:=fun pins s σ H Q I h=>pairTrees_nil_walk ⟨[],H,I,.nil,h⟩
theorem zhl {X:Cx}{pos:Pos}{k v:Expr}{ks:List (Option Expr)}{vs:List Expr}{tk tv:TE}{trs:List (TE×TE)}(hk:PE X k tk)(hv:PE X v tv)(hr:PPs X pos ks vs trs) :
    PPs X pos (some k::ks) (v::vs) ((tk,tv)::trs):=fun pins s σ H Q I h=>
  pairTrees_cons_walk (thn (hk pins s σ H _ I h) fun u s1 ⟨x,H1,I1,rx,q1⟩=>thn (hv pins s1 σ H1 _ I1 q1) fun w2 s2 ⟨y,H2,I2,ry,q2⟩=>
    thn (hr pins s2 σ H2 _ I2 q2) fun ws s3 ⟨ps,H3,I3,rel,q3⟩=>⟨(x,y)::ps,H3,I3,.cons ⟨rx,ry⟩ rel,q3⟩)
def zfb (kvs more:List (Key×V)):List (Key×V):=more.foldl (fun acc kv=>putK acc kv.1 kv.2) kvs
theorem KV.merge:∀{more:List (Key×V)} {rs:List (Key×Value)} {kvs:List (Key×V)} {vs:List (Key×Value)},KV more rs→KV kvs vs→KV (zfb kvs more) (merged vs rs):=by
  intro more rs kvs vs r;unfold KV at r
  induction r generalizing kvs vs with
  | nil=>intro q;exact q
  | @cons p q ps qs h t ih=>
    intro r0;have e:KV (putK kvs p.1 p.2) (stored vs q.1 q.2):=by
      have:=r0.put p.1 h.2;rw[← h.1];exact this
    exact ih e
theorem zeD:∀(more kvs:List (Key×V)),(zfb kvs more).length≤kvs.length+more.length
  | [],kvs=>by show kvs.length≤kvs.length+0;omega
  | p::r,kvs=>by
    have h1:=zeD r (putK kvs p.1 p.2);have h2:=zc9 kvs p.1 p.2;show (zfb (putK kvs p.1 p.2) r).length≤_;rw[yaI];omega
theorem zgT {P:Program}{w:World}:∀{kvs:List (Key×V)} {ws:List (Value×Value)},VV (kvs.map fun kv=>(kV kv.1,kv.2)) ws→∃ rs,Carries (zbc P w) ws rs∧KV kvs rs
  | [],_,r=>by rw[ybN]at r;cases r;exact ⟨[],True.intro,.nil⟩
  | p::kvs,_,r=>by
    rw[yan]at r;cases r with
    | @cons a b as bs h t=>
      obtain ⟨rs,c,q⟩:=zgT (P:=P) (w:=w) t;obtain ⟨b1,b2⟩:=b;exact ⟨(p.1,b2)::rs,⟨zmF h.1,rfl,c⟩,.cons ⟨rfl,h.2⟩ q⟩
def zsv (trs:List (TE×TE)):TE:=fun σ H Q=>∀ p,H p=none→zlw trs σ (upd H p (.dK [])) fun ps H2=>H2 p=some (.dK [])∧∃ kvs:List (Key×V),ps=kvs.map (fun kv=>(kV kv.1,kv.2))∧kvs.length≤15∧Q (.ref p) (upd H2 p (.dK (zfb [] kvs)))
theorem zpY {X:Cx}{pos:Pos}{keys:List (Option Expr)}{values:List Expr}{trs:List (TE×TE)}(h:PPs X pos keys values trs)(hall:keys.all (·.isSome)=true)(hl:keys.length=values.length)(h0:keys≠[])
    (h15:keys.length≤15):PE X (.Dict keys values pos) (zsv trs):=by
  intro pins s σ H Q I q;have hn:=I.hok.fresh (yaa s.heap.objs.size);have I1:=I.laid (a:=s.heap.objs.size) (o:=.dK []) (h':=s.heap.push { cls:=.type "dict",data:=.dict #[] }) (t':=s.toks) (fun _ _ q=>yai _ q) (yaa _) (zki s.heap I.big);refine wpAny_Dict_walk (knd:=zbc X.prog X.w) hall hl h0 h15 (thn (h pins _ σ _ _ I1 (q _ hn)) fun ws s2 zq0=>?_);obtain ⟨ps,H2,I2,rel,e,kvs,ep,lk,q2⟩:=zq0;subst ep;obtain ⟨rs,c,rk⟩:=zgT (P:=X.prog) (w:=X.w) rel;obtain ⟨z,hd,vs0,r0,dd⟩:=zqD I2.hok e;cases r0
  refine ⟨rs,c,dd,fun h' dd' hs=>⟨.ref s.heap.objs.size,_,?_,rfl,q2⟩⟩;have hz:(zfb [] kvs).length≤sizeLine:=by
    have h1:=zeD kvs [];rw[ybq]at h1;rw[sizeLine_eq];omega
  have he:∃ q,h'.get? s.heap.objs.size=some q:=let ⟨q,_,_,hq,_⟩:=dd';⟨q,hq⟩;exact zji I2 (by rw[e];exact True.intro) hs he (zpu hz hd (rk.merge .nil) dd')
end L2
namespace Att
open PySem PySem.W PySem.Calls PyProof.Rows
theorem zgc {P:Params}{h:Heap}:∀(ns:List Int) (vs:List Value),WellAll P h vs (ns.map WData.int)→IntsAre vs ns:=by
  intro ns
  induction ns with
  | nil=>
    intro vs w;rw[ybN]at w;cases w
    exact .nil
  | cons n ns ih=>
    intro vs w;rw[yan]at w;cases w with
    | cons a b=>
      cases a
      exact .cons _ _ (ih _ b)
theorem zlO {l:OpenLaw}{n:Nat}(hn:l.most=some n){P:Params}{h:Heap}{args:List WData}{vals:List Value}
    (hpre:l.row.toRowW.claim.pre args=true) (hwl:WellAll P h vals args) :
    ∃ a vs ns,vals=[Value.ref a]∧args=[WData.list (ns.map WData.int)]∧h.get? a=some { cls:=.type "list",data:=.seq vs.toArray }∧IntsAre vs ns∧ns.length≤n:=by
  have hsh:WShape.hasAll [] args [.list .int]=true:=(pre_splitW hpre).1;have hc:l.pre.holds [] { args:=args }=true:=(pre_splitW hpre).2;obtain ⟨d,r,rfl,h1,h2⟩:=hasAllW_cons hsh;obtain rfl:=hasAllW_nil h2;obtain ⟨xs,rfl,h3⟩:=hasW_list h1;obtain ⟨ns,rfl⟩:=items_int h3;have hlen:ns.length≤n:=by
    unfold OpenLaw.pre at hc;have h4:(WTm.not (.lt (.lit (.int (n:Int))) (.len (.arg 0)))).holds [] { args:=[.list (ns.map .int)] }=true:=by
      have h4:=(holds_andW hc).1;rw[hn]at h4;exact h4
    have h5:=condW_of h4 (w_not (w_lt w_lit (w_len_list (w_arg rfl))));rw[yab]at h5;refine Nat.le_of_not_lt fun q=>?_;have q':(n:Int) < ((ns.length:Nat):Int):=by omega
    first
      | (rw[yaj q']at h5;exact absurd h5 (by decide))
      | (simp at h5;omega)
  cases hwl with
  | cons w1 w2=>
    cases w2
    cases w1 with
    | list ho hall=>exact ⟨_,_,ns,rfl,rfl,ho,zgc ns _ hall,hlen⟩
theorem zlW (l:OpenLaw)(args:List WData):l.row.toRowW.claim.post args (.bool true) args=true:=
  postW_of (r:=l.row.toRowW) (X:=(true == true))
    (show WShape.has [] (.bool true) .bool=true by first | rfl | decide | simp[WShape.has,WShape.arms,WShape.armsAll])
    (show (WTm.eq .res (.lit (.bool true))).value [] { args:=args,res:=some (.bool true),after:=args }=some (.bool (true == true)) from w_eq_bool (w_res rfl) w_lit) rfl
theorem attach_call {l:OpenLaw}{n:Nat}{q:Program}{loose:List Str}{XP:(Str→Option Value)→Heap→Prop}{YP:World→Heap→Prop}{d:DefRec}
    (hn:l.most=some n) (hdf:d.params.defaults=[])
    (call:∀(w:World) (s₀ s₁:Shared) (mg mb:Str→Option Value) (fa:Addr) (o:Obj) (pm cd doc:Value) (a:Addr) (vs:List Value) (ns:List Int),
      Ground q loose [] XP w s₀ mg mb s₁.heap→YP w s₁.heap→
      s₁.heap.get? fa=some o→o.data=.func (docDef d.name d.params d.body d.scope pm cd doc)→s₁.heap.CodeRec cd d.name→mg d.name=some (.ref fa)→
      s₁.heap.get? a=some { cls:=.type "list",data:=.seq vs.toArray }→IntsAre vs ns→ns.length≤n→s₁.gens=#[]→
      codeAny (model l.prog w) callerA (.call (.ref fa) ⟨[.ref a],[]⟩) (fun r s'=>r=.ok (.ret (.bool true))∧OldK s₁.heap s'.heap∧s'.os=s₁.os∧AllBare s'.gens) s₁) :
    WalkO q loose XP YP l.row.toRowW d [] (fun f vs=>PySem.call f vs):=by
  intro w s₀ s₁ mg mb G Y fa o pm cd doc dV kV ho hd hcd hD hmg hg args vals as hpre hlay hrd hwl hlo;obtain rfl:dV=.none:=Dflts.none hD hdf;obtain rfl:kV=.none:=Dflts.noKw hD;obtain ⟨a,vs,ns,rfl,rfl,hobj,hints,hlen⟩:=zlO hn hpre hwl;refine enter_call (codeAny_mono (call w s₀ s₁ mg mb fa o pm cd doc a vs ns G Y ho (fd_plain hd) hcd hmg hobj hints hlen hg) fun r s' hq=>?_);obtain ⟨rfl,h2,h3,h4⟩:=hq;exact ⟨.inl ⟨.bool true,.bool true,[],rfl,fun _=>rfl,.bool true,zlW l _,fun _=>⟨List.Pairwise.nil,fun _ hm=>(nomatch hm)⟩⟩,h2,h3,h4⟩
end Att
namespace L2
open PySem PySem.Spec PyProof.Rows
theorem zhP:∀{vs:List Value} {ns:List Int},IntsAre vs ns→Vals (ns.map V.int) vs
  | _,_,.nil=>.nil
  | _,_,.cons n t h=>.cons ⟨t,rfl⟩ (zhP h)
end L2
namespace L2
open PySem PySem.Spec PyProof.Rows
def zds (s:Stmt)(j:Nat):Stmt:=match s with
  | .ClassDef _ _ _ body _ _ _ _ _ _ _=>body.getD j (.Pass ⟨0,0,0,0⟩)
  | _=>.Pass ⟨0,0,0,0⟩
def zbR (s:Stmt):Arguments:=match s with
  | .FunctionDef _ a _ _ _ _ _ _ _ _=>a
  | _=>{ posonlyargs:=[],args:=[],vararg:=none,kwonlyargs:=[],kw_defaults:=[],kwarg:=none,defaults:=[] }
def za3 (s:Stmt):List Stmt:=match s with
  | .FunctionDef _ _ b _ _ _ _ _ _ _=>b
  | _=>[]
def zah (s:Stmt):Scope:=match s with
  | .FunctionDef _ _ _ _ _ _ sc _ _ _=>sc
  | _=>{ kind:=.function,names:=[],isGenerator:=false,isCoroutine:=false }
abbrev CX0:CXT:=fun _ _ _ _ _ _=>False
abbrev E0:XK:=fun _ _ _=>False
theorem zlY {X:Cx}:zd3 CX0 X E0:=fun _ _ _ _ _ _ _ h=>h.elim
structure Fun (K:Frag)(x qual:Str)(st:Stmt)(f:Addr)(fd:FuncData):Prop where
  ex:∃(oc:Value) (od:Option Addr) (kV doc pm:Value) (an:Option Addr) (cdv ct:Value) (osl:Array (Option Value)),
    fd=fnOf x qual (zbR st) (za3 st) (zah st) .none kV doc pm an cdv ct∧K.lookup f=some ⟨oc,od,.func fd,osl⟩∧codeIn K cdv qual=true
  kp:keepIn K (.ref f)=true
section
variable {P:Program}{w:World}{K:Frag}{mg:Str→Option Value}{base:Heap}
theorem Fun.ok {x qual:Str}{st:Stmt}{f:Addr}{fd:FuncData}{N ps:List Str}{k:Nat}{sp:Sp}(F:Fun K x qual st f fd)(S:zap N ps (zah st))(len:∀ vs H Q E,sp vs H Q E→vs.length=ps.length)
    (hbody:∀(cdv:Value) (A:Around) (outer:List Env) (s:Shared) (H:Hp) (vs:List V) (Q:VK) (E:XK),Room k (A.deeper (envOfC qual (zah st) s.heap.objs.size f cdv))→sp vs H Q E→
      ∃ t,PSs (cxOf CX0 P w K mg base N qual (zah st) f cdv A outer s H E).nox (za3 st) t∧t { nx:=fun _ H'=>Q .non H',rt:=Q } (zcX N vs) H):FnOk P w K mg base CX0 (k+1) f fd ps sp:=by
  obtain ⟨oc,od,kV,doc,pm,an,cdv,ct,osl,rfl,lk,hcd⟩:=F.ex;refine zoA lk hcd S len fun A outer s H vs Q E hr hsp=>?_;obtain ⟨t,h,q⟩:=hbody cdv A outer s H vs Q E hr hsp;exact ⟨t,h.nox,q⟩
theorem Fun.binds {x qual:Str}{st:Stmt}{f:Addr}{fd:FuncData}{ps:List Str}(F:Fun K x qual st f fd)
    (h:∀(kV doc pm:Value) (an:Option Addr) (cdv ct:Value) (us:List Value),us.length=ps.length→bindArgs (fnOf x qual (zbR st) (za3 st) (zah st) .none kV doc pm an cdv ct) ⟨us,[]⟩=pure (ps.zip us)):zdc K fd ps []:=by
  obtain ⟨oc,od,kV,doc,pm,an,cdv,ct,osl,rfl,lk,hcd⟩:=F.ex;exact .all (h kV doc pm an cdv ct)
theorem zgd {x qual:Str}{st:Stmt}{f:Addr}{oc:Value}{od an:Option Addr}{osl:Array (Option Value)}{kV doc pm cdv ct:Value}(l:K.lookup f=some ⟨oc,od,.func (fnOf x qual (zbR st) (za3 st) (zah st) .none kV doc pm an cdv ct),osl⟩)
    (c:codeIn K cdv qual=true) (k:keepIn K (.ref f)=true):Fun K x qual st f (fnOf x qual (zbR st) (za3 st) (zah st) .none kV doc pm an cdv ct):=⟨⟨oc,od,kV,doc,pm,an,cdv,ct,osl,rfl,l,c⟩,k⟩
end
theorem zeF {A:Around}{k:Nat}(hr:Room k A):A.units+1 < cLine:=yaW (yct (by decide:1≤64) _) hr.units
theorem zau {n:Nat}(h:n≤1000):n < sizeLine:=yaW h (by decide)
section
variable {X:Cx}
theorem pv (i:Nat){x:Str}{pos:Pos}(hN:X.N[i]?=some x:=by rfl)(hv:Vis X.env.scope x:=by first | exact Or.inl rfl | exact Or.inr (Or.inl rfl) | exact Or.inr (Or.inr rfl))(hd:(x == ("__debug__" : Str))=false:=by decide)
    (hcd:(x == ("__classdict__" : Str))=false:=by decide):PE X (.Name x pos) (tVar i):=zrq hN hv hd hcd
end
theorem iteF {A B:Prop}(h:B):if false=true then A else B:=by
  rw[if_neg yaC];exact h
theorem iteT {A B:Prop}(h:A):if true=true then A else B:=by
  rw[if_pos rfl];exact h
theorem ite2 {c A B:Prop}[Decidable c](h1:c→A)(h2:¬ c→B):if c then A else B:=by
  by_cases h:c
  · rw[if_pos h]
    exact h1 h
  · rw[if_neg h]
    exact h2 h
theorem zil {c A B:Prop}[Decidable c](hc:c)(h:B):if (!decide c)=true then A else B:=by
  rw[yaj hc];exact iteF h
def Same (H H':Hp):Prop:=∀ b o,H b=some o→H' b=some o
theorem Same.trans {H H1 H2:Hp}(a:Same H H1)(b:Same H1 H2):Same H H2:=fun c o h=>b c o (a c o h)
theorem Same.free {H H':Hp}(e:Same H H'){l:Addr}(h:H' l=Option.none):H l=Option.none:=by
  cases q:H l with
  | none=>rfl
  | some o=>
    rw[e l o q]at h;cases h
theorem Same.seq {K:Frag}{H H':Hp}{a:Addr}{xs:List V}(e:Same H H')(h:SqL K H a xs):SqL K H' a xs:=by
  rcases h with (h | ⟨o,h⟩) | h
  · exact .inl (.inl (e _ _ h))
  · exact .inl (.inr ⟨o,e _ _ h⟩)
  · exact .inr h
end L2
namespace Tim
open PySem PyProof.Rows
set_option autoImplicit false
section
variable {prog:Program}{w:World}{A:Around}{E:Value→Shared→Prop}{s:Shared}{κ:KeyKind}{kd:SortKind}{a₀:Array Keyed}
def LtG (prog:Program)(w:World)(A:Around)(s:Shared)(κ:KeyKind)(kd:SortKind):Prop:=
 ∀(E:Value→Shared→Prop) (x y:Value) (a b:κ.α) (Q:Bool→Shared→Prop),κ.keyOf x=some a→κ.keyOf y=some b→Q (κ.blt a b) s→wpAny (model prog w) A (keyLt' kd x y) Q E s
def ky (κ:KeyKind)(p:Keyed):κ.α:=(κ.keyOf p.1).getD κ.dflt
def Keyd (κ:KeyKind)(p:Keyed):Prop:=∃ a,κ.keyOf p.1=some a
theorem Keyd.eq {p:Keyed}(h:Keyd κ p):κ.keyOf p.1=some (ky κ p):=by
 obtain ⟨a,e⟩:=h;unfold ky;rw[e];rfl
theorem lt_G {x y:Keyed}{st:SortSt}{Q:Option Bool→SortSt→Prop}(hO:LtG prog w A s κ kd)(hk:kindOf st=kd)(hx:Keyd κ x)(hy:Keyd κ y)(h:Q (some (κ.blt (ky κ x) (ky κ y))) st):wpS (model prog w) A E s (lt' x y) Q st:=by
 rw[lt'_eq];refine wpS_bind (wpS_get ?_);rw[hk];refine wpS_bind (wpS_lift (wpAny_attempt (hO _ x.1 y.1 _ _ _ hx.eq hy.eq ⟨rfl,?_⟩)));exact wpS_pure h
theorem zbd {xs:Array Keyed}{i:Nat}{st:SortSt}{Q:Keyed→SortSt→Prop}(hi:i < xs.size)(h:Q xs[i] st):wpS (model prog w) A E s (elem' xs i) Q st:=by
 rw[elem'_eq,yaZ hi];exact wpS_pure h
structure TB (κ:KeyKind)(kd:SortKind)(n:Nat)(st:SortSt):Prop where
 kind:kindOf st=kd
 keys:∀ p∈(arrOf st).toList,Keyd κ p
 failed:failedOf st=none
 size:(arrOf st).size=n
def kAt (κ:KeyKind)(xs:Array Keyed)(i:Nat):κ.α:=match xs[i]? with
 | some p=>ky κ p
 | none=>κ.dflt
theorem zbf {xs:Array Keyed}{i:Nat}(h:i < xs.size):kAt κ xs i=ky κ xs[i]:=by
 unfold kAt;rw[yaZ h]
theorem zbu {xs ys:Array Keyed}{i j:Nat}(h:xs[i]?=ys[j]?):kAt κ xs i=kAt κ ys j:=by
 unfold kAt;rw[h]
theorem zij {i j n:Nat}{st:SortSt}{Q:Option Bool→SortSt→Prop}(hO:LtG prog w A s κ kd)(hB:TB κ kd n st)(hi:i < n)(hj:j < n)(h:Q (some (κ.blt (kAt κ (arrOf st) i) (kAt κ (arrOf st) j))) st):wpS (model prog w) A E s (ltAt' i j) Q st:=by
 have hi':i < (arrOf st).size:=by rw[hB.size];exact hi
 have hj':j < (arrOf st).size:=by rw[hB.size];exact hj
 rw[ltAt'_eq];refine wpS_bind (wpS_get ?_);refine wpS_bind (zbd hi' (wpS_bind (zbd hj' ?_)));refine lt_G hO hB.kind (hB.keys _ (by simp)) (hB.keys _ (by simp)) ?_;rw[zbf hi',zbf hj']at h;exact h
def Up (κ:KeyKind)(xs:Array Keyed)(lo hi:Nat):Prop:=∀ i j,lo≤i→i≤j→j < hi→κ.kle (kAt κ xs i) (kAt κ xs j)
def Dn (κ:KeyKind)(xs:Array Keyed)(lo hi:Nat):Prop:=∀ i j,lo≤i→i≤j→j < hi→κ.kle (kAt κ xs j) (kAt κ xs i)
structure Off (xs ys:Array Keyed)(lo hi:Nat):Prop where
 perm:ys.Perm xs
 out:∀ k,k < lo∨hi≤k→ys[k]?=xs[k]?
theorem Off.refl (xs:Array Keyed)(lo hi:Nat):Off xs xs lo hi:=⟨Array.Perm.refl _,fun _ _=>rfl⟩
theorem Off.trans {xs ys zs:Array Keyed}{lo hi:Nat}(a:Off xs ys lo hi)(b:Off ys zs lo hi):Off xs zs lo hi:=⟨b.perm.trans a.perm,fun k h=>(b.out k h).trans (a.out k h)⟩
theorem Off.wide {xs ys:Array Keyed}{lo hi lo' hi':Nat}(a:Off xs ys lo hi)(h1:lo'≤lo)(h2:hi≤hi'):Off xs ys lo' hi':=⟨a.perm,fun k h=>a.out k (by omega)⟩
theorem Off.size {xs ys:Array Keyed}{lo hi:Nat}(a:Off xs ys lo hi):ys.size=xs.size:=a.perm.size_eq
theorem TB.off {n lo hi:Nat}{st:SortSt}{ys:Array Keyed}(hB:TB κ kd n st)(h:Off (arrOf st) ys lo hi):TB κ kd n (setArr st ys):=
 ⟨hB.kind,fun p hp=>hB.keys p ((ycu.mp h.perm).mem_iff.mp hp),hB.failed,h.size.trans hB.size⟩
theorem zcO {xs:Array Keyed}{i j:Nat}(hj:j≤xs.size):Off xs (mirror xs i j ((j - i) / 2)) i j:=⟨mirror_perm _ _ _ _,fun k hk=>by rw[getElem?_mirror_all hj,if_neg (by omega)]⟩
theorem zeV {xs:Array Keyed}{i j k:Nat}(hj:j≤xs.size)(hk:i≤k∧k < j):kAt κ (mirror xs i j ((j - i) / 2)) k=kAt κ xs (i+j - 1 - k):=by
 apply zbu;rw[getElem?_mirror_all hj,if_pos hk]
theorem zi9 {xs ys:Array Keyed}{lo hi k:Nat}(h:Off xs ys lo hi)(hk:k < lo∨hi≤k):kAt κ ys k=kAt κ xs k:=zbu (h.out k hk)
theorem zhD {xs:Array Keyed}{i j:Nat}(hj:j≤xs.size)(he:∀ k,i≤k→k < j→kAt κ xs k=kAt κ xs (j - 1))(k:Nat):kAt κ (mirror xs i j ((j - i) / 2)) k=kAt κ xs k:=by
 by_cases hk:i≤k∧k < j
 ·rw[zeV hj hk,he _ (by omega) (by omega),he k hk.1 hk.2]
 ·exact zi9 (zcO hj) (by omega)
theorem zgY {i j:Nat}{st:SortSt}{Q:Unit→SortSt→Prop}(h:Q () (setArr st (mirror (arrOf st) i j ((j - i) / 2)))):wpS (model prog w) A E s (reverseSlice' i j) Q st:=by
 rw[reverseSlice'_eq];exact wpS_modify h
theorem zcW {σ:Type}{n:String}{Q:Unit→σ→Prop}{st:σ}(h:Q () st):wpS (model prog w) A E s (liftM (rule n):StateT σ Sem Unit) Q st:=wpS_lift (wpAny_rule ⟨rfl,h⟩)
end
end Tim
namespace Tim
open PySem PyProof.Rows
set_option autoImplicit false
section
variable {prog:Program}{w:World}{A:Around}{E:Value→Shared→Prop}{s:Shared}{κ:KeyKind}{kd:SortKind}
def zju (κ:KeyKind)(st:SortSt)(lo least nrem:Nat)(r:Option Nat)(st':SortSt):Prop:=
 ∃ n ys,r=some n∧least≤n∧n≤nrem∧st'=setArr st ys∧Off (arrOf st) ys lo (lo+n)∧Up κ ys lo (lo+n)
theorem zqS {xs:Array Keyed}{lo:Nat}:Up κ xs lo (lo+1):=fun i j h1 h2 h3=>by
 have:i=j:=by omega
 subst this;exact KeyOrd.kle_refl _
theorem Up.more {xs:Array Keyed}{lo hi:Nat}(h:Up κ xs lo hi)(hlo:lo < hi)(hn:κ.kle (kAt κ xs (hi - 1)) (kAt κ xs hi)):Up κ xs lo (hi+1):=fun i j h1 h2 h3=>by
 by_cases hj:j < hi
 ·exact h i j h1 h2 hj
 ·have e:j=hi:=by omega
  subst e;by_cases hi':i=j
  ·subst hi';exact KeyOrd.kle_refl _
  ·exact KeyOrd.kle_trans (h i (j - 1) h1 (by omega) (by omega)) hn
theorem Dn.more {xs:Array Keyed}{lo hi:Nat}(h:Dn κ xs lo hi)(hlo:lo < hi)(hn:κ.kle (kAt κ xs hi) (kAt κ xs (hi - 1))):Dn κ xs lo (hi+1):=fun i j h1 h2 h3=>by
 by_cases hj:j < hi
 ·exact h i j h1 h2 hj
 ·have e:j=hi:=by omega
  subst e;by_cases hi':i=j
  ·subst hi';exact KeyOrd.kle_refl _
  ·exact KeyOrd.kle_trans hn (h i (j - 1) h1 (by omega) (by omega))
theorem zoU {st:SortSt}{N lo n nrem:Nat}{Q:Option (Option Nat)×Nat→SortSt→Prop}(hO:LtG prog w A s κ kd)(hB:TB κ kd N st)(hlo:lo+nrem≤N)(h1:1≤n)(hn:n≤nrem)(hU:Up κ (arrOf st) lo (lo+n))
  (h:∀ m,n≤m→m≤nrem→Up κ (arrOf st) lo (lo+m)→(m < nrem→κ.klt (kAt κ (arrOf st) (lo+m)) (kAt κ (arrOf st) (lo+m - 1)))→Q (none,m) st) :
  wpS (model prog w) A E s (forIn [n:nrem] ((none,n):Option (Option Nat)×Nat) fun _ __s=>do
   let __x ← ltAt' (lo+__s.snd) (lo+__s.snd - 1)
   match __x with
   | some smaller=>if smaller=true then pure (ForInStep.done (none,__s.snd)) else pure (ForInStep.yield (none,__s.snd+1))
   | _=>pure (ForInStep.done (some none,__s.snd))) Q st:=by
 refine wpS_forRange (I:=fun i c st'=>st'=st∧c=(none,i)∧n≤i∧i≤nrem∧Up κ (arrOf st) lo (lo+i)) ?_ ?_ ⟨rfl,rfl,yaa _,hn,hU⟩
 ·rintro i c st' hi1 hi2 ⟨rfl,rfl,h3,h4,hU'⟩;refine wpS_bind (zij hO hB (by omega) (by omega) ?_);dsimp only;cases e:κ.blt (kAt κ (arrOf st') (lo+i)) (kAt κ (arrOf st') (lo+i - 1)) with
  | true=>exact wpS_pure (h i h3 h4 hU' fun _=>e)
  | false=>exact wpS_pure ⟨rfl,rfl,by omega,by omega,hU'.more (by omega) e⟩
 ·rintro c st' ⟨rfl,rfl,h3,h4,hU'⟩;exact h _ h3 h4 hU' fun z=>absurd z (by omega)
theorem zlf {st:SortSt}{N lo n nrem:Nat}{Q:Option Nat→SortSt→Prop}{k:Option (Option Nat)×Nat→StateT SortSt Sem (Option Nat)}(hk:∀ m,k (none,m)=pure (some m))(hO:LtG prog w A s κ kd)(hB:TB κ kd N st)(hlo:lo+nrem≤N)(h1:1≤n)(hn:n≤nrem)(hD:Dn κ (arrOf st) lo (lo+n))
  (h:∀ r st',zju κ st lo n nrem r st'→Q r st') :
  wpS (model prog w) A E s (do
   reverseSlice' lo (lo+n)
   let c ← forIn [n:nrem] ((none,n):Option (Option Nat)×Nat) fun _ __s=>do
    let __x ← ltAt' (lo+__s.snd) (lo+__s.snd - 1)
    match __x with
    | some smaller=>if smaller=true then pure (ForInStep.done (none,__s.snd)) else pure (ForInStep.yield (none,__s.snd+1))
    | _=>pure (ForInStep.done (some none,__s.snd))
   k c) Q st:=by
 have hz:lo+n≤(arrOf st).size:=by rw[hB.size];omega
 have hoff:=zcO (xs:=arrOf st) (i:=lo) (j:=lo+n) hz;refine wpS_bind (zgY ?_);refine wpS_bind (zoU hO (hB.off hoff) hlo h1 hn (fun i j q1 q2 q3=>?_) fun m m1 m2 hU _=>?_)
 ·rw[zeV hz (by omega),zeV hz (by omega)];exact hD _ _ (by omega) (by omega) (by omega)
 ·rw[hk];exact wpS_pure (h _ _ ⟨m,_,rfl,m1,m2,rfl,hoff.wide (yaa _) (by omega),hU⟩)
theorem zlg {st:SortSt}{N lo n nrem:Nat}{Q:Option (Option Nat)×Nat×Nat→SortSt→Prop}(hO:LtG prog w A s κ kd)(hB:TB κ kd N st)(hlo:lo+nrem≤N)(h1:1≤n)(hn:n≤nrem)(hD:Dn κ (arrOf st) lo (lo+n))
  (h:∀ m neq ys,n≤m→m≤nrem→neq < m→Off (arrOf st) ys lo (lo+m)→Dn κ ys lo (lo+m)→(∀ k,lo+m - (neq+1)≤k→k < lo+m→kAt κ ys k=kAt κ ys (lo+m - 1))→Q (none,m,neq) (setArr st ys)) :
  wpS (model prog w) A E s (forIn [n:nrem] ((none,n,0):Option (Option Nat)×Nat×Nat) fun _ __s=>do
   let __x ← ltAt' (lo+__s.snd.fst) (lo+__s.snd.fst - 1)
   match __x with
   | some smaller=>
    if smaller=true then
     if __s.snd.snd > 0 then do
      let _ ← reverseSlice' (lo+__s.snd.fst - (__s.snd.snd+1)) (lo+__s.snd.fst)
      pure (ForInStep.yield (none,__s.snd.fst+1,0))
     else pure (ForInStep.yield (none,__s.snd.fst+1,0))
    else do
     let __x ← ltAt' (lo+__s.snd.fst - 1) (lo+__s.snd.fst)
     match __x with
     | some larger=>
      if larger=true then pure (ForInStep.done (none,__s.snd.fst,__s.snd.snd))
      else pure (ForInStep.yield (none,__s.snd.fst+1,__s.snd.snd+1))
     | _=>pure (ForInStep.done (some none,__s.snd.fst,__s.snd.snd))
   | _=>pure (ForInStep.done (some none,__s.snd.fst,__s.snd.snd))) Q st:=by
 refine wpS_forRange (I:=fun i c st'=>∃ neq ys,st'=setArr st ys∧c=(none,i,neq)∧n≤i∧i≤nrem∧neq < i∧Off (arrOf st) ys lo (lo+i)∧Dn κ ys lo (lo+i)∧∀ k,lo+i - (neq+1)≤k→k < lo+i→kAt κ ys k=kAt κ ys (lo+i - 1)) ?_ ?_ ⟨0,arrOf st,rfl,rfl,yaa _,hn,h1,Off.refl _ _ _,hD,fun k q1 q2=>by rw[show k=lo+n - 1 by omega]⟩
 ·rintro i c st' hi1 hi2 ⟨neq,ys,rfl,rfl,h3,h4,h5,ho,hD',he⟩;have hB':TB κ kd N (setArr st ys):=hB.off ho;have hz:lo+i≤ys.size:=by rw[ho.size,hB.size];omega
  dsimp only;refine wpS_bind (zij hO hB' (by omega) (by omega) ?_);dsimp only;cases e:κ.blt (kAt κ ys (lo+i)) (kAt κ ys (lo+i - 1)) with
  | true=>
   simp only[if_true];by_cases hq:neq > 0
   ·rw[if_pos hq];have hoff:=zcO (xs:=ys) (i:=lo+i - (neq+1)) (j:=lo+i) hz;have hk:=zhD (κ:=κ) hz he;refine wpS_bind (zgY (wpS_pure ⟨0,_,rfl,rfl,by omega,by omega,by omega,ho.wide (yaa _) (by omega) |>.trans (hoff.wide (by omega) (by omega)),?_,fun k q1 q2=>by rw[show k=lo+(i+1) - 1 by omega]⟩));have:Dn κ (mirror ys (lo+i - (neq+1)) (lo+i) ((lo+i - (lo+i - (neq+1))) / 2)) lo (lo+i):=fun a b q1 q2 q3=>by rw[hk,hk];exact hD' a b q1 q2 q3
    exact this.more (by omega) (by rw[hk,hk];exact KeyOrd.kle_of_klt e)
   ·rw[if_neg hq];exact wpS_pure ⟨0,ys,rfl,rfl,by omega,by omega,by omega,ho.wide (yaa _) (by omega),hD'.more (by omega) (KeyOrd.kle_of_klt e),fun k q1 q2=>by rw[show k=lo+(i+1) - 1 by omega]⟩
  | false=>
   simp only[yaL,if_false];refine wpS_bind (zij hO hB' (by omega) (by omega) ?_);dsimp only;cases e2:κ.blt (kAt κ ys (lo+i - 1)) (kAt κ ys (lo+i)) with
   | true=>exact wpS_pure (h i neq ys h3 h4 h5 ho hD' he)
   | false=>
    have eq:kAt κ ys (lo+i)=kAt κ ys (lo+i - 1):=κ.total _ _ e e2;refine wpS_pure ⟨neq+1,ys,rfl,rfl,by omega,by omega,by omega,ho.wide (yaa _) (by omega),hD'.more (by omega) (by rw[eq];exact KeyOrd.kle_refl _),fun k q1 q2=>?_⟩;rw[show lo+(i+1) - 1=lo+i by omega,eq];by_cases hk:k=lo+i
    ·rw[hk];exact eq
    ·exact he k (by omega) (by omega)
 ·rintro c st' ⟨neq,ys,rfl,rfl,h3,h4,h5,ho,hD',he⟩;exact h _ neq ys h3 h4 h5 ho hD' he
theorem zjx {st:SortSt}{N lo n nrem m neq:Nat}{ys:Array Keyed}{Q:Option Nat→SortSt→Prop}{t:StateT SortSt Sem (Option Nat)}(hB:TB κ kd N st)(hlo:lo+nrem≤N)(m1:n+1≤m)(m2:m≤nrem)(m3:neq < m)
  (ho:Off (arrOf st) ys lo (lo+m)) (hD:Dn κ ys lo (lo+m)) (he:∀ k,lo+m - (neq+1)≤k→k < lo+m→kAt κ ys k=kAt κ ys (lo+m - 1)) (h:∀ r st',zju κ st lo (n+1) nrem r st'→Q r st')
  (ht:∀ st',TB κ kd N st'→Dn κ (arrOf st') lo (lo+m)→(∀ r st'',zju κ st' lo m nrem r st''→Q r st'')→wpS (model prog w) A E s t Q st') :
  wpS (model prog w) A E s (if neq > 0 then do
   let _ ← reverseSlice' (lo+m - (neq+1)) (lo+m)
   t else t) Q (setArr st ys):=by
 have hz:lo+m≤ys.size:=by rw[ho.size,hB.size];omega
 have back:∀ zs,Off (arrOf st) zs lo (lo+m)→∀ r st',zju κ (setArr st zs) lo m nrem r st'→Q r st':=fun zs hz r st' hr=>by
  obtain ⟨q,vs,e1,e2,e3,e4,e5,e6⟩:=hr;exact h r st' ⟨q,vs,e1,by omega,e3,e4,(hz.wide (yaa _) (by omega)).trans e5,e6⟩
 by_cases hq:neq > 0
 ·rw[if_pos hq];have hoff:=zcO (xs:=ys) (i:=lo+m - (neq+1)) (j:=lo+m) hz;have hk:=zhD (κ:=κ) hz he;have ho2:=ho.trans (hoff.wide (by omega) (yaa _));refine wpS_bind (zgY ?_);refine ht _ (hB.off ho2) (fun a b q1 q2 q3=>?_) (back _ ho2);show κ.kle (kAt κ (mirror ys (lo+m - (neq+1)) (lo+m) ((lo+m - (lo+m - (neq+1))) / 2)) b) (kAt κ (mirror ys (lo+m - (neq+1)) (lo+m) ((lo+m - (lo+m - (neq+1))) / 2)) a);rw[hk,hk];exact hD a b q1 q2 q3
 ·rw[if_neg hq];exact ht _ (hB.off ho) hD (back _ ho)
theorem ziJ {st:SortSt}{N lo nrem:Nat}{Q:Option Nat→SortSt→Prop}(hO:LtG prog w A s κ kd)(hB:TB κ kd N st)(hlo:lo+nrem≤N)(h1:1≤nrem)(h:∀ r st',zju κ st lo 1 nrem r st'→Q r st') :
  wpS (model prog w) A E s (countRun' lo nrem) Q st:=by
 rw[countRun'_eq];refine wpS_bind (zoU hO hB hlo (yaa 1) h1 zqS fun m m1 m2 hU hnext=>?_);dsimp only;by_cases hm:m=nrem
 ·rw[if_pos (by simpa using hm)];exact wpS_pure (h _ _ ⟨m,arrOf st,rfl,m1,m2,rfl,Off.refl _ _ _,hU⟩)
 ·rw[if_neg (by simpa using hm)];have hnx:=hnext (by omega);by_cases hm1:m > 1
  ·rw[if_pos hm1];refine wpS_bind (zij hO hB (by omega) (by omega) ?_);cases e:κ.blt (kAt κ (arrOf st) lo) (kAt κ (arrOf st) (lo+m - 1)) with
   | true=>
    simp only[if_true];exact wpS_pure (h _ _ ⟨m,arrOf st,rfl,m1,m2,rfl,Off.refl _ _ _,hU⟩)
   | false=>
    simp only[yaL,if_false];have hz:lo+m≤(arrOf st).size:=by rw[hB.size];omega
    have hoff:=zcO (xs:=arrOf st) (i:=lo) (j:=lo+m) hz;have all:∀ k,lo≤k→k < lo+m→kAt κ (arrOf st) k=kAt κ (arrOf st) (lo+m - 1):=fun k q1 q2=>
     KeyOrd.kle_antisymm (hU k (lo+m - 1) q1 (by omega) (by omega)) (KeyOrd.kle_trans (show κ.kle (kAt κ (arrOf st) (lo+m - 1)) (kAt κ (arrOf st) lo) from e) (hU lo k (yaa _) q1 q2))
    have hk:=zhD (κ:=κ) hz all;refine wpS_bind (zgY ?_);have fin:∀ r st',zju κ (setArr st (mirror (arrOf st) lo (lo+m) ((lo+m - lo) / 2))) lo (m+1) nrem r st'→Q r st':=fun r st' hr=>by
     obtain ⟨q,vs,e1,e2,e3,e4,e5,e6⟩:=hr;exact h r st' ⟨q,vs,e1,by omega,e3,e4,(hoff.wide (yaa _) (by omega)).trans e5,e6⟩
    refine wpS_bind (zcW (wpS_bind (zlg hO (hB.off hoff) hlo (by omega) (by omega) ?_ fun m' neq ys p1 p2 p3 ho hD' he=>?_)))
    rotate_left
    ·dsimp only;exact zjx (n:=m) (hB.off hoff) hlo p1 p2 p3 ho hD' he fin fun st' hB' hDD hh=>zlf (fun _=>rfl) hO hB' hlo (by omega) p2 hDD hh
    ·have d0:Dn κ (arrOf st) lo (lo+m):=fun a b q1 q2 q3=>by rw[all a q1 (by omega),all b (by omega) q3];exact KeyOrd.kle_refl _
     have d1:=d0.more (by omega) (KeyOrd.kle_of_klt hnx);intro a b q1 q2 q3;show κ.kle (kAt κ (mirror (arrOf st) lo (lo+m) ((lo+m - lo) / 2)) b) (kAt κ (mirror (arrOf st) lo (lo+m) ((lo+m - lo) / 2)) a);rw[hk,hk];exact d1 a b q1 q2 (by omega)
  ·rw[if_neg hm1];have e1:m=1:=by omega
   subst e1;have fin:∀ r st',zju κ st lo (1+1) nrem r st'→Q r st':=fun r st' hr=>by
    obtain ⟨q,vs,e1,e2,e3,e4,e5,e6⟩:=hr;exact h r st' ⟨q,vs,e1,by omega,e3,e4,e5,e6⟩
   refine wpS_bind (zcW (wpS_bind (zlg hO hB hlo (by omega) (by omega) ?_ fun m' neq ys p1 p2 p3 ho hD' he=>?_)))
   rotate_left
   ·dsimp only;exact zjx (n:=1) hB hlo p1 p2 p3 ho hD' he fin fun st' hB' hDD hh=>zlf (fun _=>rfl) hO hB' hlo (by omega) p2 hDD hh
   ·intro a b q1 q2 q3;by_cases hab:a=b
    ·subst hab;exact KeyOrd.kle_refl _
    ·have ea:a=lo+1 - 1:=by omega
     have eb:b=lo+1:=by omega
     rw[ea,eb];exact KeyOrd.kle_of_klt hnx
end
end Tim
namespace Tim
open PySem PyProof.Rows
set_option autoImplicit false
section
variable {prog:Program}{w:World}{A:Around}{E:Value→Shared→Prop}{s:Shared}{κ:KeyKind}{kd:SortKind}
theorem zkO {xs:Array Keyed}{src dst hi:Nat}(hs:src < xs.size)(hd:dst≤src)(hh:src < hi):Off xs (bubble xs src (src - dst)) dst hi:=
 ⟨bubble_perm _ _ _,fun k hk=>by
  rw[getElem?_bubble hs _ (by omega)];rw[if_neg (by omega),if_neg (by omega)]⟩
theorem zgM {xs:Array Keyed}{src dst:Nat}(hs:src < xs.size)(hd:dst≤src)(k:Nat):kAt κ (bubble xs src (src - dst)) k=if k=dst then kAt κ xs src else if dst < k∧k≤src then kAt κ xs (k - 1) else kAt κ xs k:=by
 have e:=getElem?_bubble hs (src - dst) (by omega) k;rw[show src - (src - dst)=dst by omega]at e;by_cases h1:k=dst
 ·rw[if_pos h1]at e ⊢;exact zbu e
 ·rw[if_neg h1]at e ⊢;by_cases h2:dst < k∧k≤src
  ·rw[if_pos h2]at e ⊢;exact zbu e
  ·rw[if_neg h2]at e ⊢;exact zbu e
theorem zgX {st:SortSt}{N lo n ok:Nat}{Q:Bool→SortSt→Prop}(hO:LtG prog w A s κ kd)(hB:TB κ kd N st)(hlo:lo+n≤N)(hok:ok≤n)(hU:Up κ (arrOf st) lo (lo+ok))
  (h:∀ ys,Off (arrOf st) ys lo (lo+n)→Up κ ys lo (lo+n)→Q true (setArr st ys)):wpS (model prog w) A E s (binarySort' lo n ok) Q st:=by
 rw[binarySort'_eq];refine wpS_bind (wpS_mono (wpS_forRange (I:=fun k c st'=>c=(none,())∧∃ ys,st'=setArr st ys∧Off (arrOf st) ys lo (lo+n)∧Up κ ys lo (lo+min k n))
  (Q:=fun c st'=>c=(none,())∧∃ ys,st'=setArr st ys∧Off (arrOf st) ys lo (lo+n)∧Up κ ys lo (lo+n)) ?step ?fin ?init) ?post)
 case post=>
  rintro c st' ⟨rfl,ys,rfl,ho,hu⟩;exact wpS_pure (h ys ho hu)
 case init=>
  refine ⟨rfl,arrOf st,rfl,Off.refl _ _ _,fun i j h1 h2 h3=>?_⟩;by_cases hz:j < lo+ok
  ·exact hU i j h1 h2 hz
  ·have:i=j:=by omega
   subst this;exact KeyOrd.kle_refl _
 case fin=>
  rintro c st' ⟨rfl,ys,rfl,ho,hu⟩;refine ⟨rfl,ys,rfl,ho,?_⟩;rwa[show min (max (max ok 1) n) n=n by omega]at hu
 case step=>
  rintro k c st' hk1 hk2 ⟨rfl,ys,rfl,ho,hu⟩;rw[show min k n=k by omega]at hu;have hB':TB κ kd N (setArr st ys):=hB.off ho;have hz:ys.size=N:=by rw[ho.size,hB.size]
  refine wpS_bind (wpS_mono (wpS_forRange (I:=fun x c st''=>st''=setArr st ys∧∃ l r,c=(none,l,r)∧l≤r∧r≤k∧r - l≤k - x∧
    (∀ i,i < l→κ.kle (kAt κ ys (lo+i)) (kAt κ ys (lo+k)))∧(∀ i,r≤i→i < k→κ.klt (kAt κ ys (lo+k)) (kAt κ ys (lo+i))))
   (Q:=fun c st''=>st''=setArr st ys∧∃ l r,c=(none,l,r)∧l≤k∧
    (∀ i,i < l→κ.kle (kAt κ ys (lo+i)) (kAt κ ys (lo+k)))∧(∀ i,l≤i→i < k→κ.klt (kAt κ ys (lo+k)) (kAt κ ys (lo+i)))) ?istep ?ifin ?iinit) ?ipost)
  case iinit=>exact ⟨rfl,0,k,rfl,by omega,by omega,by omega,fun i hi=>by omega,fun i h1 h2=>by omega⟩
  case ifin=>
   rintro c st'' ⟨rfl,l,r,rfl,hlr,hrk,hm,a1,a2⟩;have:l=r:=by omega
   subst this;exact ⟨rfl,l,l,rfl,hrk,a1,a2⟩
  case istep=>
   rintro x c st'' _ hxk ⟨rfl,l,r,rfl,hlr,hrk,hm,a1,a2⟩;dsimp only;by_cases hge:l ≥ r
   ·rw[if_pos hge];have:l=r:=by omega
    subst this;exact wpS_pure ⟨rfl,l,l,rfl,hrk,a1,a2⟩
   ·rw[if_neg hge];refine wpS_bind (zij hO hB' (by omega) (by omega) ?_);dsimp only;cases e:κ.blt (kAt κ ys (lo+k)) (kAt κ ys (lo+(l+r) / 2)) with
    | true=>
     refine wpS_pure ⟨rfl,l,(l+r) / 2,rfl,by omega,by omega,by omega,a1,fun i h1 h2=>?_⟩;exact KeyOrd.klt_of_klt_of_kle e (hu _ _ (by omega) (by omega) (by omega))
    | false=>
     refine wpS_pure ⟨rfl,(l+r) / 2+1,r,rfl,by omega,by omega,by omega,fun i h1=>?_,a2⟩;exact KeyOrd.kle_trans (hu (lo+i) (lo+(l+r) / 2) (by omega) (by omega) (by omega)) (show κ.kle (kAt κ ys (lo+(l+r) / 2)) (kAt κ ys (lo+k)) from e)
  case ipost=>
   rintro c st'' ⟨rfl,l,r,rfl,hlk,a1,a2⟩;dsimp only;rw[moveDown'_eq];refine wpS_bind (wpS_modify (wpS_pure ⟨rfl,_,rfl,ho.trans ((zkO (hi:=lo+n) (by rw[hz];omega) (by omega) (by omega)).wide (by omega) (yaa _)),?_⟩));rw[show min (k+1) n=k+1 by omega];intro i j h1 h2 h3;show κ.kle (kAt κ (bubble ys (lo+k) (lo+k - (lo+l))) i) (kAt κ (bubble ys (lo+k) (lo+k - (lo+l))) j);rw[zgM (by rw[hz];omega) (by omega),zgM (by rw[hz];omega) (by omega)];have lowS:∀ i,lo≤i→i < lo+l→κ.kle (kAt κ ys i) (kAt κ ys (lo+k)):=fun i q1 q2=>by
    have:=a1 (i - lo) (by omega);rw[show lo+(i - lo)=i by omega]at this;exact this
   have highS:∀ i,lo+l≤i→i < lo+k→κ.kle (kAt κ ys (lo+k)) (kAt κ ys i):=fun i q1 q2=>by
    have:=a2 (i - lo) (by omega) (by omega);rw[show lo+(i - lo)=i by omega]at this;exact KeyOrd.kle_of_klt this
   by_cases i1:i=lo+l
   ·rw[if_pos i1];by_cases j1:j=lo+l
    ·rw[if_pos j1];exact KeyOrd.kle_refl _
    ·rw[if_neg j1,if_pos (by omega)];exact highS _ (by omega) (by omega)
   ·rw[if_neg i1];by_cases i2:lo+l < i∧i≤lo+k
    ·rw[if_pos i2,if_neg (by omega),if_pos (by omega)];exact hu _ _ (by omega) (by omega) (by omega)
    ·rw[if_neg i2];by_cases j1:j=lo+l
     ·rw[if_pos j1];exact lowS i h1 (by omega)
     ·rw[if_neg j1];by_cases j2:lo+l < j∧j≤lo+k
      ·rw[if_pos j2];exact hu _ _ h1 (by omega) (by omega)
      ·rw[if_neg j2];exact hu _ _ h1 h2 (by omega)
end
end Tim
namespace Tim
open PySem PyProof.Rows
set_option autoImplicit false
section
variable {M:Model}{A:Around}{E:Value→Shared→Prop}{s:Shared}{st:SortSt}{n hint:Nat}{p:Nat→Bool}
abbrev C2:=Option (Option Nat)×Nat×Nat
theorem znm {Q:C2→SortSt→Prop}{f:Nat→C2→StateT SortSt Sem (ForInStep C2)}(hn:hint < n)(hp:p hint=true)
  (f1:∀ x l o,o ≥ n - hint→f x (none,l,o)=pure (.done (none,l,o)))
  (f2:∀ x l o (R:ForInStep C2→SortSt→Prop),o < n - hint→(p (hint+o)=true→R (.yield (none,o,2 * o+1)) st)→(p (hint+o)=false→R (.done (none,l,o)) st)→wpS M A E s (f x (none,l,o)) R st)
  (h:∀ l o,l < o→hint+l < n→p (hint+l)=true→(o < n - hint→p (hint+o)=false)→Q (none,l,o) st):wpS M A E s (forIn [:n] ((none,0,1):C2) f) Q st:=by
 refine wpS_forRange (I:=fun i c st'=>st'=st∧∃ l o,c=(none,l,o)∧l < o∧i+1≤o∧hint+l < n∧p (hint+l)=true) ?_ ?_ ⟨rfl,0,1,rfl,by omega,by omega,by omega,hp⟩
 ·rintro i c st' _ hi ⟨rfl,l,o,rfl,h1,h2,h3,h4⟩;by_cases ho:o ≥ n - hint
  ·rw[f1 i l o ho];exact wpS_pure (h l o h1 h3 h4 fun z=>absurd z (by omega))
  ·refine f2 i l o _ (by omega) (fun e=>?_) fun e=>?_
   ·exact ⟨rfl,o,2 * o+1,rfl,by omega,by omega,by omega,e⟩
   ·exact h l o h1 h3 h4 fun _=>e
 ·rintro c st' ⟨rfl,l,o,rfl,h1,h2,h3,h4⟩;exact h l o h1 h3 h4 fun z=>absurd z (by omega)
theorem zpy {Q:C2→SortSt→Prop}{f:Nat→C2→StateT SortSt Sem (ForInStep C2)}(hn:hint < n)(hp:p hint=false)
  (f1:∀ x l o,o ≥ hint+1→f x (none,l,o)=pure (.done (none,l,o)))
  (f2:∀ x l o (R:ForInStep C2→SortSt→Prop),o < hint+1→(p (hint - o)=false→R (.yield (none,o,2 * o+1)) st)→(p (hint - o)=true→R (.done (none,l,o)) st)→wpS M A E s (f x (none,l,o)) R st)
  (h:∀ l o,l < o→l≤hint→p (hint - l)=false→(o < hint+1→p (hint - o)=true)→Q (none,l,o) st):wpS M A E s (forIn [:n] ((none,0,1):C2) f) Q st:=by
 refine wpS_forRange (I:=fun i c st'=>st'=st∧∃ l o,c=(none,l,o)∧l < o∧i+1≤o∧l≤hint∧p (hint - l)=false) ?_ ?_ ⟨rfl,0,1,rfl,by omega,by omega,by omega,hp⟩
 ·rintro i c st' _ hi ⟨rfl,l,o,rfl,h1,h2,h3,h4⟩;by_cases ho:o ≥ hint+1
  ·rw[f1 i l o ho];exact wpS_pure (h l o h1 h3 h4 fun z=>absurd z (by omega))
  ·refine f2 i l o _ (by omega) (fun e=>?_) fun e=>?_
   ·exact ⟨rfl,o,2 * o+1,rfl,by omega,by omega,by omega,e⟩
   ·exact h l o h1 h3 h4 fun _=>e
 ·rintro c st' ⟨rfl,l,o,rfl,h1,h2,h3,h4⟩;exact h l o h1 h3 h4 fun z=>absurd z (by omega)
theorem zjw {Q:Option Nat→SortSt→Prop}{lo hi:Nat}{f:Nat→C2→StateT SortSt Sem (ForInStep C2)}{k:C2→StateT SortSt Sem (Option Nat)}
  (anti:∀ i j,i≤j→j < n→p j=true→p i=true) (h1:lo≤hi) (h2:hi≤n) (hl:∀ i,i < lo→p i=true) (hh:∀ i,hi≤i→i < n→p i=false)
  (f1:∀ x l r,l ≥ r→f x (none,l,r)=pure (.done (none,l,r)))
  (f2:∀ x l r (R:ForInStep C2→SortSt→Prop),l < r→r≤n→(p (l+(r - l) / 2)=true→R (.yield (none,l+(r - l) / 2+1,r)) st)→(p (l+(r - l) / 2)=false→R (.yield (none,l,l+(r - l) / 2)) st)→wpS M A E s (f x (none,l,r)) R st)
  (hk:∀ l r,k (none,l,r)=pure (some r))
  (h:∀ m,m≤n→(∀ i,i < m→p i=true)→(∀ i,m≤i→i < n→p i=false)→Q (some m) st):wpS M A E s (do let c ← forIn [:n] ((none,lo,hi):C2) f;k c) Q st:=by
 refine wpS_bind (wpS_mono (wpS_forRange (I:=fun x c st'=>st'=st∧∃ l r,c=(none,l,r)∧l≤r∧r≤n∧r - l≤n - x∧(∀ i,i < l→p i=true)∧∀ i,r≤i→i < n→p i=false)
  (Q:=fun c st'=>st'=st∧∃ m,c=(none,m,m)∧m≤n∧(∀ i,i < m→p i=true)∧∀ i,m≤i→i < n→p i=false) ?_ ?_ ⟨rfl,lo,hi,rfl,h1,h2,by omega,hl,hh⟩) ?_)
 ·rintro x c st' _ hx ⟨rfl,l,r,rfl,a1,a2,a3,a4,a5⟩;by_cases hge:l ≥ r
  ·rw[f1 x l r hge];have:l=r:=by omega
   subst this;exact wpS_pure ⟨rfl,l,rfl,a2,a4,a5⟩
  ·refine f2 x l r _ (by omega) a2 (fun e=>?_) fun e=>?_
   ·exact ⟨rfl,_,r,rfl,by omega,a2,by omega,fun i hi=>anti i _ (by omega) (by omega) e,a5⟩
   ·refine ⟨rfl,l,_,rfl,by omega,by omega,by omega,a4,fun i q1 q2=>?_⟩;cases z:p i with
    | false=>rfl
    | true=>rw[anti _ i q1 q2 z]at e;cases e
 ·rintro c st' ⟨rfl,l,r,rfl,a1,a2,a3,a4,a5⟩;have:l=r:=by omega
  subst this;exact ⟨rfl,l,rfl,a2,a4,a5⟩
 ·rintro c st' ⟨rfl,m,rfl,a2,a4,a5⟩;rw[hk];exact wpS_pure (h m a2 a4 a5)
end
def zjb:Bool→Keyed→Array Keyed→Nat→Nat→Nat→StateT SortSt Sem (Option Nat):=sortPriv% PySem.Builtin.gallop
section
variable {prog:Program}{w:World}{A:Around}{E:Value→Shared→Prop}{s:Shared}{κ:KeyKind}{kd:SortKind}
def bey (κ:KeyKind)(left:Bool)(key:Keyed)(arr:Array Keyed)(base i:Nat):Bool:=if left=true then κ.blt (kAt κ arr (base+i)) (ky κ key) else !κ.blt (ky κ key) (kAt κ arr (base+i))
theorem zcI {st:SortSt}{left:Bool}{key:Keyed}{arr:Array Keyed}{base n hint:Nat}{Q:Option Nat→SortSt→Prop}(hO:LtG prog w A s κ kd)(hkd:kindOf st=kd)(hkey:Keyd κ key)(hks:∀ q∈arr.toList,Keyd κ q)
  (hz:base+n≤arr.size) (hn:hint < n) (hU:Up κ arr base (base+n))
  (h:∀ m,m≤n→(∀ i,i < m→bey κ left key arr base i=true)→(∀ i,m≤i→i < n→bey κ left key arr base i=false)→Q (some m) st):wpS (model prog w) A E s (zjb left key arr base n hint) Q st:=by
 have anti:∀ i j,i≤j→j < n→bey κ left key arr base j=true→bey κ left key arr base i=true:=by
  intro i j hij hj;have hle:=hU (base+i) (base+j) (by omega) (by omega) (by omega);unfold bey;cases left with
  | true=>
   simp only[if_true];intro e;exact KeyOrd.klt_of_kle_of_klt hle e
  | false=>
   simp only[yaL,if_false];intro e;cases z:κ.blt (ky κ key) (kAt κ arr (base+i)) with
   | false=>rfl
   | true=>
    have:κ.blt (ky κ key) (kAt κ arr (base+j))=true:=KeyOrd.klt_of_klt_of_kle z hle;rw[this]at e;cases e
 have hb:∀ i (R:Option Bool→SortSt→Prop),i < n→R (some (bey κ left key arr base i)) st→wpS (model prog w) A E s (do
   let x ← elem' arr (base+i)
   if left=true then lt' x key else do
    let r ← lt' key x
    pure (Option.map (fun b=>!b) r)) R st:=fun i R hi hR=>by
  have hi':base+i < arr.size:=by omega
  refine wpS_bind (zbd hi' ?_);have hkx:Keyd κ arr[base+i]:=hks _ (by simp);unfold bey at hR;rw[zbf hi']at hR;cases left with
  | true=>
   rw[if_pos rfl]at hR ⊢;exact lt_G hO hkd hkx hkey hR
  | false=>
   rw[if_neg (by decide)]at hR ⊢;exact wpS_bind (lt_G hO hkd hkey hkx (wpS_pure hR))
 refine wpS_bind (hb hint _ hn ?_);dsimp only;generalize bey κ left key arr base=p at *;cases e0:p hint with
 | true=>
  simp only[if_true];refine wpS_bind (znm (p:=p) hn e0 (fun x l o ho=>?_) (fun x l o R ho r1 r2=>?_) fun l o a1 a2 a3 a4=>?_)
  ·dsimp only;rw[if_pos ho]
  ·dsimp only;rw[if_neg (by omega)];refine wpS_bind (hb (hint+o) _ (by omega) ?_);dsimp only;cases e:p (hint+o) with
   | true=>exact wpS_pure (r1 e)
   | false=>exact wpS_pure (r2 e)
  ·dsimp only;refine zjw (p:=p) anti (by omega) (by omega) (fun i hi=>anti i (hint+l) (by omega) a2 a3) (fun i q1 q2=>?_) (fun x l r hge=>?_) (fun x l r R q1 q2 r1 r2=>?_) (fun _ _=>rfl) h
   ·by_cases ho:o < n - hint
    ·cases z:p i with
     | false=>rfl
     | true=>
      have:=anti (hint+o) i (by omega) q2 z;rw[a4 ho]at this;cases this
    ·exact absurd q2 (by omega)
   ·dsimp only;rw[if_pos hge]
   ·dsimp only;rw[if_neg (by omega)];refine wpS_bind (hb _ _ (by omega) ?_);dsimp only;cases e:p (l+(r - l) / 2) with
    | true=>exact wpS_pure (r1 e)
    | false=>exact wpS_pure (r2 e)
 | false=>
  simp only[yaL,if_false];refine wpS_bind (zpy (p:=p) hn e0 (fun x l o ho=>?_) (fun x l o R ho r1 r2=>?_) fun l o a1 a2 a3 a4=>?_)
  ·dsimp only;rw[if_pos ho]
  ·dsimp only;rw[if_neg (by omega)];refine wpS_bind (hb (hint - o) _ (by omega) ?_);dsimp only;cases e:p (hint - o) with
   | true=>exact wpS_pure (r2 e)
   | false=>exact wpS_pure (r1 e)
  ·dsimp only;refine zjw (p:=p) anti (by omega) (by omega) (fun i hi=>?_) (fun i q1 q2=>?_) (fun x l r hge=>?_) (fun x l r R q1 q2 r1 r2=>?_) (fun _ _=>rfl) h
   ·by_cases ho:o < hint+1
    ·exact anti i (hint - o) (by omega) (by omega) (a4 ho)
    ·exact absurd hi (by omega)
   ·cases z:p i with
    | false=>rfl
    | true=>
     have:=anti (hint - l) i (by omega) q2 z;rw[a3]at this;cases this
   ·dsimp only;rw[if_pos hge]
   ·dsimp only;rw[if_neg (by omega)];refine wpS_bind (hb _ _ (by omega) ?_);dsimp only;cases e:p (l+(r - l) / 2) with
    | true=>exact wpS_pure (r1 e)
    | false=>exact wpS_pure (r2 e)
end
end Tim
namespace Tim
open PySem PyProof.Rows
set_option autoImplicit false
section
variable {κ:KeyKind}
def le (κ:KeyKind)(x y:Keyed):Prop:=κ.kle (ky κ x) (ky κ y)
theorem le_refl (x:Keyed):le κ x x:=KeyOrd.kle_refl _
theorem le_trans {x y z:Keyed}(h1:le κ x y)(h2:le κ y z):le κ x z:=KeyOrd.kle_trans h1 h2
abbrev SL (κ:KeyKind)(l:List Keyed):Prop:=l.Pairwise (le κ)
theorem SL.drop {l:List Keyed}(h:SL κ l)(n:Nat):SL κ (l.drop n):=h.sublist (yb5 n l)
theorem SL.take {l:List Keyed}(h:SL κ l)(n:Nat):SL κ (l.take n):=h.sublist (List.take_sublist n l)
theorem zeH {xs:Array Keyed}{i:Nat}(h:i < xs.size):xs.toList.drop i=xs[i]::xs.toList.drop (i+1):=by
 have h':i < xs.toList.length:=by simpa using h
 rw[yb6 h'];simp
theorem zdt {xs:Array Keyed}{i:Nat}(hs:SL κ xs.toList)(h:i < xs.size):∀ y∈xs.toList.drop i,le κ xs[i] y:=by
 intro y hy;have q:=hs.drop i;rw[zeH h]at q hy;rcases yah.mp hy with rfl | hy
 ·exact le_refl _
 ·exact (yb7.mp q).1 y hy
theorem zed {xs:Array Keyed}{i k:Nat}{x:Keyed}(h:x∈(xs.toList.drop i).take k):∃ j,j < k∧i+j < xs.size∧xs[i+j]?=some x:=by
 obtain ⟨j,hj,e⟩:=List.mem_iff_getElem.mp h;have hj':=hj;rw[yao,yaN,yar]at hj';refine ⟨j,by omega,by omega,?_⟩;rw[List.getElem_take,List.getElem_drop]at e;rw[yaZ (by omega)];simpa using e
theorem zdb {xs:Array Keyed}{i:Nat}{x:Keyed}(h:xs[i]?=some x):kAt κ xs i=ky κ x:=by
 unfold kAt;rw[h]
theorem zg0 {xs:Array Keyed}(hs:SL κ xs.toList)(lo hi:Nat)(hh:hi≤xs.size):Up κ xs lo hi:=by
 intro i j h1 h2 h3;have hj:j < xs.size:=by omega
 have hi:i < xs.size:=by omega
 rw[zbf hi,zbf hj];refine zdt hs hi _ ?_;rw[List.mem_iff_getElem];refine ⟨j - i,by rw[yaN,yar];omega,?_⟩;rw[List.getElem_drop];simp[show i+(j - i)=j by omega]
theorem zqh {xs:Array Keyed}(h:Up κ xs 0 xs.size):SL κ xs.toList:=by
 rw[SL,ybe];intro i j hi hj hij;have hi':i < xs.size:=by simpa using hi
 have hj':j < xs.size:=by simpa using hj
 have:=h i j (yaH _) (by omega) hj';rw[zbf hi',zbf hj']at this;simpa [le] using this
structure MI (κ:KeyKind)(a b:Array Keyed)(out:Array Keyed)(ia ib:Nat):Prop where
 perm:(out.toList++(a.toList.drop ia++b.toList.drop ib)).Perm (a.toList++b.toList)
 srt:SL κ out.toList
 low:∀ x∈out.toList,∀ y∈a.toList.drop ia++b.toList.drop ib,le κ x y
variable {a b out:Array Keyed}{ia ib:Nat}
theorem MI.goA {out':Array Keyed}{k:Nat}(h:MI κ a b out ia ib)(sa:SL κ a.toList)(ho:out'.toList=out.toList++(a.toList.drop ia).take k)(hle:∀ x∈(a.toList.drop ia).take k,∀ y∈b.toList.drop ib,le κ x y):MI κ a b out' (ia+k) ib:=by
 have e:a.toList.drop ia=(a.toList.drop ia).take k++a.toList.drop (ia+k):=by
  rw[← ybB,yaO]
 have s1:=sa.drop ia;rw[e]at s1;obtain ⟨p1,p2,p3⟩:=yaF.mp s1;refine ⟨?_,?_,?_⟩
 ·have q:=h.perm;rw[e]at q;rw[ho];simpa [yaM] using q
 ·rw[ho];exact yaF.mpr ⟨h.srt,p1,fun x hx y hy=>h.low x hx y (yaV _ (ybC hy))⟩
 ·intro x hx y hy;rw[ho]at hx;rcases yak.mp hx with hx | hx
  ·refine h.low x hx y ?_;rcases yak.mp hy with hy | hy
   ·refine yaV _ ?_;rw[e];exact yaE _ hy
   ·exact yaE _ hy
  ·rcases yak.mp hy with hy | hy
   ·exact p3 x hx y hy
   ·exact hle x hx y hy
theorem MI.goB {out':Array Keyed}{k:Nat}(h:MI κ a b out ia ib)(sb:SL κ b.toList)(ho:out'.toList=out.toList++(b.toList.drop ib).take k)(hle:∀ x∈(b.toList.drop ib).take k,∀ y∈a.toList.drop ia,le κ x y):MI κ a b out' ia (ib+k):=by
 have e:b.toList.drop ib=(b.toList.drop ib).take k++b.toList.drop (ib+k):=by
  rw[← ybB,yaO]
 have s1:=sb.drop ib;rw[e]at s1;obtain ⟨p1,p2,p3⟩:=yaF.mp s1;refine ⟨?_,?_,?_⟩
 ·have q:=h.perm;rw[e]at q;rw[ho];refine List.Perm.trans ?_ q;rw[yaM];refine List.Perm.append_left _ ?_;rw[← yaM,← yaM];exact List.Perm.append_right _ ybO
 ·rw[ho];exact yaF.mpr ⟨h.srt,p1,fun x hx y hy=>h.low x hx y (yaE _ (ybC hy))⟩
 ·intro x hx y hy;rw[ho]at hx;rcases yak.mp hx with hx | hx
  ·refine h.low x hx y ?_;rcases yak.mp hy with hy | hy
   ·exact yaV _ hy
   ·refine yaE _ ?_;rw[e];exact yaE _ hy
  ·rcases yak.mp hy with hy | hy
   ·exact hle x hx y hy
   ·exact p3 x hx y hy
theorem zec {xs:Array Keyed}{i:Nat}(h:i < xs.size):(xs.toList.drop i).take 1=[xs[i]]:=by
 rw[zeH h];rfl
theorem MI.pa (h:MI κ a b out ia ib)(sa:SL κ a.toList)(hia:ia < a.size)(hle:∀ y∈b.toList.drop ib,le κ a[ia] y):MI κ a b (out.push a[ia]) (ia+1) ib:=
 h.goA (k:=1) sa (by rw[zec hia,ybP]) (by
  rw[zec hia];intro x hx;rw[yal.mp hx];exact hle)
theorem MI.pb (h:MI κ a b out ia ib)(sb:SL κ b.toList)(hib:ib < b.size)(hle:∀ y∈a.toList.drop ia,le κ b[ib] y):MI κ a b (out.push b[ib]) ia (ib+1):=
 h.goB (k:=1) sb (by rw[zec hib,ybP]) (by
  rw[zec hib];intro x hx;rw[yal.mp hx];exact hle)
structure zb7 (κ:KeyKind)(a b m:Array Keyed):Prop where
 perm:m.toList.Perm (a.toList++b.toList)
 srt:SL κ m.toList
theorem zeZ {xs:Array Keyed}{i k:Nat}:(xs.extract i (i+k)).toList=(xs.toList.drop i).take k:=by
 rw[yb8,yb9,Nat.add_sub_cancel_left]
theorem ze0 {xs:Array Keyed}{i:Nat}:(xs.extract i xs.size).toList=xs.toList.drop i:=by
 rw[yb8,yb9];exact yav (by rw[yaN,yar];exact yaa _)
theorem MI.done (h:MI κ a b out ia ib)(sa:SL κ a.toList)(hib:b.size≤ib):zb7 κ a b (out++a.extract ia a.size++b.extract ib b.size):=by
 have e:b.toList.drop ib=[]:=ya0 (by rw[yar];exact hib);have e2:(out++a.extract ia a.size++b.extract ib b.size).toList=out.toList++(a.toList.drop ia++b.toList.drop ib):=by
  rw[yaP,yaP,ze0,ze0,yaM]
 refine ⟨by rw[e2];exact h.perm,?_⟩;rw[e2,e,yay];refine yaF.mpr ⟨h.srt,sa.drop ia,fun x hx y hy=>h.low x hx y (yaV _ hy)⟩
theorem MI.doneA (h:MI κ a b out ia ib)(sb:SL κ b.toList)(hia:a.size≤ia):zb7 κ a b (out++a.extract ia a.size++b.extract ib b.size):=by
 have e:a.toList.drop ia=[]:=ya0 (by rw[yar];exact hia);have e2:(out++a.extract ia a.size++b.extract ib b.size).toList=out.toList++(a.toList.drop ia++b.toList.drop ib):=by
  rw[yaP,yaP,ze0,ze0,yaM]
 refine ⟨by rw[e2];exact h.perm,?_⟩;rw[e2,e,List.nil_append];refine yaF.mpr ⟨h.srt,sb.drop ib,fun x hx y hy=>h.low x hx y (yaE _ hy)⟩
theorem MI.last (h:MI κ a b out ia ib)(sa:SL κ a.toList)(sb:SL κ b.toList)(hl:∀ y∈b.toList,∀ x∈a.toList.drop ia,le κ y x):zb7 κ a b (out++b.extract ib b.size++a.extract ia a.size):=by
 have e2:(out++b.extract ib b.size++a.extract ia a.size).toList=out.toList++(b.toList.drop ib++a.toList.drop ia):=by
  rw[yaP,yaP,ze0,ze0,yaM]
 refine ⟨?_,?_⟩
 ·rw[e2];exact (List.Perm.append_left _ ybO).trans h.perm
 ·rw[e2];refine yaF.mpr ⟨h.srt,yaF.mpr ⟨sb.drop ib,sa.drop ia,fun x hx y hy=>hl x (ybD hx) y hy⟩,fun x hx y hy=>h.low x hx y ?_⟩;rcases yak.mp hy with q | q
  ·exact yaE _ q
  ·exact yaV _ q
end
end Tim
namespace Tim
open PySem PyProof.Rows
set_option autoImplicit false
def zj5:Array Keyed→Array Keyed→StateT SortSt Sem (Array Keyed):=sortPriv% PySem.Builtin.mergeLo
def zkz:Nat→StateT SortSt Sem Unit:=sortPriv% PySem.Builtin.setMinGallop
structure SG (st st':SortSt):Prop where
 kind:kindOf st'=kindOf st
 arr:arrOf st'=arrOf st
 pend:pendingOf st'=pendingOf st
 failed:failedOf st'=failedOf st
theorem SG.refl (st:SortSt):SG st st:=⟨rfl,rfl,rfl,rfl⟩
theorem SG.trans {s1 s2 s3:SortSt}(h:SG s1 s2)(g:SG s2 s3):SG s1 s3:=⟨g.kind.trans h.kind,g.arr.trans h.arr,g.pend.trans h.pend,g.failed.trans h.failed⟩
section
variable {prog:Program}{w:World}{A:Around}{E:Value→Shared→Prop}{s:Shared}{κ:KeyKind}{kd:SortKind}
theorem zcq {g:Nat}{st st0:SortSt}{Q:Unit→SortSt→Prop}(hg:SG st0 st)(h:∀ st',SG st0 st'→Q () st'):wpS (model prog w) A E s (zkz g) Q st:=by
 refine wpS_modify (h _ (hg.trans ⟨rfl,rfl,rfl,rfl⟩))
theorem mp2 {P g:Prop}(k:P)(m:P→g):g:=m k
set_option maxHeartbeats 4000000 in
theorem zkq {st:SortSt}{a b:Array Keyed}{Q:Array Keyed→SortSt→Prop}(hO:LtG prog w A s κ kd)(hkd:kindOf st=kd)(ka:∀ q∈a.toList,Keyd κ q)(kb:∀ q∈b.toList,Keyd κ q)(sa:SL κ a.toList)(sb:SL κ b.toList)
  (ha:0 < a.size) (hb:0 < b.size) (h0:∀ y∈a.toList,le κ b[0] y) (hl:∀ y∈b.toList,∀ i,i+1=a.size→∀ x∈a.toList.drop i,le κ y x)
  (h:∀ m st',zb7 κ a b m→SG st st'→Q m st'):wpS (model prog w) A E s (zj5 a b) Q st:=by
 have m0:MI κ a b #[b[0]] 0 1:=by
  have z:MI κ a b #[] 0 0:=⟨by simp,by simp,by simp⟩;have:=z.pb sb hb (by simpa using h0);simpa using this
 refine wpS_bind (zcW ?_);dsimp only;refine wpS_bind (zbd hb ?_);by_cases e1:1=b.size
 ·rw[if_pos (by simpa using e1)];exact wpS_pure (h _ _ (m0.done sa (by omega)) (SG.refl st))
 rw[if_neg (by simpa using e1)];by_cases e2:0+1=a.size
 ·rw[if_pos (by simpa using e2)];exact wpS_pure (h _ _ (m0.last sa sb (fun y hy x hx=>hl y hy 0 e2 x hx)) (SG.refl st))
 rw[if_neg (by simpa using e2)];refine wpS_bind (wpS_get ?_);refine wpS_bind (wpS_mono (wpS_forRange (I:=fun i c st'=>SG st st'∧∃ out ia ib g,c=(none,out,ia,ib,g)∧MI κ a b out ia ib∧ia+1 < a.size∧ib < b.size∧i+1≤ia+ib)
  (Q:=fun c st'=>SG st st'∧∃ m r,c=(some m,r)∧zb7 κ a b m) ?step ?fin ⟨SG.refl st,_,0,1,_,rfl,m0,by omega,by omega,by omega⟩) ?post)
 case post=>
  rintro c st' ⟨g,m,r,rfl,hm⟩;exact wpS_pure (h m st' hm g)
 case fin=>
  rintro c st' ⟨g,out,ia,ib,gg,rfl,hm,q1,q2,q3⟩;exact absurd q3 (by omega)
 case step=>
  rintro i c st1 _ hi ⟨g1,out,ia,ib,gg,rfl,hm,q1,q2,q3⟩;dsimp only;refine wpS_bind (wpS_mono (wpS_forRange (I:=fun x c st'=>st'=st1∧∃ out' ia' ib' ca cb,c=(none,out',ia',ib',ca,cb)∧MI κ a b out' ia' ib'∧ia'+1 < a.size∧ib' < b.size∧ia+ib+x≤ia'+ib')
   (Q:=fun c st'=>st'=st1∧((∃ m r,c=(some m,r)∧zb7 κ a b m)∨∃ out' ia' ib' ca cb,c=(none,out',ia',ib',ca,cb)∧MI κ a b out' ia' ib'∧ia'+1 < a.size∧ib' < b.size∧ia+ib+1≤ia'+ib')) ?istep ?ifin ⟨rfl,out,ia,ib,0,0,rfl,hm,q1,q2,by omega⟩) ?ipost)
  case ifin=>
   rintro c st' ⟨rfl,out',ia',ib',ca,cb,rfl,hm',r1,r2,r3⟩;exact ⟨rfl,.inr ⟨out',ia',ib',ca,cb,rfl,hm',r1,r2,by omega⟩⟩
  case istep=>
   rintro x c st' _ hx ⟨rfl,out',ia',ib',ca,cb,rfl,hm',r1,r2,r3⟩;dsimp only;refine wpS_bind (zbd r2 (wpS_bind (zbd (show ia' < a.size by omega) (wpS_bind (lt_G hO (by rw[g1.kind];exact hkd) (kb _ (by simp)) (ka _ (by simp)) ?_)))));dsimp only;cases e:κ.blt (ky κ b[ib']) (ky κ (a[ia']'(by omega))) with
   | true=>
    simp only[if_true];have hm2:=hm'.pb sb r2 (fun y hy=>le_trans (show le κ b[ib'] (a[ia']'(by omega)) from KeyOrd.kle_of_klt e) (zdt sa (by omega) y hy));refine wpS_bind (zbd r2 ?_);by_cases z:ib'+1=b.size
    ·rw[if_pos (by simpa using z)];exact wpS_pure ⟨rfl,.inl ⟨_,_,rfl,hm2.done sa (by omega)⟩⟩
    ·rw[if_neg (by simpa using z)];split
     ·exact wpS_pure ⟨rfl,.inr ⟨_,_,_,_,_,rfl,hm2,by omega,by omega,by omega⟩⟩
     ·exact wpS_pure ⟨rfl,_,_,_,_,_,rfl,hm2,by omega,by omega,by omega⟩
   | false=>
    simp only[yaL,if_false];have hm2:=hm'.pa sa (show ia' < a.size by omega) (fun y hy=>le_trans (show le κ (a[ia']'(by omega)) b[ib'] from e) (zdt sb r2 y hy));refine wpS_bind (zbd (show ia' < a.size by omega) ?_);by_cases z:ia'+1+1=a.size
    ·rw[if_pos (by simpa using z)];exact wpS_pure ⟨rfl,.inl ⟨_,_,rfl,hm2.last sa sb (fun y hy x hx=>hl y hy _ z x hx)⟩⟩
    ·rw[if_neg (by simpa using z)];split
     ·exact wpS_pure ⟨rfl,.inr ⟨_,_,_,_,_,rfl,hm2,by omega,by omega,by omega⟩⟩
     ·exact wpS_pure ⟨rfl,_,_,_,_,_,rfl,hm2,by omega,by omega,by omega⟩
  case ipost=>
   rintro c st' ⟨rfl,⟨m,r,rfl,hmm⟩ | ⟨out,ia',ib',ca,cb,rfl,hm,q1,q2,q4⟩⟩
   ·exact wpS_pure ⟨g1,m,_,rfl,hmm⟩
   dsimp only;refine wpS_bind (zcW ?_);refine wpS_bind (wpS_mono (wpS_forRange (I:=fun x c st''=>SG st st''∧∃ out1 ia1 ib1 gg ca cb,c=(none,out1,ia1,ib1,gg,ca,cb)∧MI κ a b out1 ia1 ib1∧ia1+1 < a.size∧ib1 < b.size∧ia+ib+1≤ia1+ib1)
    (Q:=fun c st''=>SG st st''∧((∃ m r,c=(some m,r)∧zb7 κ a b m)∨∃ out1 ia1 ib1 gg ca cb,c=(none,out1,ia1,ib1,gg,ca,cb)∧MI κ a b out1 ia1 ib1∧ia1+1 < a.size∧ib1 < b.size∧ia+ib+1≤ia1+ib1)) ?jstep ?jfin ⟨g1,_,_,_,_,_,_,rfl,hm,q1,q2,q4⟩) ?jpost)
   case jfin=>
    rintro c st'' ⟨g2,out1,ia1,ib1,gg1,ca1,cb1,rfl,r⟩;exact ⟨g2,.inr ⟨_,_,_,_,_,_,rfl,r⟩⟩
   case jpost=>
    rintro c st'' ⟨g2,⟨m,r,rfl,hmm⟩ | ⟨out1,ia1,ib1,gg1,ca1,cb1,rfl,hm1,t1,t2,t3⟩⟩
    ·exact wpS_pure ⟨g2,m,_,rfl,hmm⟩
    ·dsimp only;exact wpS_bind (zcq g2 fun st3 g3=>wpS_pure ⟨g3,_,_,_,_,rfl,hm1,t1,t2,by omega⟩)
   case jstep=>
    rintro x c st'' _ hx ⟨g2,out1,ia1,ib1,gg1,ca1,cb1,rfl,hm1,t1,t2,t3⟩;dsimp only;apply mp2
    case m=>
     intro key;by_cases hg:gg1 > 1
     ·rw[if_pos hg];generalize gg1 - 1=gg2
      revert gg2
      exact key
     ·rw[if_neg hg];generalize gg1=gg2
      revert gg2
      exact key
    intro gg2;refine wpS_bind (zcq g2 fun st3 g3=>?_);refine wpS_bind (zbd t2 (wpS_bind (zcI hO (by rw[g3.kind];exact hkd) (kb _ (by simp)) ka (by omega) (by omega) (zg0 sa _ _ (by omega)) fun k k1 k2 k3=>?_)));dsimp only;have hmk:MI κ a b (out1++a.extract ia1 (ia1+k)) (ia1+k) ib1:=hm1.goA sa (by rw[yaP,zeZ]) fun x hx y hy=>by
     obtain ⟨j,j1,j2,j3⟩:=zed hx;have q:=k2 j j1;unfold bey at q;rw[if_neg (by decide),zdb j3,ybE]at q;exact le_trans (show le κ x b[ib1] from q) (zdt sb t2 y hy)
    have bk:∀ hq:ia1+k < a.size,∀ y∈a.toList.drop (ia1+k),le κ b[ib1] y:=fun hq y hy=>by
     have q:=k3 k (yaa _) (by omega);unfold bey at q;rw[if_neg (by decide),zbf hq,ycv]at q;exact le_trans (show le κ b[ib1] a[ia1+k] from KeyOrd.kle_of_klt q) (zdt sa hq y hy)
    apply mp2
    case m=>
     by_cases hk:k > 0
     ·by_cases z:ia1+k+1=a.size
      ·intro h;clear h;rw[if_pos hk,if_pos (by simpa using z)];exact wpS_pure ⟨g3,.inl ⟨_,_,rfl,hmk.last sa sb (fun y hy x hx=>hl y hy _ z x hx)⟩⟩
      have z0:¬(ia1+k+1 == a.size)=true:=by simpa using z
      by_cases z':ia1+k=a.size
      ·intro h;clear h;rw[if_pos hk,if_neg z0,if_pos (by simpa using z')];exact wpS_pure ⟨g3,.inl ⟨_,_,rfl,hmk.doneA sb (by omega)⟩⟩
      have z1:¬(ia1+k == a.size)=true:=by simpa using z'
      have u2:=bk (by omega);have w1:ia1+k+1 < a.size:=by omega
      have w3:ia+ib+1≤ia1+k+ib1:=by omega
      intro key;rw[if_pos hk,if_neg z0,if_neg z1];refine (?_:MI κ a b (out1++a.extract ia1 (ia1+k)) (ia1+k) ib1→(∀ y∈a.toList.drop (ia1+k),le κ (b[ib1]'t2) y)→ia1+k+1 < a.size→ia+ib+1≤ia1+k+ib1→_) hmk u2 w1 w3;generalize out1++a.extract ia1 (ia1+k)=out2;generalize ia1+k=ja;generalize k=cnt
      revert out2 ja cnt
      exact key
     ·have e0:k=0:=by omega
      have u2:=bk (by omega);rw[e0,ybr]at u2;intro key;rw[if_neg hk];refine (?_:MI κ a b out1 ia1 ib1→(∀ y∈a.toList.drop ia1,le κ (b[ib1]'t2) y)→ia1+1 < a.size→ia+ib+1≤ia1+ib1→_) hm1 u2 t1 t3;generalize k=cnt;generalize ia1=ja;generalize out1=out2;exact key out2 ja cnt
    intro out2 ja cnt hm2 u2 w1 w3;refine wpS_bind (zbd t2 ?_);have hm3:=hm2.pb sb t2 u2;by_cases z2:ib1+1=b.size
    ·rw[if_pos (by simpa using z2)];exact wpS_pure ⟨g3,.inl ⟨_,_,rfl,hm3.done sa (by omega)⟩⟩
    ·rw[if_neg (by simpa using z2)];refine wpS_bind (zbd (show ja < a.size by omega) (wpS_bind (zcI hO (by rw[g3.kind];exact hkd) (ka _ (by simp)) kb (by omega) (by omega) (zg0 sb _ _ (by omega)) fun k' c1 c2 c3=>?_)));dsimp only;have ge5:∀ hq:ib1+1+k' < b.size,le κ (a[ja]'(by omega)) b[ib1+1+k']:=fun hq=>by
      have q:=c3 k' (yaa _) (by omega);unfold bey at q;rw[if_pos rfl,zbf hq]at q;exact q
     have hm4:MI κ a b (out2.push b[ib1]++b.extract (ib1+1) (ib1+1+k')) ja (ib1+1+k'):=hm3.goB sb (by rw[yaP (ys:=b.extract (ib1+1) (ib1+1+k')),zeZ (xs:=b)]) fun x hx y hy=>by
      obtain ⟨j,j1,j2,j3⟩:=zed hx;have q:=c2 j j1;unfold bey at q;rw[if_pos rfl,zdb j3]at q;exact le_trans (show le κ x (a[ja]'(by omega)) from KeyOrd.kle_of_klt q) (zdt sa (by omega) y hy)
     by_cases hk':k' > 0
     ·rw[if_pos hk'];by_cases z3:ib1+1+k'=b.size
      ·rw[if_pos (by simpa using z3)];exact wpS_pure ⟨g3,.inl ⟨_,_,rfl,hm4.done sa (by omega)⟩⟩
      ·rw[if_neg (by simpa using z3)];refine wpS_bind (zbd (show ja < a.size by omega) ?_);have hm5:=hm4.pa sa (show ja < a.size by omega) fun y hy=>le_trans (show le κ (a[ja]'(by omega)) (b[ib1+1+k']'(by omega)) from ge5 (by omega)) (zdt sb (by omega) y hy);by_cases z4:ja+1+1=a.size
       ·rw[if_pos (by simpa using z4)];exact wpS_pure ⟨g3,.inl ⟨_,_,rfl,hm5.last sa sb (fun y hy x hx=>hl y hy _ z4 x hx)⟩⟩
       ·rw[if_neg (by simpa using z4)];split
        ·exact wpS_pure ⟨g3,.inr ⟨_,_,_,_,_,_,rfl,hm5,by omega,by omega,by omega⟩⟩
        ·exact wpS_pure ⟨g3,_,_,_,_,_,_,rfl,hm5,by omega,by omega,by omega⟩
     ·rw[if_neg hk'];have e0:k'=0:=by omega
      subst e0
      replace hm4:=hm3
      refine wpS_bind (zbd (show ja < a.size by omega) ?_);have hm5:=hm4.pa sa (show ja < a.size by omega) fun y hy=>le_trans (show le κ (a[ja]'(by omega)) (b[ib1+1]'(by omega)) from ge5 (by omega)) (zdt sb (by omega) y hy);by_cases z4:ja+1+1=a.size
      ·rw[if_pos (by simpa using z4)];exact wpS_pure ⟨g3,.inl ⟨_,_,rfl,hm5.last sa sb (fun y hy x hx=>hl y hy _ z4 x hx)⟩⟩
      ·rw[if_neg (by simpa using z4)];split
       ·exact wpS_pure ⟨g3,.inr ⟨_,_,_,_,_,_,rfl,hm5,by omega,by omega,by omega⟩⟩
       ·exact wpS_pure ⟨g3,_,_,_,_,_,_,rfl,hm5,by omega,by omega,by omega⟩
end
end Tim
namespace Tim
open PySem PyProof.Rows
set_option autoImplicit false
section
variable {κ:KeyKind}{a b out:Array Keyed}{na nb:Nat}
structure MH (κ:KeyKind)(a b:Array Keyed)(out:Array Keyed)(na nb:Nat):Prop where
 perm:((a.toList.take na++b.toList.take nb)++out.toList.reverse).Perm (a.toList++b.toList)
 srt:SL κ out.toList.reverse
 high:∀ x∈out.toList.reverse,∀ y∈a.toList.take na++b.toList.take nb,le κ y x
theorem zeN {l:List Keyed}{n m:Nat}(h:n≤m):l.take m=l.take n++(l.take m).drop n:=by
 have e:(l.take m).take n=l.take n:=by rw[List.take_take,ybs h]
 rw[← e,yaO]
theorem MH.goA {out':Array Keyed}{n:Nat}(h:MH κ a b out na nb)(sa:SL κ a.toList)(hn:n≤na)(ho:out'.toList.reverse=(a.toList.take na).drop n++out.toList.reverse)(hle:∀ x∈(a.toList.take na).drop n,∀ y∈b.toList.take nb,le κ y x):MH κ a b out' n nb:=by
 have e:=zeN (l:=a.toList) hn;have s1:=sa.take na;rw[e]at s1;obtain ⟨p1,p2,p3⟩:=yaF.mp s1;refine ⟨?_,?_,?_⟩
 ·refine List.Perm.trans ?_ h.perm;rw[ho,e,← yaM];refine List.Perm.append_right _ ?_;rw[yaM,yaM,← e];exact List.Perm.append_left _ ybO
 ·rw[ho];exact yaF.mpr ⟨p2,h.srt,fun x hx y hy=>h.high y hy x (yaV _ (ybD hx))⟩
 ·intro x hx y hy;rw[ho]at hx;rcases yak.mp hx with hx | hx
  ·rcases yak.mp hy with hy | hy
   ·exact p3 y hy x hx
   ·exact hle x hx y hy
  ·refine h.high x hx y ?_;rcases yak.mp hy with hy | hy
   ·refine yaV _ ?_;rw[e];exact yaV _ hy
   ·exact yaE _ hy
theorem MH.goB {out':Array Keyed}{n:Nat}(h:MH κ a b out na nb)(sb:SL κ b.toList)(hn:n≤nb)(ho:out'.toList.reverse=(b.toList.take nb).drop n++out.toList.reverse)(hle:∀ x∈(b.toList.take nb).drop n,∀ y∈a.toList.take na,le κ y x):MH κ a b out' na n:=by
 have e:=zeN (l:=b.toList) hn;have s1:=sb.take nb;rw[e]at s1;obtain ⟨p1,p2,p3⟩:=yaF.mp s1;refine ⟨?_,?_,?_⟩
 ·refine List.Perm.trans (List.Perm.of_eq ?_) h.perm;rw[ho,← yaM,yaM (a.toList.take na),← e]
 ·rw[ho];exact yaF.mpr ⟨p2,h.srt,fun x hx y hy=>h.high y hy x (yaE _ (ybD hx))⟩
 ·intro x hx y hy;rw[ho]at hx;rcases yak.mp hx with hx | hx
  ·rcases yak.mp hy with hy | hy
   ·exact hle x hx y hy
   ·exact p3 y hy x hx
  ·refine h.high x hx y ?_;rcases yak.mp hy with hy | hy
   ·exact yaV _ hy
   ·refine yaE _ ?_;rw[e];exact yaV _ hy
theorem zeE {xs:Array Keyed}{n:Nat}(h0:0 < n)(h:n≤xs.size):(xs.toList.take n).drop (n - 1)=[xs[n - 1]'(by omega)]:=by
 have h':n - 1 < xs.size:=by omega
 rw[yca,show n - (n - 1)=1 by omega,zeH h'];rfl
theorem zeO {xs:Array Keyed}{n:Nat}(hs:SL κ xs.toList)(h0:0 < n)(h:n≤xs.size):∀ y∈xs.toList.take n,le κ y (xs[n - 1]'(by omega)):=by
 intro y hy;have q:=hs.take n;rw[zeN (l:=xs.toList) (show n - 1≤n by omega),zeE h0 h]at q hy;rcases yak.mp hy with hy | hy
 ·exact (yaF.mp q).2.2 y hy _ (yal.mpr rfl)
 ·rw[yal.mp hy];exact le_refl _
theorem MH.pa (h:MH κ a b out na nb)(sa:SL κ a.toList)(h0:0 < na)(hn:na≤a.size)(hle:∀ y∈b.toList.take nb,le κ y (a[na - 1]'(by omega))):MH κ a b (out.push (a[na - 1]'(by omega))) (na - 1) nb:=
 h.goA (n:=na - 1) sa (by omega) (by rw[zeE h0 hn,ybP,ycb];rfl) (by
  rw[zeE h0 hn];intro x hx;rw[yal.mp hx];exact hle)
theorem MH.pb (h:MH κ a b out na nb)(sb:SL κ b.toList)(h0:0 < nb)(hn:nb≤b.size)(hle:∀ y∈a.toList.take na,le κ y (b[nb - 1]'(by omega))):MH κ a b (out.push (b[nb - 1]'(by omega))) na (nb - 1):=
 h.goB (n:=nb - 1) sb (by omega) (by rw[zeE h0 hn,ybP,ycb];rfl) (by
  rw[zeE h0 hn];intro x hx;rw[yal.mp hx];exact hle)
theorem zdR {xs:Array Keyed}{n:Nat}:(xs.extract 0 n).toList=xs.toList.take n:=by
 rw[yb8,yb9,ycc,Nat.sub_zero]
theorem zmX {xs:Array Keyed}{n m:Nat}:(xs.extract n m).toList=(xs.toList.take m).drop n:=by
 rw[yb8,yb9,yca]
theorem MH.done (h:MH κ a b out na nb)(sb:SL κ b.toList)(hna:na=0):zb7 κ a b (a.extract 0 na++b.extract 0 nb++out.reverse):=by
 have e2:(a.extract 0 na++b.extract 0 nb++out.reverse).toList=(a.toList.take na++b.toList.take nb)++out.toList.reverse:=by
  rw[yaP,yaP,zdR,zdR,ybQ]
 refine ⟨by rw[e2];exact h.perm,?_⟩;rw[e2];subst hna;refine yaF.mpr ⟨?_,h.srt,fun x hx y hy=>h.high y hy x hx⟩;rw[ycd,List.nil_append];exact sb.take nb
theorem MH.doneB (h:MH κ a b out na nb)(sa:SL κ a.toList)(hnb:nb=0):zb7 κ a b (a.extract 0 na++b.extract 0 nb++out.reverse):=by
 have e2:(a.extract 0 na++b.extract 0 nb++out.reverse).toList=(a.toList.take na++b.toList.take nb)++out.toList.reverse:=by
  rw[yaP,yaP,zdR,zdR,ybQ]
 refine ⟨by rw[e2];exact h.perm,?_⟩;rw[e2];subst hnb;refine yaF.mpr ⟨?_,h.srt,fun x hx y hy=>h.high y hy x hx⟩;rw[ycd,yay];exact sa.take na
theorem MH.first (h:MH κ a b out na nb)(sa:SL κ a.toList)(sb:SL κ b.toList)(hl:∀ y∈b.toList.take nb,∀ x∈a.toList,le κ y x):zb7 κ a b (b.extract 0 nb++a.extract 0 na++out.reverse):=by
 have e2:(b.extract 0 nb++a.extract 0 na++out.reverse).toList=(b.toList.take nb++a.toList.take na)++out.toList.reverse:=by
  rw[yaP,yaP,zdR,zdR,ybQ]
 refine ⟨?_,?_⟩
 ·rw[e2];exact (List.Perm.append_right _ ybO).trans h.perm
 ·rw[e2];refine yaF.mpr ⟨yaF.mpr ⟨sb.take nb,sa.take na,fun x hx y hy=>hl x hx y (ybC hy)⟩,h.srt,fun x hx y hy=>h.high y hy x ?_⟩;rcases yak.mp hx with q | q
  ·exact yaE _ q
  ·exact yaV _ q
end
def zj6:Array Keyed→Array Keyed→StateT SortSt Sem (Array Keyed):=sortPriv% PySem.Builtin.mergeHi
end Tim
namespace Tim
open PySem PyProof.Rows
set_option autoImplicit false
section
variable {prog:Program}{w:World}{A:Around}{E:Value→Shared→Prop}{s:Shared}{κ:KeyKind}{kd:SortKind}
set_option maxHeartbeats 4000000 in
theorem zkr {st:SortSt}{a b:Array Keyed}{Q:Array Keyed→SortSt→Prop}(hO:LtG prog w A s κ kd)(hkd:kindOf st=kd)(ka:∀ q∈a.toList,Keyd κ q)(kb:∀ q∈b.toList,Keyd κ q)(sa:SL κ a.toList)(sb:SL κ b.toList)
  (ha:0 < a.size) (hb:0 < b.size) (h0:∀ y∈a.toList,le κ b[0] y) (hl:∀ y∈b.toList,le κ y (a[a.size - 1]'(by omega)))
  (h:∀ m st',zb7 κ a b m→SG st st'→Q m st'):wpS (model prog w) A E s (zj6 a b) Q st:=by
 have fst:∀ n,n≤1→∀ y∈b.toList.take n,∀ x∈a.toList,le κ y x:=fun n hn y hy x hx=>by
  have hy':y∈b.toList.take 1:=by
   rcases ybt n 1 with z | z
   ·rw[show n=0 by omega]at hy;simp at hy
   ·rwa[show n=1 by omega]at hy
  have e:b.toList.take 1=[b[0]]:=by
   have:=zec hb;rwa[ycc]at this
  rw[e]at hy';rw[yal.mp hy'];exact h0 x hx
 have m0:MH κ a b #[a[a.size - 1]'(by omega)] (a.size - 1) b.size:=by
  have z:MH κ a b #[] a.size b.size:=⟨by
   rw[yav (by simp),yav (by simp)];simp,by simp,by simp⟩
  have:=z.pa sa ha (yaa _) (fun y hy=>hl y (ybC hy));simpa using this
 refine wpS_bind (zcW ?_);dsimp only;refine wpS_bind (zbd (show a.size - 1 < a.size by omega) ?_);by_cases e1:a.size - 1=0
 ·rw[if_pos (by simpa using e1)];exact wpS_pure (h _ _ (m0.done sb e1) (SG.refl st))
 rw[if_neg (by simpa using e1)];by_cases e2:b.size=1
 ·rw[if_pos (by simpa using e2)];exact wpS_pure (h _ _ (m0.first sa sb (fst _ (by omega))) (SG.refl st))
 rw[if_neg (by simpa using e2)];refine wpS_bind (wpS_get ?_);refine wpS_bind (wpS_mono (wpS_forRange (I:=fun i c st'=>SG st st'∧∃ na nb out g,c=(none,na,nb,out,g)∧MH κ a b out na nb∧0 < na∧na≤a.size∧1 < nb∧nb≤b.size∧i+1+(na+nb)≤a.size+b.size)
  (Q:=fun c st'=>SG st st'∧∃ m r,c=(some m,r)∧zb7 κ a b m) ?step ?fin ⟨SG.refl st,_,_,_,_,rfl,m0,by omega,by omega,by omega,by omega,by omega⟩) ?post)
 case post=>
  rintro c st' ⟨g,m,r,rfl,hm⟩;exact wpS_pure (h m st' hm g)
 case fin=>
  rintro c st' ⟨g,na,nb,out,gg,rfl,hm,q1,q2,q3,q4,q5⟩;exact absurd q5 (by omega)
 case step=>
  rintro i c st1 _ hi ⟨g1,na,nb,out,gg,rfl,hm,q1,q2,q3,q4,q5⟩;dsimp only;refine wpS_bind (wpS_mono (wpS_forRange (I:=fun x c st'=>st'=st1∧∃ na' nb' out' ca cb,c=(none,na',nb',out',ca,cb)∧MH κ a b out' na' nb'∧0 < na'∧na'≤a.size∧1 < nb'∧nb'≤b.size∧x+(na'+nb')≤na+nb)
   (Q:=fun c st'=>st'=st1∧((∃ m r,c=(some m,r)∧zb7 κ a b m)∨∃ na' nb' out' ca cb,c=(none,na',nb',out',ca,cb)∧MH κ a b out' na' nb'∧0 < na'∧na'≤a.size∧1 < nb'∧nb'≤b.size∧1+(na'+nb')≤na+nb)) ?istep ?ifin ⟨rfl,na,nb,out,0,0,rfl,hm,q1,q2,q3,q4,by omega⟩) ?ipost)
  case ifin=>
   rintro c st' ⟨rfl,na',nb',out',ca,cb,rfl,hm',r1,r2,r3,r4,r5⟩;exact ⟨rfl,.inr ⟨_,_,_,ca,cb,rfl,hm',r1,r2,r3,r4,by omega⟩⟩
  case istep=>
   rintro x c st' _ hx ⟨rfl,na',nb',out',ca,cb,rfl,hm',r1,r2,r3,r4,r5⟩;dsimp only;refine wpS_bind (zbd (show nb' - 1 < b.size by omega) (wpS_bind (zbd (show na' - 1 < a.size by omega) (wpS_bind (lt_G hO (by rw[g1.kind];exact hkd) (kb _ (by simp)) (ka _ (by simp)) ?_)))));dsimp only;cases e:κ.blt (ky κ (b[nb' - 1]'(by omega))) (ky κ (a[na' - 1]'(by omega))) with
   | true=>
    simp only[if_true];have hm2:=hm'.pa sa r1 r2 (fun y hy=>le_trans (zeO sb (by omega) r4 y hy) (show le κ (b[nb' - 1]'(by omega)) (a[na' - 1]'(by omega)) from KeyOrd.kle_of_klt e));refine wpS_bind (zbd (show na' - 1 < a.size by omega) ?_);by_cases z:na' - 1=0
    ·rw[if_pos (by simpa using z)];exact wpS_pure ⟨rfl,.inl ⟨_,_,rfl,hm2.done sb z⟩⟩
    ·rw[if_neg (by simpa using z)];split
     ·exact wpS_pure ⟨rfl,.inr ⟨_,_,_,_,_,rfl,hm2,by omega,by omega,by omega,by omega,by omega⟩⟩
     ·exact wpS_pure ⟨rfl,_,_,_,_,_,rfl,hm2,by omega,by omega,by omega,by omega,by omega⟩
   | false=>
    simp only[yaL,if_false];have hm2:=hm'.pb sb (by omega) r4 (fun y hy=>le_trans (zeO sa r1 r2 y hy) (show le κ (a[na' - 1]'(by omega)) (b[nb' - 1]'(by omega)) from e));refine wpS_bind (zbd (show nb' - 1 < b.size by omega) ?_);by_cases z:nb' - 1=1
    ·rw[if_pos (by simpa using z)];exact wpS_pure ⟨rfl,.inl ⟨_,_,rfl,hm2.first sa sb (fst _ (by omega))⟩⟩
    ·rw[if_neg (by simpa using z)];split
     ·exact wpS_pure ⟨rfl,.inr ⟨_,_,_,_,_,rfl,hm2,by omega,by omega,by omega,by omega,by omega⟩⟩
     ·exact wpS_pure ⟨rfl,_,_,_,_,_,rfl,hm2,by omega,by omega,by omega,by omega,by omega⟩
  case ipost=>
   rintro c st' ⟨rfl,⟨m,r,rfl,hmm⟩ | ⟨na',nb',out,ca,cb,rfl,hm,q1,q2,q3,q4,q6⟩⟩
   ·exact wpS_pure ⟨g1,m,_,rfl,hmm⟩
   dsimp only;refine wpS_bind (zcW ?_);refine wpS_bind (wpS_mono (wpS_forRange (I:=fun x c st''=>SG st st''∧∃ na1 nb1 out1 gg ca cb,c=(none,na1,nb1,out1,gg,ca,cb)∧MH κ a b out1 na1 nb1∧0 < na1∧na1≤a.size∧1 < nb1∧nb1≤b.size∧1+(na1+nb1)≤na+nb)
    (Q:=fun c st''=>SG st st''∧((∃ m r,c=(some m,r)∧zb7 κ a b m)∨∃ na1 nb1 out1 gg ca cb,c=(none,na1,nb1,out1,gg,ca,cb)∧MH κ a b out1 na1 nb1∧0 < na1∧na1≤a.size∧1 < nb1∧nb1≤b.size∧1+(na1+nb1)≤na+nb)) ?jstep ?jfin ⟨g1,_,_,_,_,_,_,rfl,hm,q1,q2,q3,q4,q6⟩) ?jpost)
   case jfin=>
    rintro c st'' ⟨g2,na1,nb1,out1,gg1,ca1,cb1,rfl,r⟩;exact ⟨g2,.inr ⟨_,_,_,_,_,_,rfl,r⟩⟩
   case jpost=>
    rintro c st'' ⟨g2,⟨m,r,rfl,hmm⟩ | ⟨na1,nb1,out1,gg1,ca1,cb1,rfl,hm1,t1,t2,t3,t4,t5⟩⟩
    ·exact wpS_pure ⟨g2,m,_,rfl,hmm⟩
    ·dsimp only;exact wpS_bind (zcq g2 fun st3 g3=>wpS_pure ⟨g3,_,_,_,_,rfl,hm1,t1,t2,t3,t4,by omega⟩)
   case jstep=>
    rintro x c st'' _ hx ⟨g2,na1,nb1,out1,gg1,ca1,cb1,rfl,hm1,t1,t2,t3,t4,t5⟩;dsimp only;apply mp2
    case m=>
     intro key;by_cases hg:gg1 > 1
     ·rw[if_pos hg];generalize gg1 - 1=gg2
      revert gg2
      exact key
     ·rw[if_neg hg];generalize gg1=gg2
      revert gg2
      exact key
    intro gg2;refine wpS_bind (zcq g2 fun st3 g3=>?_);refine wpS_bind (zbd (show nb1 - 1 < b.size by omega) (wpS_bind (zcI hO (by rw[g3.kind];exact hkd) (kb _ (by simp)) ka (by omega) (by omega) (zg0 sa _ _ (by omega)) fun at0 k1 k2 k3=>?_)));dsimp only;have hmk:MH κ a b (out1++(a.extract at0 na1).reverse) at0 nb1:=hm1.goA sa k1 (by
     rw[yaP,ycb,ybQ,ycw,zmX]) fun x hx y hy=>by
     rw[yca]at hx;obtain ⟨j,j1,j2,j3⟩:=zed hx;have q:=k3 (at0+j) (by omega) (by omega);unfold bey at q;rw[if_neg (by decide),Nat.zero_add,zdb j3,ycv]at q;exact le_trans (zeO sb (by omega) t4 y hy) (show le κ (b[nb1 - 1]'(by omega)) x from KeyOrd.kle_of_klt q)
    have hnb:nb1 - 1 < b.size:=by omega
    have bk:∀ y∈a.toList.take at0,le κ y (b[nb1 - 1]'hnb):=fun y hy=>by
     have hy':y∈(a.toList.drop 0).take at0:=by rw[ycc];exact hy
     obtain ⟨j,j1,j2,j3⟩:=zed hy';have q:=k2 j j1;unfold bey at q;rw[if_neg (by decide),zdb j3,ybE]at q;exact q
    apply mp2
    case m=>
     by_cases hk:na1 - at0 > 0
     ·by_cases z:at0=0
      ·intro h;clear h;rw[if_pos hk,if_pos (by simpa using z)];exact wpS_pure ⟨g3,.inl ⟨_,_,rfl,hmk.done sb z⟩⟩
      have w1:0 < at0:=by omega
      have w2:at0≤a.size:=by omega
      have w3:1+(at0+nb1)≤na+nb:=by omega
      have z0:¬(at0 == 0)=true:=by simpa using z
      intro key;rw[if_pos hk,if_neg z0];refine (?_:MH κ a b (out1++(a.extract at0 na1).reverse) at0 nb1→(∀ y∈a.toList.take at0,le κ y (b[nb1 - 1]'hnb))→0 < at0→at0≤a.size→1+(at0+nb1)≤na+nb→_) hmk bk w1 w2 w3;generalize out1++(a.extract at0 na1).reverse=out2;generalize na1 - at0=cnt;generalize at0=na2
      revert out2 cnt na2
      exact key
     ·have e0:at0=na1:=by omega
      rw[e0]at bk;intro key;rw[if_neg hk];refine (?_:MH κ a b out1 na1 nb1→(∀ y∈a.toList.take na1,le κ y (b[nb1 - 1]'hnb))→0 < na1→na1≤a.size→1+(na1+nb1)≤na+nb→_) hm1 bk t1 t2 t5;generalize na1 - at0=cnt;generalize na1=na2;generalize out1=out2;exact key out2 cnt na2
    intro out2 cnt na2 hm2 u2 w1 w2 w3;refine wpS_bind (zbd (show nb1 - 1 < b.size by omega) ?_);have hm3:=hm2.pb sb (by omega) (by omega) u2;by_cases z2:nb1 - 1=1
    ·rw[if_pos (by simpa using z2)];exact wpS_pure ⟨g3,.inl ⟨_,_,rfl,hm3.first sa sb (fst _ (by omega))⟩⟩
    ·rw[if_neg (by simpa using z2)];refine wpS_bind (zbd (show na2 - 1 < a.size by omega) (wpS_bind (zcI hO (by rw[g3.kind];exact hkd) (ka _ (by simp)) kb (by omega) (by omega) (zg0 sb _ _ (by omega)) fun at' c1 c2 c3=>?_)));dsimp only;have lt5:∀ hq:0 < at',le κ (b[at' - 1]'(by omega)) (a[na2 - 1]'(by omega)):=fun hq=>by
      have q:=c2 (at' - 1) (by omega);unfold bey at q;rw[if_pos rfl,Nat.zero_add,zbf (by omega)]at q;exact KeyOrd.kle_of_klt q
     have hm4:MH κ a b (out2.push (b[nb1 - 1]'(by omega))++(b.extract at' (nb1 - 1)).reverse) na2 at':=hm3.goB sb c1 (by
      rw[yaP (ys:=(b.extract at' (nb1 - 1)).reverse),ycb,ybQ,ycw,zmX]) fun x hx y hy=>by
      rw[yca]at hx;obtain ⟨j,j1,j2,j3⟩:=zed hx;have q:=c3 (at'+j) (by omega) (by omega);unfold bey at q;rw[if_pos rfl,Nat.zero_add,zdb j3]at q;exact le_trans (zeO sa (by omega) (by omega) y hy) (show le κ (a[na2 - 1]'(by omega)) x from q)
     by_cases hk':nb1 - 1 - at' > 0
     ·rw[if_pos hk'];by_cases z3:at'=1
      ·rw[if_pos (by simpa using z3)];exact wpS_pure ⟨g3,.inl ⟨_,_,rfl,hm4.first sa sb (fst _ (by omega))⟩⟩
      rw[if_neg (by simpa using z3)];by_cases z3':at'=0
      ·rw[if_pos (by simpa using z3')];exact wpS_pure ⟨g3,.inl ⟨_,_,rfl,hm4.doneB sa z3'⟩⟩
      rw[if_neg (by simpa using z3')];refine wpS_bind (zbd (show na2 - 1 < a.size by omega) ?_);have hm5:=hm4.pa sa (by omega) (by omega) fun y hy=>le_trans (zeO sb (by omega) (by omega) y hy) (lt5 (by omega));by_cases z4:na2 - 1=0
      ·rw[if_pos (by simpa using z4)];exact wpS_pure ⟨g3,.inl ⟨_,_,rfl,hm5.done sb z4⟩⟩
      ·rw[if_neg (by simpa using z4)];split
       ·exact wpS_pure ⟨g3,.inr ⟨_,_,_,_,_,_,rfl,hm5,by omega,by omega,by omega,by omega,by omega⟩⟩
       ·exact wpS_pure ⟨g3,_,_,_,_,_,_,rfl,hm5,by omega,by omega,by omega,by omega,by omega⟩
     ·rw[if_neg hk'];have e0:at'=nb1 - 1:=by omega
      subst e0
      replace hm4:=hm3
      refine wpS_bind (zbd (show na2 - 1 < a.size by omega) ?_);have hm5:=hm4.pa sa (by omega) (by omega) fun y hy=>le_trans (zeO sb (by omega) (by omega) y hy) (lt5 (by omega));by_cases z4:na2 - 1=0
      ·rw[if_pos (by simpa using z4)];exact wpS_pure ⟨g3,.inl ⟨_,_,rfl,hm5.done sb z4⟩⟩
      ·rw[if_neg (by simpa using z4)];split
       ·exact wpS_pure ⟨g3,.inr ⟨_,_,_,_,_,_,rfl,hm5,by omega,by omega,by omega,by omega,by omega⟩⟩
       ·exact wpS_pure ⟨g3,_,_,_,_,_,_,rfl,hm5,by omega,by omega,by omega,by omega,by omega⟩
end
end Tim
namespace Tim
open PySem PyProof.Rows
set_option autoImplicit false
section
variable {κ:KeyKind}
def seg (xs:Array Keyed)(lo n:Nat):List Keyed:=(xs.toList.drop lo).take n
theorem zfT {xs:Array Keyed}{lo n i:Nat}(h:lo+n≤xs.size)(hi:i < n):(seg xs lo n)[i]?=xs[lo+i]?:=by
 unfold seg;rw[ybR,if_pos hi,yce,yaX]
theorem zcg {xs:Array Keyed}{lo n:Nat}(h:lo+n≤xs.size):(seg xs lo n).length=n:=by
 unfold seg;rw[yao,yaN,yar];omega
theorem zpd {xs:Array Keyed}{lo n:Nat}(h:lo+n≤xs.size)(hU:Up κ xs lo (lo+n)):SL κ (seg xs lo n):=by
 rw[SL,ybe];intro i j hi hj hij;have hi':=hi;have hj':=hj;rw[zcg h]at hi' hj';have e1:(seg xs lo n)[i]=xs[lo+i]'(by omega):=by
  have:=zfT h hi';rw[yac hi,yaZ (by omega)]at this;exact yad this
 have e2:(seg xs lo n)[j]=xs[lo+j]'(by omega):=by
  have:=zfT h hj';rw[yac hj,yaZ (by omega)]at this;exact yad this
 rw[e1,e2];have:=hU (lo+i) (lo+j) (by omega) (by omega) (by omega);rw[zbf (by omega),zbf (by omega)]at this;exact this
theorem zkA {xs:Array Keyed}{lo n m:Nat}:seg xs lo (n+m)=seg xs lo n++seg xs (lo+n) m:=by
 unfold seg;rw[List.take_add,ybB]
theorem zha {xs:Array Keyed}{lo n:Nat}:(xs.extract lo (lo+n)).toList=seg xs lo n:=zeZ
theorem zlN {xs:Array Keyed}{lo n:Nat}(h:lo+n≤xs.size):xs.toList=xs.toList.take lo++(seg xs lo n++xs.toList.drop (lo+n)):=by
 unfold seg;rw[← ybB,yaO,yaO]
def back (xs:Array Keyed)(lo:Nat)(m:Array Keyed):Array Keyed:=m.toList.zipIdx.foldl (fun a (q:Keyed×Nat)=>a.setIfInBounds (lo+q.2) q.1) xs
theorem zjr (lo:Nat):∀(l:List Keyed) (k:Nat) (xs:Array Keyed),lo+k+l.length≤xs.size→∀ i:Nat,
  ((l.zipIdx k).foldl (fun a (q:Keyed×Nat)=>a.setIfInBounds (lo+q.2) q.1) xs)[i]?=if lo+k≤i∧i < lo+k+l.length then l[i - (lo+k)]? else xs[i]?
 | [],k,xs,h,i=>by
  rw[if_neg (by simp only[ybq];omega)];rfl
 | x::l,k,xs,h,i=>by
  rw[yaI]at h;rw[List.zipIdx_cons,List.foldl_cons,zjr lo l (k+1) (xs.setIfInBounds (lo+k) x) (by rw[Array.size_setIfInBounds];omega) i,yaI];by_cases h1:lo+(k+1)≤i∧i < lo+(k+1)+l.length
  ·rw[if_pos h1,if_pos (by omega),show i - (lo+k)=(i - (lo+(k+1)))+1 by omega,ycf]
  ·rw[if_neg h1,Array.getElem?_setIfInBounds];by_cases h2:lo+k=i
   ·rw[if_pos h2,if_pos (by omega),if_pos (by omega)];subst h2;simp
   ·rw[if_neg h2,if_neg (by omega)]
theorem znj {xs m:Array Keyed}{lo:Nat}(h:lo+m.size≤xs.size):(back xs lo m).toList=xs.toList.take lo++(m.toList++xs.toList.drop (lo+m.size)):=by
 apply ya7;intro i;have q:=zjr lo m.toList 0 xs (by rw[yar];omega) i;unfold back;rw[yaX,q,yar,ybr];have l1:(xs.toList.take lo).length=lo:=by rw[yao,yar];omega
 by_cases h1:i < lo
 ·rw[if_neg (by omega),ybn (by rw[l1];exact h1),ybR,if_pos h1,yaX]
 ·rw[ybj (by rw[l1];omega),l1];by_cases h2:i < lo+m.size
  ·rw[if_pos (by omega),ybn (by rw[yar];omega)]
  ·rw[if_neg (by omega),ybj (by rw[yar];omega),yar,yce,show lo+m.size+(i - lo - m.size)=i by omega,yaX]
theorem zeL {xs m:Array Keyed}{lo:Nat}(h:lo+m.size≤xs.size)(i:Nat):(back xs lo m)[i]?=if lo≤i∧i < lo+m.size then m[i - lo]? else xs[i]?:=by
 have q:=zjr lo m.toList 0 xs (by rw[yar];omega) i;rw[yar,ybr,yaX]at q;exact q
theorem zg9 {xs:Array Keyed}{lo n:Nat}{p:Keyed}(h:lo+n≤xs.size)(hp:p∈seg xs lo n):∃ q,lo≤q∧q < lo+n∧xs[q]?=some p:=by
 obtain ⟨i,hi,e⟩:=ya1 hp;have hi':=hi;rw[zcg h]at hi';refine ⟨lo+i,by omega,by omega,?_⟩;rw[← zfT h hi',yac hi,e]
theorem zkR {xs m:Array Keyed}{sa na nb k nb':Nat}(hz:sa+na+nb≤xs.size)(ua:Up κ xs sa (sa+na))(ub:Up κ xs (sa+na) (sa+na+nb))(hk:k < na)(hnb:nb'≤nb)(hb0:0 < nb')
  (k2:∀ i,i < k→κ.kle (kAt κ xs (sa+i)) (kAt κ xs (sa+na))) (c3:∀ i,nb'≤i→i < nb→κ.kle (kAt κ xs (sa+na - 1)) (kAt κ xs (sa+na+i)))
  (hm:zb7 κ (xs.extract (sa+k) (sa+na)) (xs.extract (sa+na) (sa+na+nb')) m) :
  Off xs (back xs (sa+k) m) sa (sa+(na+nb))∧Up κ (back xs (sa+k) m) sa (sa+(na+nb)):=by
 have ex:(xs.extract (sa+k) (sa+na)).toList=seg xs (sa+k) (na - k):=by
  have:=zha (xs:=xs) (lo:=sa+k) (n:=na - k);rwa[show sa+k+(na - k)=sa+na by omega]at this
 have ey:(xs.extract (sa+na) (sa+na+nb')).toList=seg xs (sa+na) nb':=zha;have hp:=hm.perm;rw[ex,ey]at hp;have ms:m.size=na - k+nb':=by
  have:=hp.length_eq;rw[yar,yas,zcg (by omega),zcg (by omega)]at this;exact this
 have hzm:sa+k+m.size≤xs.size:=by omega
 have bl:=znj hzm;have mid:seg xs (sa+k) m.size=seg xs (sa+k) (na - k)++seg xs (sa+na) nb':=by
  rw[ms,zkA,show sa+k+(na - k)=sa+na by omega]
 have perm:(back xs (sa+k) m).toList.Perm xs.toList:=by
  have e:=zlN hzm;rw[mid]at e;refine (List.Perm.of_eq bl).trans (List.Perm.trans ?_ (List.Perm.of_eq e.symm));exact List.Perm.append_left _ (List.Perm.append_right _ hp)
 have inm:∀ i,sa+k≤i→i < sa+k+m.size→∃ q,sa+k≤q∧q < sa+na+nb'∧kAt κ (back xs (sa+k) m) i=kAt κ xs q:=by
  intro i h1 h2;have g:=zeL hzm i;rw[if_pos ⟨h1,h2⟩,yaZ (show i - (sa+k) < m.size by omega)]at g;have hmem:m[i - (sa+k)]'(by omega)∈m.toList:=by simp
  rcases yak.mp (hp.mem_iff.mp hmem) with z | z
  ·obtain ⟨q,q1,q2,e⟩:=zg9 (by omega) z;exact ⟨q,q1,by omega,zbu (g.trans e.symm)⟩
  ·obtain ⟨q,q1,q2,e⟩:=zg9 (by omega) z;exact ⟨q,by omega,q2,zbu (g.trans e.symm)⟩
 have outm:∀ i,(i < sa+k∨sa+k+m.size≤i)→kAt κ (back xs (sa+k) m) i=kAt κ xs i:=fun i h=>zbu (by rw[zeL hzm,if_neg (by omega)]);have am:∀ i q,sa≤i→i < sa+k→sa+k≤q→q < sa+na+nb→κ.kle (kAt κ xs i) (kAt κ xs q):=fun i q h1 h2 h3 h4=>by
  by_cases z:q < sa+na
  ·exact ua i q h1 (by omega) z
  ·have t:=k2 (i - sa) (by omega);rw[show sa+(i - sa)=i by omega]at t;exact KeyOrd.kle_trans t (ub _ q (yaa _) (by omega) h4)
 have mc:∀ q j,sa+k≤q→q < sa+na+nb'→sa+na+nb'≤j→j < sa+na+nb→κ.kle (kAt κ xs q) (kAt κ xs j):=fun q j h1 h2 h3 h4=>by
  by_cases z:q < sa+na
  ·have t:=c3 (j - (sa+na)) (by omega) (by omega);rw[show sa+na+(j - (sa+na))=j by omega]at t;exact KeyOrd.kle_trans (ua q (sa+na - 1) (by omega) (by omega) (by omega)) t
  ·exact ub q j (by omega) (by omega) h4
 refine ⟨⟨ycu.mpr perm,fun i hi=>by rw[zeL hzm,if_neg (by omega)]⟩,fun i j h1 h2 h3=>?_⟩;by_cases i1:i < sa+k
 ·rw[outm i (.inl i1)];by_cases j1:j < sa+k
  ·rw[outm j (.inl j1)];exact ua i j h1 h2 (by omega)
  ·by_cases j2:j < sa+k+m.size
   ·obtain ⟨q,q1,q2,e⟩:=inm j (by omega) j2;rw[e];exact am i q h1 i1 q1 (by omega)
   ·rw[outm j (.inr (by omega))];exact am i j h1 i1 (by omega) (by omega)
 ·by_cases i2:i < sa+k+m.size
  ·by_cases j2:j < sa+k+m.size
   ·by_cases e:i=j
    ·subst e;exact KeyOrd.kle_refl _
    ·have gi:=zeL hzm i;have gj:=zeL hzm j;rw[if_pos ⟨by omega,i2⟩]at gi;rw[if_pos ⟨by omega,j2⟩]at gj;rw[zbu gi,zbu gj,zbf (show i - (sa+k) < m.size by omega),zbf (show j - (sa+k) < m.size by omega)];have:=ybe.mp hm.srt (i - (sa+k)) (j - (sa+k)) (by rw[yar];omega) (by rw[yar];omega) (by omega);simpa [le] using this
   ·obtain ⟨q,q1,q2,e⟩:=inm i (by omega) i2;rw[e,outm j (.inr (by omega))];exact mc q j q1 q2 (by omega) (by omega)
  ·rw[outm i (.inr (by omega)),outm j (.inr (by omega))];exact ub i j (by omega) h2 (by omega)
theorem zll {xs:Array Keyed}{sa na nb:Nat}(ua:Up κ xs sa (sa+na))(ub:Up κ xs (sa+na) (sa+na+nb))(hna:0 < na)(hle:κ.kle (kAt κ xs (sa+na - 1)) (kAt κ xs (sa+na))):Up κ xs sa (sa+(na+nb)):=by
 intro i j h1 h2 h3;by_cases z:j < sa+na
 ·exact ua i j h1 h2 z
 ·by_cases y:i < sa+na
  ·exact KeyOrd.kle_trans (ua i (sa+na - 1) h1 (by omega) (by omega)) (KeyOrd.kle_trans hle (ub (sa+na) j (yaa _) (by omega) (by omega)))
  ·exact ub i j (by omega) h2 (by omega)
end
end Tim
namespace Tim
open PySem PyProof.Rows
set_option autoImplicit false
theorem zi2 (i:Nat):mergeAt' i=(do
 let s ← get
 let (some (sa,na,power),some (sb,nb,_)):=((pendingOf s)[i]?,(pendingOf s)[i+1]?) | unsupported "internal:list.sort.pending"
 set (setPending s (((pendingOf s).setIfInBounds i (sa,na+nb,power)).eraseIdxIfInBounds (i+1)))
 let some k ← zjb false (← elem' (arrOf s) sb) (arrOf s) sa na 0 | return false
 let (sa,na):=(sa+k,na - k)
 if na == 0 then return true
 let some nb ← zjb true (← elem' (arrOf s) (sa+na - 1)) (arrOf s) sb nb (nb - 1) | return false
 if nb == 0 then return true
 let x:=(arrOf s).extract sa sb
 let y:=(arrOf s).extract sb (sb+nb)
 let merged ← if na≤nb then zj5 x y else zj6 x y
 modify fun s=>setArr s (merged.toList.zipIdx.foldl (fun a (p,j)=>a.setIfInBounds (sa+j) p) (arrOf s))
 return (failedOf (← get)).isNone):=rfl
section
variable {prog:Program}{w:World}{A:Around}{E:Value→Shared→Prop}{s:Shared}{κ:KeyKind}{kd:SortKind}
theorem zpz {σ:Type}{x:σ}{Q:PUnit→σ→Prop}{st:σ}(h:Q ⟨⟩ x):wpS (model prog w) A E s (set x:StateT σ Sem PUnit) Q st:=by
 unfold wpS;rw[StateT.run_set];exact wpAny_pure ⟨rfl,h⟩
set_option maxHeartbeats 4000000 in
theorem zks {st:SortSt}{N i sa na pa nb pb:Nat}{Q:Bool→SortSt→Prop}(hO:LtG prog w A s κ kd)(hB:TB κ kd N st)
  (h1:(pendingOf st)[i]?=some (sa,na,pa)) (h2:(pendingOf st)[i+1]?=some (sa+na,nb,pb)) (hna:0 < na) (hnb:0 < nb) (hz:sa+na+nb≤N)
  (ua:Up κ (arrOf st) sa (sa+na)) (ub:Up κ (arrOf st) (sa+na) (sa+na+nb))
  (h:∀ st',TB κ kd N st'→Off (arrOf st) (arrOf st') sa (sa+(na+nb))→Up κ (arrOf st') sa (sa+(na+nb))→pendingOf st'=((pendingOf st).setIfInBounds i (sa,na+nb,pa)).eraseIdxIfInBounds (i+1)→Q true st') :
  wpS (model prog w) A E s (mergeAt' i) Q st:=by
 have hsz:=hB.size;rw[zi2];refine wpS_bind (wpS_get ?_);rw[h1,h2];dsimp only;refine wpS_bind (zpz ?_);generalize hp:((pendingOf st).setIfInBounds i (sa,na+nb,pa)).eraseIdxIfInBounds (i+1)=pend at h;have same:∀ st',SG (setPending st pend) st'→TB κ kd N st'∧arrOf st'=arrOf st∧pendingOf st'=pend:=fun st' g=>by
  have ga:arrOf st'=arrOf st:=g.arr;refine ⟨⟨g.kind.trans hB.kind,by rw[ga];exact hB.keys,g.failed.trans hB.failed,by rw[ga];exact hB.size⟩,ga,g.pend⟩
 obtain ⟨B0,_,_⟩:=same _ (SG.refl _);have hbz:sa+na < (arrOf st).size:=by omega
 refine wpS_bind (zbd hbz ?_);refine wpS_bind (zcI hO B0.kind (hB.keys _ (by simp)) hB.keys (by omega) hna ua fun k k1 k2 k3=>?_);dsimp only;have kk:kAt κ (arrOf st) (sa+na)=ky κ (arrOf st)[sa+na]:=zbf hbz;have k2':∀ i,i < k→κ.kle (kAt κ (arrOf st) (sa+i)) (kAt κ (arrOf st) (sa+na)):=fun i hi=>by
  have:=k2 i hi;unfold bey at this;simp only[yaL,if_false,ybE]at this;rw[kk];exact this
 have k3':∀ i,k≤i→i < na→κ.klt (kAt κ (arrOf st) (sa+na)) (kAt κ (arrOf st) (sa+i)):=fun i hi hj=>by
  have:=k3 i hi hj;unfold bey at this;simp only[yaL,if_false,ycv]at this;rw[kk];exact this
 by_cases e1:na - k=0
 ·rw[if_pos (by simpa using e1)];obtain ⟨b1,b2,b3⟩:=same _ (SG.refl _);refine wpS_pure (h _ b1 (by rw[b2];exact Off.refl _ _ _) ?_ b3);rw[b2];refine zll ua ub hna ?_;have:=k2' (na - 1) (by omega);rwa[show sa+(na - 1)=sa+na - 1 by omega]at this
 rw[if_neg (by simpa using e1)];have e2:sa+k+(na - k) - 1=sa+na - 1:=by omega
 have hlz:sa+k+(na - k) - 1 < (arrOf st).size:=by omega
 refine wpS_bind (zbd hlz ?_);refine wpS_bind (zcI hO B0.kind (hB.keys _ (by simp)) hB.keys (by omega) (by omega) ub fun c c1 c2 c3=>?_);dsimp only;have ck:ky κ ((arrOf st)[sa+k+(na - k) - 1]'hlz)=kAt κ (arrOf st) (sa+na - 1):=by
  rw[← zbf hlz,e2]
 have c2':∀ i,i < c→κ.klt (kAt κ (arrOf st) (sa+na+i)) (kAt κ (arrOf st) (sa+na - 1)):=fun i hi=>by
  have:=c2 i hi;unfold bey at this;simp only[if_true]at this;rw[← ck];exact this
 have c3':∀ i,c≤i→i < nb→κ.kle (kAt κ (arrOf st) (sa+na - 1)) (kAt κ (arrOf st) (sa+na+i)):=fun i hi hj=>by
  have:=c3 i hi hj;unfold bey at this;simp only[if_true]at this;rw[← ck];exact this
 by_cases e3:c=0
 ·rw[if_pos (by simpa using e3)];obtain ⟨b1,b2,b3⟩:=same _ (SG.refl _);refine wpS_pure (h _ b1 (by rw[b2];exact Off.refl _ _ _) ?_ b3);rw[b2];exact zll ua ub hna (c3' 0 (by omega) hnb)
 rw[if_neg (by simpa using e3)];generalize hX:(arrOf st).extract (sa+k) (sa+na)=X;generalize hY:(arrOf st).extract (sa+na) (sa+na+c)=Y;have xl:X.toList=seg (arrOf st) (sa+k) (na - k):=by
  have:=zha (xs:=arrOf st) (lo:=sa+k) (n:=na - k);rw[← hX];rwa[show sa+k+(na - k)=sa+na by omega]at this
 have yl:Y.toList=seg (arrOf st) (sa+na) c:=by rw[← hY];exact zha
 have xz:X.size=na - k:=by
  have:=congrArg List.length xl;rwa[yar,zcg (by omega)]at this
 have yz:Y.size=c:=by
  have:=congrArg List.length yl;rwa[yar,zcg (by omega)]at this
 have xg:∀ i (hi:i < X.size),X[i]=(arrOf st)[sa+k+i]'(by omega):=fun i hi=>by
  have e:X[i]?=(arrOf st)[sa+k+i]?:=by
   rw[← yaX,xl];exact zfT (by omega) (by omega)
  rw[yaZ hi,yaZ (by omega)]at e;exact yad e
 have yg:∀ i (hi:i < Y.size),Y[i]=(arrOf st)[sa+na+i]'(by omega):=fun i hi=>by
  have e:Y[i]?=(arrOf st)[sa+na+i]?:=by
   rw[← yaX,yl];exact zfT (by omega) (by omega)
  rw[yaZ hi,yaZ (by omega)]at e;exact yad e
 have xm:∀ q∈X.toList,∃ i,k≤i∧i < na∧ky κ q=kAt κ (arrOf st) (sa+i)∧q∈(arrOf st).toList:=fun q hq=>by
  rw[xl]at hq;obtain ⟨j,j1,j2,e⟩:=zg9 (by omega) hq;refine ⟨j - sa,by omega,by omega,?_,?_⟩
  ·rw[show sa+(j - sa)=j by omega,zdb e]
  ·rw[← yaX]at e;exact yaJ e
 have ym:∀ q∈Y.toList,∃ i,i < c∧ky κ q=kAt κ (arrOf st) (sa+na+i)∧q∈(arrOf st).toList:=fun q hq=>by
  rw[yl]at hq;obtain ⟨j,j1,j2,e⟩:=zg9 (by omega) hq;refine ⟨j - (sa+na),by omega,?_,?_⟩
  ·rw[show sa+na+(j - (sa+na))=j by omega,zdb e]
  ·rw[← yaX]at e;exact yaJ e
 have kX:∀ q∈X.toList,Keyd κ q:=fun q hq=>by obtain ⟨_,_,_,_,z⟩:=xm q hq;exact hB.keys q z
 have kY:∀ q∈Y.toList,Keyd κ q:=fun q hq=>by obtain ⟨_,_,_,z⟩:=ym q hq;exact hB.keys q z
 have sX:SL κ X.toList:=by
  rw[xl];exact zpd (by omega) (fun i j q1 q2 q3=>ua i j (by omega) q2 (by omega))
 have sY:SL κ Y.toList:=by
  rw[yl];exact zpd (by omega) (fun i j q1 q2 q3=>ub i j q1 q2 (by omega))
 have y0:∀(hb:0 < Y.size),ky κ Y[0]=kAt κ (arrOf st) (sa+na):=fun hb=>by
  rw[yg 0 hb,← zbf];rfl
 have lo0:∀(hb:0 < Y.size),∀ q∈X.toList,le κ Y[0] q:=fun hb q hq=>by
  obtain ⟨i,i1,i2,e,_⟩:=xm q hq;unfold le;rw[y0 hb,e];exact KeyOrd.kle_of_klt (k3' i i1 i2)
 have xlast:∀(ha:X.size - 1 < X.size),ky κ X[X.size - 1]=kAt κ (arrOf st) (sa+na - 1):=fun ha=>by
  rw[xg _ ha,← zbf];congr 1;omega
 have hi0:∀(ha:X.size - 1 < X.size),∀ q∈Y.toList,le κ q X[X.size - 1]:=fun ha q hq=>by
  obtain ⟨i,i1,e,_⟩:=ym q hq;unfold le;rw[xlast ha,e];exact KeyOrd.kle_of_klt (c2' i i1)
 have fin:∀ m st',zb7 κ X Y m→SG (setPending st pend) st'→wpS (model prog w) A E s (do
   modify fun s=>setArr s (m.toList.zipIdx.foldl (fun a (q:Keyed×Nat)=>a.setIfInBounds (sa+k+q.2) q.1) (arrOf s))
   return (failedOf (← get)).isNone) Q st':=fun m st' hm g=>by
  obtain ⟨b1,b2,b3⟩:=same _ g;refine wpS_bind (wpS_modify ?_);refine wpS_bind (wpS_get ?_);have hf:failedOf (setArr st' (m.toList.zipIdx.foldl (fun a (q:Keyed×Nat)=>a.setIfInBounds (sa+k+q.2) q.1) (arrOf st')))=none:=b1.failed;rw[hf];rw[← hX,← hY]at hm;obtain ⟨o1,o2⟩:=zkR (by omega) ua ub (by omega) c1 (by omega) k2' c3' hm;refine wpS_pure (h _ ?_ ?_ ?_ b3)
  ·refine b1.off (lo:=sa) (hi:=sa+(na+nb)) ?_;rw[b2];exact o1
  ·show Off (arrOf st) (back (arrOf st') (sa+k) m) _ _;rw[b2];exact o1
  ·show Up κ (back (arrOf st') (sa+k) m) _ _;rw[b2];exact o2
 by_cases e4:na - k≤c
 ·rw[if_pos e4];refine wpS_bind ?_;refine zkq hO B0.kind kX kY sX sY (by omega) (by omega) (lo0 _) ?_ fun m st' hm g=>fin m st' hm g;intro q hq i hi x hx;have:x=X[X.size - 1]'(by omega):=by
   rw[show i=X.size - 1 by omega,zeH (by omega),ya0 (by rw[yar];omega)]at hx;exact yal.mp hx
  rw[this];exact hi0 _ q hq
 ·rw[if_neg e4];refine wpS_bind ?_;exact zkr hO B0.kind kX kY sX sY (by omega) (by omega) (lo0 _) (hi0 (by omega)) fun m st' hm g=>fin m st' hm g
end
end Tim
namespace Tim
open PySem PyProof.Rows
set_option autoImplicit false
section
variable {κ:KeyKind}{xs ys:Array Keyed}
def Runs (κ:KeyKind)(xs:Array Keyed):List (Nat×Nat×Nat)→Nat→Nat→Prop
 | [],a,b=>a=b
 | (s,n,_)::r,a,b=>s=a∧0 < n∧Up κ xs a (a+n)∧Runs κ xs r (a+n) b
theorem Runs.le:∀{l:List (Nat×Nat×Nat)} {a b:Nat},Runs κ xs l a b→a+l.length≤b
 | [],_,_,h=>by rw[show _=_ from h];simp
 | (s,n,p)::r,a,b,⟨_,h1,_,h2⟩=>by
  have:=Runs.le h2;rw[yaI];omega
theorem Runs.split:∀{l m:List (Nat×Nat×Nat)} {a b:Nat},Runs κ xs (l++m) a b→∃ c,Runs κ xs l a c∧Runs κ xs m c b
 | [],m,a,b,h=>⟨a,rfl,h⟩
 | (s,n,p)::r,m,a,b,⟨h0,h1,h2,h3⟩=>by
  obtain ⟨c,c1,c2⟩:=Runs.split (l:=r) h3;exact ⟨c,⟨h0,h1,h2,c1⟩,c2⟩
theorem Runs.glue:∀{l m:List (Nat×Nat×Nat)} {a b c:Nat},Runs κ xs l a c→Runs κ xs m c b→Runs κ xs (l++m) a b
 | [],m,a,b,c,h,g=>by rw[show a=c from h];exact g
 | (s,n,p)::r,m,a,b,c,⟨h0,h1,h2,h3⟩,g=>⟨h0,h1,h2,Runs.glue h3 g⟩
theorem Up.off {lo hi a b:Nat}(h:Up κ xs a b)(o:Off xs ys lo hi)(d:b≤lo∨hi≤a):Up κ ys a b:=fun i j h1 h2 h3=>by
 rw[zi9 o (by omega),zi9 o (by omega)];exact h i j h1 h2 h3
theorem Runs.off {lo hi:Nat}(o:Off xs ys lo hi):∀{l:List (Nat×Nat×Nat)} {a b:Nat},Runs κ xs l a b→(b≤lo∨hi≤a)→Runs κ ys l a b
 | [],_,_,h,_=>h
 | (s,n,p)::r,a,b,⟨h0,h1,h2,h3⟩,d=>by
  have:=Runs.le h3;exact ⟨h0,h1,h2.off o (by omega),Runs.off o h3 (by omega)⟩
theorem zh9 {α:Type}{x y v:α}{post:List α}:∀ pre:List α,((pre++x::y::post).set pre.length v).eraseIdx (pre.length+1)=pre++v::post
 | []=>rfl
 | p::pre=>by
  rw[List.cons_append,yaI,List.set_cons_succ,List.eraseIdx_cons_succ,zh9 pre,List.cons_append]
end
section
variable {prog:Program}{w:World}{A:Around}{E:Value→Shared→Prop}{s:Shared}{κ:KeyKind}{kd:SortKind}
structure SI (κ:KeyKind)(kd:SortKind)(a₀:Array Keyed)(lo:Nat)(st:SortSt):Prop where
 tb:TB κ kd a₀.size st
 perm:(arrOf st).Perm a₀
 le:lo≤a₀.size
 runs:Runs κ (arrOf st) (pendingOf st).toList 0 lo
theorem zdk {a₀:Array Keyed}{st:SortSt}{lo i:Nat}{Q:Bool→SortSt→Prop}(hO:LtG prog w A s κ kd)(hI:SI κ kd a₀ lo st)(hi:i+1 < (pendingOf st).size)
  (h:∀ st',SI κ kd a₀ lo st'→Off (arrOf st) (arrOf st') 0 lo→(pendingOf st').size+1=(pendingOf st).size→Q true st'):wpS (model prog w) A E s (mergeAt' i) Q st:=by
 have hl:(pendingOf st).toList.length=(pendingOf st).size:=yar;obtain ⟨pre,x,y,post,e,hp⟩:∃ pre x y post,(pendingOf st).toList=pre++x::y::post∧pre.length=i:=by
  refine ⟨(pendingOf st).toList.take i,(pendingOf st).toList[i]'(by omega),(pendingOf st).toList[i+1]'(by omega),(pendingOf st).toList.drop (i+2),?_,?_⟩
  ·rw[← yb6,← yb6,yaO]
  ·rw[yao];omega
 obtain ⟨sa,na,pa⟩:=x;obtain ⟨sb,nb,pb⟩:=y;have hr:=hI.runs;rw[e]at hr;obtain ⟨c,r1,h0,h1,ua,h2,h3,ub,r2⟩:=hr.split;subst h0 h2;have l1:=r2.le;have l0:=hI.le;have g1:(pendingOf st)[i]?=some (sa,na,pa):=by
  rw[← yaX,e,← hp];simp
 have g2:(pendingOf st)[i+1]?=some (sa+na,nb,pb):=by
  rw[← yaX,e,← hp,ybj (by omega),show pre.length+1 - pre.length=1 by omega];rfl
 refine zks hO hI.tb g1 g2 h1 h3 (by omega) ua ub fun st' b1 b2 b3 b4=>?_;have e':(pendingOf st').toList=pre++(sa,na+nb,pa)::post:=by
  rw[b4,Array.toList_eraseIdxIfInBounds,Array.toList_setIfInBounds,e,← hp];exact zh9 pre
 refine h st' ⟨b1,b2.perm.trans hI.perm,hI.le,?_⟩ (b2.wide (yaH _) (by omega)) ?_
 ·rw[e'];refine (r1.off b2 (.inl (yaa _))).glue ⟨rfl,by omega,b3,?_⟩;have:=r2.off b2 (.inr (by omega));rwa[show sa+na+nb=sa+(na+nb) by omega]at this
 ·have z1:=congrArg List.length e;have z2:=congrArg List.length e';rw[yar,yas,yaI]at z1 z2;rw[yaI]at z1;omega
end
end Tim
namespace Tim
open PySem PyProof.Rows
set_option autoImplicit false
section
variable {prog:Program}{w:World}{A:Around}{E:Value→Shared→Prop}{s:Shared}{κ:KeyKind}{kd:SortKind}
theorem Runs.modify {xs:Array Keyed}{p:Nat}:∀{l:List (Nat×Nat×Nat)} {a b:Nat} (i:Nat),Runs κ xs l a b→Runs κ xs (l.modify i fun x=>(x.fst,x.2.fst,p)) a b
 | [],_,_,i,h=>by
  cases i <;> exact h
 | (s,n,q)::r,a,b,0,h=>h
 | (s,n,q)::r,a,b,i+1,⟨h0,h1,h2,h3⟩=>⟨h0,h1,h2,Runs.modify i h3⟩
theorem SI.setp {a₀:Array Keyed}{lo hi:Nat}{st:SortSt}{p:Array (Nat×Nat×Nat)}(hI:SI κ kd a₀ lo st)(hz:hi≤a₀.size)(hr:Runs κ (arrOf st) p.toList 0 hi):SI κ kd a₀ hi (setPending st p):=
 ⟨⟨hI.tb.kind,hI.tb.keys,hI.tb.failed,hI.tb.size⟩,hI.perm,hz,hr⟩
theorem SI.pushed {a₀:Array Keyed}{st:SortSt}{lo n:Nat}(hI:SI κ kd a₀ lo st)(hn:0 < n)(hz:lo+n≤a₀.size)(hU:Up κ (arrOf st) lo (lo+n)):SI κ kd a₀ (lo+n) (setPending st ((pendingOf st).push (lo,n,0))):=by
 refine hI.setp hz ?_;rw[ybP];exact hI.runs.glue ⟨rfl,hn,hU,rfl⟩
theorem SI.marked {a₀:Array Keyed}{st:SortSt}{lo p:Nat}(hI:SI κ kd a₀ lo st):SI κ kd a₀ lo (setPending st ((pendingOf st).modify ((pendingOf st).size - 1) fun x=>(x.fst,x.2.fst,p))):=by
 refine hI.setp hI.le ?_;rw[Array.toList_modify];exact hI.runs.modify _
theorem znr {c:Prop}[Decidable c]{n:Nat}(h:2≤n):(if c then n - 2 - 1 else n - 2)+1 < n:=by
 split <;> omega
theorem ziI {a₀:Array Keyed}{st:SortSt}{Q:Unit→SortSt→Prop}(hO:LtG prog w A s κ kd)(hI:SI κ kd a₀ 0 st)(h2:2≤a₀.size)
  (h:∀ st',(arrOf st').Perm a₀→failedOf st'=none→Up κ (arrOf st') 0 a₀.size→Q () st'):wpS (model prog w) A E s sortRuns' Q st:=by
 rw[sortRuns'_eq];refine wpS_bind (wpS_get ?_);dsimp only;simp only[hI.tb.size];generalize minRun' a₀.size a₀.size 0=mr;refine wpS_bind (wpS_mono (wpS_forRange (I:=fun x c st'=>∃ lo,c=(none,lo)∧x≤lo∧SI κ kd a₀ lo st') (Q:=fun c st'=>c=(none,a₀.size)∧SI κ kd a₀ a₀.size st') ?step ?fin ⟨0,rfl,yaa _,hI⟩) ?post)
 case fin=>
  rintro c st' ⟨lo,rfl,hx,hI'⟩;have e:lo=a₀.size:=by
   have:=hI'.le;omega
  subst e;exact ⟨rfl,hI'⟩
 case step=>
  rintro x c st' _ hx ⟨lo,rfl,hxl,hI'⟩;have hle:=hI'.le;dsimp only;by_cases hlo:lo ≥ a₀.size
  ·rw[if_pos hlo];have e:lo=a₀.size:=by omega
   subst e;exact wpS_pure ⟨rfl,hI'⟩
  ·rw[if_neg hlo];refine wpS_bind (ziJ hO hI'.tb (by omega) (by omega) fun r st2 hr=>?_);obtain ⟨n,ys,rfl,n1,n2,rfl,ho,hU⟩:=hr;have hI2:SI κ kd a₀ lo (setArr st' ys):=⟨hI'.tb.off ho,ho.perm.trans hI'.perm,hle,hI'.runs.off ho (.inl (yaa _))⟩;dsimp only;by_cases hmr:n < mr
   ·rw[if_pos hmr];refine wpS_bind (zcW (wpS_bind (zgX hO hI2.tb (by omega) (by omega) hU fun zs oz uz=>?_)));simp only[ybS,yaL,if_false];have hI3:SI κ kd a₀ lo (setArr st' zs):=⟨hI2.tb.off oz,oz.perm.trans hI2.perm,hle,hI2.runs.off oz (.inl (yaa _))⟩;refine wpS_bind (wpS_get ?_);cases hb:(pendingOf (setArr st' zs)).back? with
    | none=>
     dsimp only;exact wpS_bind (wpS_modify (wpS_pure ⟨_,rfl,by omega,hI3.pushed (by omega) (by omega) uz⟩))
    | some x1=>
     obtain ⟨s1,n1',p1⟩:=x1;dsimp only;refine wpS_bind (wpS_mono (wpS_forRange (I:=fun _ c st5=>c=(none,())∧SI κ kd a₀ lo st5∧Up κ (arrOf st5) lo (lo+(min (a₀.size - lo) mr))) (Q:=fun c st5=>c=(none,())∧SI κ kd a₀ lo st5∧Up κ (arrOf st5) lo (lo+(min (a₀.size - lo) mr))) ?_ (fun _ _ z=>z) ⟨rfl,hI3,uz⟩) ?_)
     ·rintro i c st5 _ _ ⟨rfl,hI5,hU5⟩;refine wpS_bind (wpS_get ?_);by_cases h1:(pendingOf st5).size > 1
      ·rw[if_pos h1,yaZ (by omega)];obtain ⟨q1,q2,q3⟩:=(pendingOf st5)[(pendingOf st5).size - 2]'(by omega);dsimp only;split
       ·exact wpS_pure ⟨rfl,hI5,hU5⟩
       ·refine wpS_bind (zdk hO hI5 (by omega) fun st6 h3 h4 _=>?_);simp only[ybS,yaL,if_false];exact wpS_pure ⟨rfl,h3,hU5.off h4 (.inr (yaa _))⟩
      ·rw[if_neg h1];exact wpS_pure ⟨rfl,hI5,hU5⟩
     ·rintro c st5 ⟨rfl,hI5,hU5⟩;dsimp only;exact wpS_bind (wpS_modify (wpS_bind (wpS_modify (wpS_pure ⟨_,rfl,by omega,SI.pushed (SI.marked hI5) (by omega) (by omega) hU5⟩))))
   ·rw[if_neg hmr];refine wpS_bind (wpS_get ?_);cases hb:(pendingOf (setArr st' ys)).back? with
    | none=>
     dsimp only;exact wpS_bind (wpS_modify (wpS_pure ⟨_,rfl,by omega,hI2.pushed (by omega) (by omega) hU⟩))
    | some x1=>
     obtain ⟨s1,n1',p1⟩:=x1;dsimp only;refine wpS_bind (wpS_mono (wpS_forRange (I:=fun _ c st5=>c=(none,())∧SI κ kd a₀ lo st5∧Up κ (arrOf st5) lo (lo+n)) (Q:=fun c st5=>c=(none,())∧SI κ kd a₀ lo st5∧Up κ (arrOf st5) lo (lo+n)) ?_ (fun _ _ z=>z) ⟨rfl,hI2,hU⟩) ?_)
     ·rintro i c st5 _ _ ⟨rfl,hI5,hU5⟩;refine wpS_bind (wpS_get ?_);by_cases h1:(pendingOf st5).size > 1
      ·rw[if_pos h1,yaZ (by omega)];obtain ⟨q1,q2,q3⟩:=(pendingOf st5)[(pendingOf st5).size - 2]'(by omega);dsimp only;split
       ·exact wpS_pure ⟨rfl,hI5,hU5⟩
       ·refine wpS_bind (zdk hO hI5 (by omega) fun st6 h3 h4 _=>?_);simp only[ybS,yaL,if_false];exact wpS_pure ⟨rfl,h3,hU5.off h4 (.inr (yaa _))⟩
      ·rw[if_neg h1];exact wpS_pure ⟨rfl,hI5,hU5⟩
     ·rintro c st5 ⟨rfl,hI5,hU5⟩;dsimp only;exact wpS_bind (wpS_modify (wpS_bind (wpS_modify (wpS_pure ⟨_,rfl,by omega,SI.pushed (SI.marked hI5) (by omega) (by omega) hU5⟩))))
 case post=>
  rintro c st' ⟨rfl,hI'⟩;dsimp only;refine wpS_bind (wpS_mono (wpS_forRange (I:=fun x c st''=>c=(none,())∧SI κ kd a₀ a₀.size st''∧(pendingOf st'').size+x≤a₀.size+1) (Q:=fun c st''=>c=(none,())∧SI κ kd a₀ a₀.size st''∧(pendingOf st'').size≤1) ?_ ?_ ⟨rfl,hI',?_⟩) ?_)
  ·rintro x c st'' _ hx ⟨rfl,hJ,hz⟩;refine wpS_bind (wpS_get ?_);by_cases h1:(pendingOf st'').size≤1
   ·rw[if_pos h1];exact wpS_pure ⟨rfl,hJ,h1⟩
   ·rw[if_neg h1];refine wpS_bind (zdk hO hJ ?_ fun st3 h3 _ h4=>?_)
    ·exact znr (by omega)
    ·simp only[ybS,yaL,if_false];exact wpS_pure ⟨rfl,h3,by omega⟩
  ·rintro c st'' ⟨rfl,hJ,hz⟩;exact ⟨rfl,hJ,by omega⟩
  ·have:=hI'.runs.le;rw[yar]at this;omega
  ·rintro c st'' ⟨rfl,hJ,hz⟩;dsimp only;refine wpS_pure (h _ hJ.perm hJ.tb.failed ?_);have hr:=hJ.runs;rw[← yar]at hz
   match e:(pendingOf st'').toList,hz,hr with
   | [],_,hr=>
    have:0=a₀.size:=hr;omega
   | [(s1,n1,p1)],_,hr=>
    obtain ⟨_,_,u,z⟩:=hr;have z:0+n1=a₀.size:=z;rw[z]at u;exact u
end
end Tim
namespace Tim
open PySem PyProof.Rows
set_option autoImplicit false
section
variable {prog:Program}{w:World}{A:Around}{E:Value→Shared→Prop}{s:Shared}{κ:KeyKind}{kd:SortKind}
def ze5 (a:Addr)(h h':Heap):Prop:=∀ b o,b≠a→h.get? b=some o→h'.get? b=some o
def keyV (κ:KeyKind)(v:Value):κ.α:=(κ.keyOf v).getD κ.dflt
theorem ziG:∀ vs:List Value,vs.zip vs=vs.map fun v=>(v,v)
 | []=>rfl
 | v::vs=>by rw[ycx,ziG vs,yan]
theorem zhq {vs:List Value}{p:Keyed}(h:p∈(pairsOf vs).toList):p.1=p.2∧p.1∈vs:=by
 have e:(pairsOf vs).toList=vs.zip vs:=by
  unfold pairsOf;simp
 rw[e]at h;rw[ziG]at h;obtain ⟨v,hv,rfl⟩:=yax.mp h;exact ⟨rfl,hv⟩
theorem zl1 (vs:List Value):(pairsOf vs).toList.map (·.2)=vs:=by
 have e:(pairsOf vs).toList=vs.zip vs:=by
  unfold pairsOf;simp
 rw[e,ziG,ybl];have z:((fun x:Keyed=>x.2) ∘ fun v:Value=>(v,v))=id:=rfl
 first
  | rw[z,List.map_id]
  | exact List.map_id vs
theorem zru {vs:List Value}{xs:Array Keyed}(hp:xs.Perm (pairsOf vs))(hU:Up κ xs 0 (pairsOf vs).size) :
  (xs.toList.map (·.2)).Perm vs∧(xs.toList.map (·.2)).Pairwise (fun x y=>κ.kle (keyV κ x) (keyV κ y)):=by
 have hpl:=ycu.mp hp;refine ⟨?_,?_⟩
 ·have:=hpl.map (·.2);rwa[zl1]at this
 ·have hs:SL κ xs.toList:=zqh (by rw[hp.size_eq];exact hU);refine ybu.mpr (hs.imp_of_mem fun {a b} ha hb hab=>?_);have ea:=(zhq (hpl.mem_iff.mp ha)).1;have eb:=(zhq (hpl.mem_iff.mp hb)).1;unfold le ky at hab;unfold keyV;rw[← ea,← eb];exact hab
theorem zpb {a:Addr}{vs:List Value}{n:Nat}{P:Fin→Shared→Prop}(ho:s.heap.get? a=some (seqObj "list" vs.toArray n))(hz:vs.length≤sizeLine)(keys:∀ v∈vs,∃ k,κ.keyOf v=some k)
  (hlt:∀ h',ze5 a s.heap h'→LtG prog w A { s with heap:=h' } κ kd)
  (hkd:∀(h':Heap) (E:Value→Shared→Prop) (Q:SortKind→Shared→Prop),ze5 a s.heap h'→2≤vs.length→Q kd { s with heap:=h' }→wpAny (model prog w) A (keyKind' vs.toArray) Q E { s with heap:=h' })
  (h:∀ out:List Value,out.Perm vs→out.Pairwise (fun x y=>κ.kle (keyV κ x) (keyV κ y))→P (.done (.ret .none)) { s with heap:=sortedHeap s.heap a vs out.toArray }) :
  wpAny (model prog w) A (Builtin.«list.sort» ⟨[.ref a],[]⟩) P E s:=by
 rw[list_sort_plain];have hlt0:a < s.heap.objs.size:=yae ho;refine wpAny_bind (listItems_at ho rfl ?_);refine wpAny_bind (listUpdate_at ho rfl ?_ (by simpa using hz) (yaH _));obtain ⟨m,ho1⟩:∃ m,(s.heap.update a (Obj.mapSeq fun _=>#[])).get? a=some (seqObj "list" #[] m):=⟨_,get?_update_seq ho (fun _=>#[])⟩;refine wpAny_bind (seqEpoch_at ho1 rfl ?_);refine wpAny_bind (wpAny_newTuple ?_ (by simpa using hz));refine wpAny_bind (wpAny_newList ?_);refine wpAny_holding ?_;have z1:(s.heap.update a (Obj.mapSeq fun _=>#[])).objs.size=s.heap.objs.size:=by rw[Heap.size_update]
 have hk:ze5 a s.heap (((s.heap.update a (Obj.mapSeq fun _=>#[])).push (seqObj "tuple" vs.toArray 0)).push (seqObj "list" #[] 0)):=fun b o hb e=>
  yai _ (yai _ ((ybp _ _ (Ne.symm hb)).trans e))
 have ho6:(((s.heap.update a (Obj.mapSeq fun _=>#[])).push (seqObj "tuple" vs.toArray 0)).push (seqObj "list" #[] 0)).get? a=some (seqObj "list" #[] m):=yai _ (yai _ ho1);show wpAny (model prog w) A _ P E { s with heap:=((s.heap.update a (Obj.mapSeq fun _=>#[])).push (seqObj "tuple" vs.toArray 0)).push (seqObj "list" #[] 0) };dsimp only;have fin:∀ st':SortSt,(arrOf st').Perm (pairsOf vs)→failedOf st'=none→Up κ (arrOf st') 0 (pairsOf vs).size→wpAny (model prog w) A (do
   let touched:=(← seqEpoch a) != m
   Builtin.List.listUpdate (.ref a) fun _=>(arrOf st').map (·.2)
   if let some e:=failedOf st' then rule "list.sort.comparison-raised";throw e
   if touched then rule "list.sort.modified";raiseError "ValueError" "list modified during sort"
   ret .none) P E { s with heap:=((s.heap.update a (Obj.mapSeq fun _=>#[])).push (seqObj "tuple" vs.toArray 0)).push (seqObj "list" #[] 0) }:=fun st' hp hf hU=>by
  refine wpAny_bind (seqEpoch_at ho6 rfl ?_);refine wpAny_bind (listUpdate_at ho6 rfl ?_ (yaH _) (by
   refine yaB (Nat.le_of_eq ((Array.size_map ..).trans (hp.size_eq.trans (pairsOf_size _)))) ?_;omega))
  rw[hf];simp only[bne_self_eq_false,yaL,if_false];obtain ⟨o1,o2⟩:=zru hp hU;have:=h _ o1 o2;have e:((arrOf st').toList.map (·.2)).toArray=(arrOf st').map (·.2):=by rw[← Array.toList_map,Array.toArray_toList]
  rw[e]at this;exact wpAny_pure this
 by_cases h2:vs.toArray.size < 2
 ·rw[if_pos h2,if_pos h2];refine wpAny_bind (wpAny_pure ?_);rw[StateT.run_pure];refine wpAny_bind (wpAny_pure ?_);refine fin (SortSt.mk' general' (vs.toArray.zip vs.toArray) #[] 7 none) (Array.Perm.refl _) rfl ?_;intro i j q1 q2 q3;have:i=j:=by
   rw[pairsOf_size]at q3;simp at h2;omega
  subst this;exact KeyOrd.kle_refl _
 ·rw[if_neg h2,if_neg h2];have h2':2≤vs.length:=by
   simp at h2;omega
  refine wpAny_bind (hkd _ _ _ hk h2' ?_);refine wpAny_bind (wpAny_mono (ziI (κ:=κ) (hlt _ hk) (a₀:=pairsOf vs) (st:=SortSt.mk' kd (vs.toArray.zip vs.toArray) #[] 7 none)
   (Q:=fun _ st'=>(arrOf st').Perm (pairsOf vs)∧failedOf st'=none∧Up κ (arrOf st') 0 (pairsOf vs).size)
   ⟨⟨rfl,fun p hp=>keys _ (zhq hp).2,rfl,rfl⟩,Array.Perm.refl _,yaH _,rfl⟩ (by rw[pairsOf_size];omega) fun st' a1 a2 a3=>⟨a1,a2,a3⟩) ?_ fun _ _ e=>e)
  rintro ⟨⟨⟩,st'⟩ s' ⟨rfl,hp,hf,hs⟩;exact fin st' hp hf hs
theorem zga {h:Heap}{a:Addr}{vs out:List Value}{n:Nat}(ho:h.get? a=some (seqObj "list" vs.toArray n)):ze5 a h (sortedHeap h a vs out.toArray)∧∃ c,(sortedHeap h a vs out.toArray).get? a=some (seqObj "list" out.toArray c):=by
 unfold sortedHeap;refine ⟨fun b o hb e=>(ybp _ _ (Ne.symm hb)).trans (yai _ (yai _ ((ybp _ _ (Ne.symm hb)).trans e))),?_⟩;exact ⟨_,get?_update_seq (yai _ (yai _ (get?_update_seq ho (fun _=>#[])))) fun _=>out.toArray⟩
theorem znE {l:Addr}{vs:List Value}{Q:Value→Shared→Prop}(hl:s.heap.IsList l vs.toArray)(hz:vs.length≤sizeLine)(keys:∀ v∈vs,∃ k,κ.keyOf v=some k)
  (hlt:∀ h',(∀ b o,s.heap.get? b=some o→h'.get? b=some o)→LtG prog w A.in1.in1 { s with heap:=h' } κ kd)
  (hkd:∀(h':Heap) (E:Value→Shared→Prop) (Q:SortKind→Shared→Prop),(∀ b o,s.heap.get? b=some o→h'.get? b=some o)→2≤vs.length→Q kd { s with heap:=h' }→wpAny (model prog w) A.in1.in1 (keyKind' vs.toArray) Q E { s with heap:=h' })
  (h:∀(out:List Value) (h':Heap) (c:Nat),out.Perm vs→out.Pairwise (fun x y=>κ.kle (keyV κ x) (keyV κ y))→(∀ b o,s.heap.get? b=some o→h'.get? b=some o)→
   h'.get? (s.heap.objs.size+1)=some (seqObj "list" out.toArray c)→Q (.ref (s.heap.objs.size+1)) { s with heap:=h' }) :
  wpAny (model prog w) A (call (.builtin "sorted") [.ref l]) Q E s:=by
 refine Calls.call_function_entry kind_sorted plain_sorted entry_sorted (args_sorted1 _) ?_;unfold Builtin.«sorted»;refine wpAny_bind (m:=checkCount "sorted" 1 1 _) (wpAny_pure ?_);refine wpAny_bind (collect_list hl ?_ hz);refine wpAny_bind (wpAny_newList ?_ (by simpa using hz));have z1:((s.heap.push (seqObj "list" #[] 0)).update s.heap.objs.size (Obj.mapSeq (· ++ vs.toArray))).objs.size=s.heap.objs.size+1:=by
  rw[Heap.size_update,size_push']
 have hn:(((s.heap.push (seqObj "list" #[] 0)).update s.heap.objs.size (Obj.mapSeq (· ++ vs.toArray))).push (seqObj "list" vs.toArray 0)).get? (s.heap.objs.size+1)=some (seqObj "list" vs.toArray 0):=by
  rw[← z1];exact yaD _ rfl
 have hk:∀ b o,s.heap.get? b=some o→(((s.heap.push (seqObj "list" #[] 0)).update s.heap.objs.size (Obj.mapSeq (· ++ vs.toArray))).push (seqObj "list" vs.toArray 0)).get? b=some o:=fun b o e=>
  yai _ ((ybp _ _ (ybi (yae e))).trans (yai _ e))
 show wpAny _ _ _ _ _ { s with heap:=((s.heap.push (seqObj "list" #[] 0)).update s.heap.objs.size (Obj.mapSeq (· ++ vs.toArray))).push (seqObj "list" vs.toArray 0) };rw[z1];generalize ((s.heap.push (seqObj "list" #[] 0)).update s.heap.objs.size (Obj.mapSeq (· ++ vs.toArray))).push (seqObj "list" vs.toArray 0)=h1 at hn hk ⊢;have up:∀ h',ze5 (s.heap.objs.size+1) h1 h'→∀ b o,s.heap.get? b=some o→h'.get? b=some o:=fun h' kb b o e=>kb b o (fun z=>by
  have:=yae e;rw[z]at this;exact absurd this (Nat.not_lt.mpr (ybb _))) (hk b o e)
 refine wpAny_bind (wpAny_holding (wpAny_call_entry slot_list_sort ⟨_,hn,rfl⟩ entry_list_sort (zpb (s:={ s with heap:=h1 }) hn hz keys (fun h' kb=>hlt h' (up h' kb)) (fun h' E Q kb h2 q=>hkd h' E Q (up h' kb) h2 q) fun out p1 p2=>⟨_,rfl,?_⟩) (args_list_sort _)));obtain ⟨kb,c,hc⟩:=zga (out:=out) hn;exact wpAny_pure ⟨_,rfl,h out _ c p1 p2 (up _ kb) hc⟩
end
end Tim
namespace L2
open PySem PySem.Spec PyProof.Rows
structure DF (K:Frag)(mg:Str→Option Value)(x:Str)(st:Stmt)(ps:List Str):Prop where
 ex:∃ f fd,Fun K x x st f fd∧zdc K fd ps []∧mg x=some (.ref f)
structure FC (P:Program)(w:World)(K:Frag)(mg:Str→Option Value)(base:Heap)(k:Nat)(x:Str)(ps:List Str)(sp:Sp):Prop where
 ex:∃ f fd,FnOk P w K mg base CX0 k f fd ps sp∧zdc K fd ps []∧keepIn K (.ref f)=true∧mg x=some (.ref f)∧∃ oc od osl,K.lookup f=some ⟨oc,od,.func fd,osl⟩
theorem FC.at {P:Program}{w:World}{K:Frag}{mg:Str→Option Value}{base:Heap}{k:Nat}{x:Str}{ps:List Str}{sp:Sp}{f:Addr}{fd:FuncData}{oc:Value}{od:Option Addr}{osl:Array (Option Value)}(F:FC P w K mg base k x ps sp)(m:mg x=some (.ref f))(l:K.lookup f=some ⟨oc,od,.func fd,osl⟩):FnOk P w K mg base CX0 k f fd ps sp:=by
 obtain ⟨f',fd',ok,_,_,m',oc',od',osl',l'⟩:=F.ex;rw[m]at m';cases m'
 rw[l]at l';cases l'
 exact ok
theorem DF.ok {P:Program}{w:World}{K:Frag}{mg:Str→Option Value}{base:Heap}{x:Str}{st:Stmt}{N ps:List Str}{k:Nat}{sp:Sp}(D:DF K mg x st ps)(S:zap N ps (zah st))(len:∀ vs H Q E,sp vs H Q E→vs.length=ps.length)
  (hbody:∀(f:Addr) (cdv:Value) (A:Around) (outer:List Env) (s:Shared) (H:Hp) (vs:List V) (Q:VK) (E:XK),Room k (A.deeper (envOfC x (zah st) s.heap.objs.size f cdv))→sp vs H Q E→
   ∃ t,PSs (cxOf CX0 P w K mg base N x (zah st) f cdv A outer s H E).nox (za3 st) t∧t { nx:=fun _ H'=>Q .non H',rt:=Q } (zcX N vs) H):FC P w K mg base (k+1) x ps sp:=by
 obtain ⟨f,fd,F,b,m⟩:=D.ex;exact ⟨f,fd,F.ok S len fun cdv A outer s H vs Q E hr h=>hbody f cdv A outer s H vs Q E hr h,b,F.kp,m,by
  obtain ⟨oc,od,kV,doc,pm,an,cdv,ct,osl,rfl,lk,hcd⟩:=F.ex;exact ⟨oc,od,osl,lk⟩⟩
theorem zaw {X:Cx}{j k:Nat}{x:Str}{ps:List Str}{sp:Sp}{e:Expr}{es:List Expr}{t:TA}{p pos:Pos}(F:FC X.prog X.w X.K X.mg X.base j x ps sp)(hr:Room k X.A)(ha:PA X (e::es) t)(hjk:j≤k:=by decide)(hg:Gl X x:=by rfl)
  (hdb:(x == ("__debug__" : Str))=false:=by decide) (he:starEach (e::es) X.env=(false,eval e X.env)::starEach es X.env:=by rfl) (hpl:(backTo pos (starEach es X.env)).any (·.1)=false:=by rfl):PE X (.Call (.Name x p) (e::es) [] pos) (zpG sp [] E0 t):=by
 obtain ⟨f,fd,ok,b,kp,m,_⟩:=F.ex;exact zpZ ok (hr.mono hjk) hg m kp b .nil zlY ha hdb he hpl
def zqV (t u:TS):TS:=fun D σ H=>∃ M:St→Hp→Prop,t { D with nx:=M } σ H∧∀ σ' H',M σ' H'→u D σ' H'
theorem zaz {X:Cx}{st:Stmt}{rest:List Stmt}{t u:TS}(h1:PS X st t)(h2:PSs X rest u):PSs X (st::rest) (zqV t u):=by
 intro pins s σ H D I h;obtain ⟨M,h,hM⟩:=h;refine wpAny_execs_cons (thn (h1 pins s σ H { D with nx:=M } I h) fun f s1 q=>?_);cases f with
 | next=>
  obtain ⟨σ',H',I',q⟩:=q;exact h2 pins s1 σ' H' D I' (hM σ' H' q)
 | ret v=>exact q
 | brk=>exact q
 | cont=>exact q
def zsO (i j:Int):Prop:=0 < j∧j < 2 ^ 4000
section
variable {X:Cx}
def kitO (a b:String):Option Bool:=if (Value.type a == Value.type b)=true then some true else if PySem.W.kitMeta b=true then (PySem.fastBuiltinMro a).map (·.contains (.type b)) else none
theorem zqk {K:Frag}{a b:String}:kitOne K (.type a) (.type b)=kitO a b:=rfl
def rIsi (K:Frag):List V→Hp→VK→Prop:=fun xs H Q=>∃ x n t b,xs=[x,.ty n]∧TyOf K H x (.type t)∧kitO t n=some b∧Q (.bl b) H
theorem zkm:zdj X (.builtin "isinstance") (rIsi X.K):=by
 intro pins s σ H xs us Q I r h;obtain ⟨x,n,t,b,e,ty,ki,q⟩:=h;subst e;obtain ⟨u,w',e,r1,r2⟩:=zgw r;subst e;cases r2
 exact zmI I r1 ty (zqk.trans ki) fun tk=>⟨.bl b,H,I.tok tk,rfl,q⟩
theorem zrY:kitO "int" "int" = some true:=by decide +kernel
theorem zrZ:kitO "int" "bool" = some false:=by decide +kernel
theorem zr1:kitO "bool" "bool" = some true:=by decide +kernel
def zpQ:V→List V→Hp→VK→Prop:=fun x xs H Q=>∃ i,x=.int i∧xs=[]∧Q (.int (Builtin.Int.intBits i:Nat)) H
theorem zhx:MtR X "int.bit_length" zpQ:=by
 intro pins s σ H x xs v us Q I rx rv h;obtain ⟨i,rfl,rfl,q⟩:=h;obtain ⟨t,rfl⟩:=rx;cases rv
 exact call_int_bit_length ⟨.int _,H,I.tok _,⟨_,rfl⟩,q⟩
end
theorem zqm {c A B:Prop}[Decidable c](hc:¬ c)(h:B):if decide c=true then A else B:=by
 rw[yaf hc];exact iteF h
theorem zql {c A B:Prop}[Decidable c](hc:c)(h:A):if decide c=true then A else B:=by
 rw[yaj hc];exact iteT h
def zda (L:Addr)(a l:Int):HO:=.dK [(.inr "script",.ref L),(.inr "at",.int a),(.inr "left",.int l)]
def Keep (d:Addr)(H H':Hp):Prop:=∀ b o,b≠d→H b=some o→H' b=some o
theorem Keep.refl (d:Addr)(H:Hp):Keep d H H:=fun _ _ _ h=>h
theorem Keep.trans {d:Addr}{H H1 H2:Hp}(a:Keep d H H1)(b:Keep d H1 H2):Keep d H H2:=fun c o n h=>b c o n (a c o n h)
theorem Same.keep {d:Addr}{H H':Hp}(s:Same H H'):Keep d H H':=fun b o _ h=>s b o h
structure LS (K:Frag)(L d:Addr)(H:Hp):Prop where
 ex:∃(ns:List Int) (a l:Int),H d=some (zda L a l)∧SqL K H L (ns.map V.int)
theorem zfq {K:Frag}{H H':Hp}{L d:Addr}{xs:List V}{L':Addr}{a l:Int}(hd:H d=some (zda L' a l))(k:Keep d H H')(h:SqL K H L xs):SqL K H' L xs:=by
 have ne:∀ o,H L=some o→(∀ kvs,o≠.dK kvs)→L≠d:=fun o e n z=>by
  rw[z,hd]at e;cases e
  exact n _ rfl
 rcases h with (h | ⟨o,h⟩) | h
 ·exact .inl (.inl (k L _ (ne _ h (fun _ z=>nomatch z)) h))
 ·exact .inl (.inr ⟨o,k L _ (ne _ h (fun _ z=>nomatch z)) h⟩)
 ·exact .inr h
theorem LS.set {K:Frag}{d L:Addr}{H:Hp}{ns:List Int}{a l a' l':Int}(hd:H d=some (zda L a l))(h:SqL K H L (ns.map V.int)):LS K L d (upd H d (zda L a' l'))∧Keep d H (upd H d (zda L a' l')):=by
 have k:Keep d H (upd H d (zda L a' l')):=fun b o n e=>by rw[zaj n];exact e
 exact ⟨⟨ns,a',l',zac,zfq hd k h⟩,k⟩
theorem LS.same {K:Frag}{L d:Addr}{H H':Hp}(s:LS K L d H)(k:Same H H'):LS K L d H':=by
 obtain ⟨ns,a,l,e,q⟩:=s.ex;exact ⟨ns,a,l,k _ _ e,k.seq q⟩
theorem zaf {H:Hp}{p:Addr}(h:H p=none)(o:HO):Same H (upd H p o):=fun b u q=>by rw[zaj (zad q h)];exact q
theorem LS.put {K:Frag}{L d p:Addr}{H0 H2:Hp}{o:HO}(s:LS K L d H0)(hp:H0 p=none)(k:∀ b o,b≠d→b≠p→H0 b=some o→H2 b=some o)(s2:LS K L d H2):LS K L d (upd H2 p o):=by
 obtain ⟨ns,a,l,e,q⟩:=s.ex;obtain ⟨ns2,a2,l2,e2,_⟩:=s2.ex;have hdp:d≠p:=zad e hp;have go:∀ u,H0 L=some u→(∀ kvs,u≠.dK kvs)→upd H2 p o L=some u:=fun u hu hn=>by
  have h1:L≠p:=zad hu hp;have h2:L≠d:=fun z=>by
   rw[z,e]at hu;cases hu
   exact hn _ rfl
  rw[zaj h1];exact k L u h2 h1 hu
 refine ⟨ns,a2,l2,by rw[zaj hdp];exact e2,?_⟩;rcases q with (h | ⟨ob,h⟩) | h
 ·exact .inl (.inl (go _ h (fun _ z=>nomatch z)))
 ·exact .inl (.inr ⟨ob,go _ h (fun _ z=>nomatch z)⟩)
 ·exact .inr h
section
variable {H:Hp}{d L:Addr}{a l:Int}
theorem zdY {x y:Str}(h:x≠y):(Sum.inr x:Key)≠Sum.inr y:=fun z=>h (Sum.inr.inj z)
theorem zkX (h:H d=some (zda L a l)):DGet H d (.str "script") (some (.ref L)):=.inl ⟨_,.inr "script",.inl h,rfl,by rw[zcs rfl]⟩
theorem zsa (h:H d=some (zda L a l)):DGet H d (.str "at") (some (.int a)):=.inl ⟨_,.inr "at",.inl h,rfl,by rw[zbw (zdY (show ("script" : Str) ≠ "at" by decide +kernel)),zcs rfl]⟩
theorem zhF (h:H d=some (zda L a l)):DGet H d (.str "left") (some (.int l)):=.inl ⟨_,.inr "left",.inl h,rfl,by rw[zbw (zdY (show ("script" : Str) ≠ "left" by decide +kernel)),zbw (zdY (show ("at" : Str) ≠ "left" by decide +kernel)),zcs rfl]⟩
theorem zpg {k:Key}{v:V}{kvs kvs':List (Key×V)}(h:H d=some (.dK kvs))(hl:kvs.length < sizeLine)(e:putK kvs k v=kvs'):DPut H d (kV k) v (upd H d (.dK kvs')):=by
 subst e;exact DPut.k h hl
theorem zrn {a':Int}(h:H d=some (zda L a l)):DPut H d (.str "at") (.int a') (upd H d (zda L a' l)):=
 zpg (k:=.inr "at") h (by show 3 < sizeLine;decide) (by
  unfold putK;rw[if_pos (by simp)];simp only[yan,ybN,if_neg (zdY (show ("script" : Str) ≠ "at" by decide +kernel)),if_neg (zdY (show ("left" : Str) ≠ "at" by decide +kernel)),if_true])
theorem zjU {l':Int}(h:H d=some (zda L a l)):DPut H d (.str "left") (.int l') (upd H d (zda L a l')):=
 zpg (k:=.inr "left") h (by show 3 < sizeLine;decide) (by
  unfold putK;rw[if_pos (by simp)];simp only[yan,ybN,if_neg (zdY (show ("script" : Str) ≠ "left" by decide +kernel)),if_neg (zdY (show ("at" : Str) ≠ "left" by decide +kernel)),if_true])
end
def ze8 (K:Frag):Sp:=fun vs H Q _=>∃(d L:Addr) (m:Int),vs=[.ref d,.int m]∧(0 < m∧m < 1073741824)∧LS K L d H∧∀(v:Int) (H':Hp),0≤v→v < m→Keep d H H'→LS K L d H'→Q (.int v) H'
def zlD:Sp:=fun vs H Q _=>∃ c k:Int,vs=[.int c,.int k]∧∀ v:Int,Q (.int v) H
def zlK (K:Frag):Sp:=fun vs H Q _=>∃(L:Addr) (ns:List Int),vs=[.ref L]∧SqL K H L (ns.map V.int)∧∀(d:Addr) (H':Hp),H d=none→Same H H'→LS K L d H'→Q (.ref d) H'
theorem zsi {ns:List Int}{k:Int}(h:0 < ns.length):∃ v:Int,atI (ns.map V.int) (k % (((ns.map V.int).length:Nat):Int))=some (.int v):=by
 have e:(ns.map V.int).length=ns.length:=yab _;have h1:(0:Int) < (((ns.map V.int).length:Nat):Int):=by rw[e];omega
 have z0:=ycg k (Int.ne_of_gt h1);have z1:=ych k h1;generalize hj:k % (((ns.map V.int).length:Nat):Int)=j at z0 z1;rw[e]at z1;have hk:j.toNat < ns.length:=by omega
 obtain ⟨n,rfl⟩:∃ n:Nat,j=(n:Int):=⟨j.toNat,by omega⟩;have hn:n < ns.length:=by omega
 exact ⟨ns[n],zdw (by rw[yaq,yac hn];rfl)⟩
end L2
namespace L2
open PySem PySem.Spec PyProof.Rows PySem.SeqAt
def Ext (H H':Hp):Prop:=∀ b o,H b=some o→(∀ kvs,o≠.dK kvs)→H' b=some o
theorem Same.ext {H H':Hp}(s:Same H H'):Ext H H':=fun b o h _=>s b o h
theorem Keep.ext {d L:Addr}{a l:Int}{H H':Hp}(k:Keep d H H')(h:H d=some (zda L a l)):Ext H H':=fun b o e n=>k b o (fun z=>by
 rw[z,h]at e;cases e
 exact n _ rfl) e
theorem LS.ext {K:Frag}{L d:Addr}{H H':Hp}(s:LS K L d H)(k:Keep d H H'):Ext H H':=by
 obtain ⟨ns,a,l,e,_⟩:=s.ex;exact k.ext e
theorem LS.of_new {K:Frag}{L d:Addr}{H:Hp}(s:LS K L d H){p:Addr}(hp:H p=none)(o:HO):LS K L d (upd H p o):=s.same (zaf hp o)
theorem SqL.ext {K:Frag}{H H':Hp}{a:Addr}{xs:List V}(e:Ext H H')(h:SqL K H a xs):SqL K H' a xs:=by
 rcases h with (h | ⟨o,h⟩) | h
 ·exact .inl (.inl (e _ _ h (fun _ z=>nomatch z)))
 ·exact .inl (.inr ⟨o,e _ _ h (fun _ z=>nomatch z)⟩)
 ·exact .inr h
theorem SqT.ext {K:Frag}{H H':Hp}{a:Addr}{xs:List V}(e:Ext H H')(h:SqT K H a xs):SqT K H' a xs:=by
 rcases h with (h | ⟨o,h⟩) | h
 ·exact .inl (.inl (e _ _ h (fun _ z=>nomatch z)))
 ·exact .inl (.inr ⟨o,e _ _ h (fun _ z=>nomatch z)⟩)
 ·exact .inr h
class Rep (α:Type) where
 dec:DecidableEq α
 depth:Nat
 has:Frag→Hp→α→V→Prop
 mono:∀{K:Frag} {H H':Hp} {a:α} {v:V},Ext H H'→has K H a v→has K H' a v
 inj:∀{X:Cx} {pins:List (Addr×Obj)} {σ:St} {H:Hp} {s:Shared} {a b:α} {v:V},Inv X pins σ H s→has X.K H a v→has X.K H b v→a=b
 rc:∀{X:Cx} {pins:List (Addr×Obj)} {σ:St} {H:Hp} {s:Shared} {A:Around} {a b:α} {x y:V} {u v:Value},Inv X pins σ H s→A.units+depth < cLine→has X.K H a x→has X.K H b y→RelV x u→RelV y v→RcAt A s u v (dec a b).decide
 rn:∀{X:Cx} {pins:List (Addr×Obj)} {σ:St} {H:Hp} {s:Shared} {A:Around} {a b:α} {x y:V} {u v:Value},Inv X pins σ H s→A.units+depth < cLine→has X.K H a x→has X.K H b y→RelV x u→RelV y v→RcNeAt A s u v (!(dec a b).decide)
 eq:∀{X:Cx} {pins:List (Addr×Obj)} {σ:St} {H:Hp} {s:Shared} {A:Around} {a b:α} {x y:V} {u v:Value},Inv X pins σ H s→A.units+depth < cLine→has X.K H a x→has X.K H b y→RelV x u→RelV y v→EqAt A s u v (dec a b).decide
instance (priority:=low) repDec {α:Type} [Rep α]:DecidableEq α:=Rep.dec
theorem zjo {i j:Int}:(i == j)=(Int.instDecidableEq i j).decide:=by
 by_cases h:i=j
 ·subst h;simp
 ·rw[beq_eq_false_iff_ne.mpr h];exact (yaf h).symm
instance:Rep Int where
 dec:=Int.instDecidableEq
 depth:=0
 has:=fun _ _ i v=>v=.int i
 mono:=fun _ h=>h
 inj:=fun _ h1 h2=>V.int.inj (h1.symm.trans h2)
 rc:=fun _ _ h1 h2 r1 r2=>by
  subst h1 h2;obtain ⟨t,rfl⟩:=r1;obtain ⟨t',rfl⟩:=r2;rw[← zjo];exact RcAt.int_int _ _ _ _
 rn:=fun _ _ h1 h2 r1 r2=>by
  subst h1 h2;obtain ⟨t,rfl⟩:=r1;obtain ⟨t',rfl⟩:=r2;rw[← zjo];exact RcNeAt.int_int _ _ _ _
 eq:=fun _ _ h1 h2 r1 r2=>by
  subst h1 h2;obtain ⟨t,rfl⟩:=r1;obtain ⟨t',rfl⟩:=r2;rw[← zjo];exact EqAt.int_int _ _ _ _
instance:Rep Bool where
 dec:=instDecidableEqBool
 depth:=0
 has:=fun _ _ i v=>v=.bl i
 mono:=fun _ h=>h
 inj:=fun _ h1 h2=>V.bl.inj (h1.symm.trans h2)
 rc:=fun {_ _ _ _ _ _ a b _ _ _ _} _ _ h1 h2 r1 r2=>by
  subst h1 h2;cases r1
  cases r2
  have e:(a == b)=(instDecidableEqBool a b).decide:=by cases a <;> cases b <;> rfl
  rw[← e];exact RcAt.bool_bool _ _
 rn:=fun {_ _ _ _ _ _ a b _ _ _ _} _ _ h1 h2 r1 r2=>by
  subst h1 h2;cases r1
  cases r2
  have e:(a == b)=(instDecidableEqBool a b).decide:=by cases a <;> cases b <;> rfl
  rw[← e];exact RcNeAt.bool_bool _ _
 eq:=fun {_ _ _ _ _ _ a b _ _ _ _} _ _ h1 h2 r1 r2=>by
  subst h1 h2;cases r1
  cases r2
  have e:(a == b)=(instDecidableEqBool a b).decide:=by cases a <;> cases b <;> rfl
  rw[← e];exact EqAt.bool_bool _ _
theorem pImp {α β:Type}{R S:α→β→Prop}(h:∀ a b,R a b→S a b){as:List α}{bs:List β}(p:Paired R as bs):Paired S as bs:=by
 induction p with
 | nil=>exact .nil
 | cons a _ ih=>exact .cons (h _ _ a) ih
theorem pApp {α β:Type}{R:α→β→Prop}{as cs:List α}{bs ds:List β}(p:Paired R as bs)(q:Paired R cs ds):Paired R (as++cs) (bs++ds):=by
 induction p with
 | nil=>exact q
 | cons a _ ih=>exact .cons a ih
def zan {α:Type}[Rep α](K:Frag)(H:Hp):List α→List V→Prop:=Paired (Rep.has K H)
section
variable {α:Type}[Rep α]{K:Frag}{H H':Hp}
theorem zan.mono (e:Ext H H'){as:List α}{xs:List V}(h:zan K H as xs):zan K H' as xs:=pImp (fun _ _=>Rep.mono e) h
theorem zan.length {as:List α}{xs:List V}(h:zan K H as xs):as.length=xs.length:=Paired.length h
theorem zan.get:∀{as:List α} {xs:List V} {i:Nat} {x:V},zan K H as xs→xs[i]?=some x→∃ a,as[i]?=some a∧Rep.has K H a x
 | _,_,_,_,.nil,e=>by simp at e
 | _,_,0,_,.cons h _,e=>by simp at e;subst e;exact ⟨_,rfl,h⟩
 | _,_,i+1,x,.cons _ t,e=>by
  obtain ⟨a,h1,h2⟩:=zan.get (i:=i) (x:=x) t (by simpa using e);exact ⟨a,by simpa using h1,h2⟩
theorem zan.append {as bs:List α}{xs ys:List V}(h:zan K H as xs)(g:zan K H bs ys):zan K H (as++bs) (xs++ys):=pApp h g
theorem zan.ints:∀{ns:List Int},zan K H ns (ns.map V.int)
 | []=>.nil
 | _::_=>.cons rfl zan.ints
theorem zan.toInts {ns:List Int}{xs:List V}(h:zan K H ns xs):xs=ns.map V.int:=by
 unfold zan at h
 induction h with
 | nil=>rfl
 | cons h _ ih=>
  have e:_=V.int _:=h;rw[e,ih];rfl
theorem zan.inj {X:Cx}{pins:List (Addr×Obj)}{σ:St}{s:Shared}(I:Inv X pins σ H s){as bs:List α}{xs:List V}(h:zan X.K H as xs)(g:zan X.K H bs xs):as=bs:=by
 unfold zan at h g
 induction h generalizing bs with
 | nil=>cases g;rfl
 | cons h _ ih=>
  cases g with
  | cons h' t'=>rw[Rep.inj I h h',ih t']
end
theorem ze4 {α:Type}[DecidableEq α]:∀(as bs:List α),as.length=bs.length→((List.range as.length).all fun j=>decide (as[j]?=bs[j]?))=decide (as=bs):=by
 intro as bs hl;by_cases h:as=bs
 ·subst h;simp
 ·rw[yaf h,List.all_eq_false]
  false_or_by_contra
  rename_i z;apply h;apply ya7;intro i;by_cases hi:i < as.length
  ·false_or_by_contra
   rename_i q;exact z ⟨i,ya5.mpr hi,by simpa using q⟩
  ·rw[yaY (by omega),yaY (by omega)]
section
variable {α:Type}[r:Rep α]
theorem zbQ {A:Around}:A.in1.units≤A.units+1:=by
 first
  | exact yaa _
  | (unfold Around.in1;simp)
theorem zfJ {X:Cx}{pins:List (Addr×Obj)}{σ:St}{H:Hp}{s:Shared}{A:Around}{as bs:List α}{xs ys:List V}{us vs:List Value}(I:Inv X pins σ H s)(hu:A.units+Rep.depth α < cLine)
  (h1:zan X.K H as xs) (h2:zan X.K H bs ys) (r1:Vals xs us) (r2:Vals ys vs):∀ j (q1:j < us.toArray.size) (q2:j < vs.toArray.size),EqAt A s us.toArray[j] vs.toArray[j] (decide (as[j]?=bs[j]?)):=by
 intro j q1 q2;have l1:=r1.length;have l2:=r2.length;have m1:=h1.length;have m2:=h2.length;have j1:j < us.length:=by simpa using q1
 have j2:j < vs.length:=by simpa using q2
 obtain ⟨a,ea,ha⟩:=h1.get (i:=j) (yac (by omega));obtain ⟨b,eb,hb⟩:=h2.get (i:=j) (yac (by omega));obtain ⟨u,eu,ru⟩:=r1.get (i:=j) (yac (by omega));obtain ⟨v,ev,rv⟩:=r2.get (i:=j) (yac (by omega));have gu:us.toArray[j]=u:=by
  have:us[j]?=some us[j]:=yac j1;rw[eu]at this;simpa using (yad this).symm
 have gv:vs.toArray[j]=v:=by
  have:vs[j]?=some vs[j]:=yac j2;rw[ev]at this;simpa using (yad this).symm
 rw[gu,gv,ea,eb];have e:decide (some a=some b)=(Rep.dec a b).decide:=by
  by_cases z:a=b
  ·subst z;simp
  ·rw[yaf (fun q=>z (yad q))];exact (yaf z).symm
 rw[e];exact Rep.eq I hu ha hb ru rv
end
def hasL {α:Type}[Rep α](K:Frag)(H:Hp)(as:List α)(v:V):Prop:=∃ a xs,v=.ref a∧SqL K H a xs∧zan K H as xs
section
variable {α:Type}[r:Rep α]{X:Cx}{pins:List (Addr×Obj)}{σ:St}{H:Hp}{s:Shared}{A:Around}{as bs:List α}{x y:V}{u v:Value}
theorem zot (I:Inv X pins σ H s)(h1:hasL X.K H as x)(h2:hasL X.K H bs x):as=bs:=by
 obtain ⟨a,xs,rfl,q1,h1⟩:=h1;obtain ⟨b,ys,e,q2,h2⟩:=h2;cases e
 rw[I.list_inj q2 q1]at h2;exact h1.inj I h2
theorem zmN (I:Inv X pins σ H s)(hu:A.units+(Rep.depth α+1) < cLine)(h1:hasL X.K H as x)(h2:hasL X.K H bs y)(r1:RelV x u)(r2:RelV y v):RcAt A s u v (decide (as=bs)):=by
 obtain ⟨a,xs,rfl,q1,h1⟩:=h1;obtain ⟨b,ys,rfl,q2,h2⟩:=h2;cases r1
 cases r2
 obtain ⟨us,ru,pu,_⟩:=I.list q1;obtain ⟨vs,rv,pv,_⟩:=I.list q2;have l1:=ru.length;have l2:=rv.length;have m1:=h1.length;have m2:=h2.length;have hin:A.in1.units+Rep.depth α < cLine:=yaW (ybf zbQ _) (by omega);by_cases hl:as.length=bs.length
 ·have e:=ze4 as bs hl;rw[← e];have z:as.length=us.toArray.size:=by simp;omega
  rw[z];exact RcAt.lists pu.isList pv.isList (by simp;omega) (by omega) (zfJ I hin h1 h2 ru rv)
 ·rw[yaf (fun z=>hl (by rw[z]))];exact RcAt.lists_lengths pu.isList pv.isList (by simp;omega) (by omega)
theorem zqs (I:Inv X pins σ H s)(hu:A.units+(Rep.depth α+1) < cLine)(h1:hasL X.K H as x)(h2:hasL X.K H bs y)(r1:RelV x u)(r2:RelV y v):RcNeAt A s u v (!decide (as=bs)):=by
 obtain ⟨a,xs,rfl,q1,h1⟩:=h1;obtain ⟨b,ys,rfl,q2,h2⟩:=h2;cases r1
 cases r2
 obtain ⟨us,ru,pu,_⟩:=I.list q1;obtain ⟨vs,rv,pv,_⟩:=I.list q2;have l1:=ru.length;have l2:=rv.length;have m1:=h1.length;have m2:=h2.length;have hin:A.in1.units+Rep.depth α < cLine:=yaW (ybf zbQ _) (by omega);by_cases hl:as.length=bs.length
 ·have e:=ze4 as bs hl;rw[← e];have z:as.length=us.toArray.size:=by simp;omega
  rw[z];exact RcNeAt.lists pu.isList pv.isList (by simp;omega) (by omega) (zfJ I hin h1 h2 ru rv)
 ·rw[yaf (fun z=>hl (by rw[z])),Bool.not_false];exact RcNeAt.lists_lengths pu.isList pv.isList (by simp;omega) (by omega)
theorem zqt (I:Inv X pins σ H s)(hu:A.units+(Rep.depth α+1) < cLine)(h1:hasL X.K H as x)(h2:hasL X.K H bs y)(r1:RelV x u)(r2:RelV y v):EqAt A s u v (decide (as=bs)):=by
 have rc:=zmN (A:=A) I hu h1 h2 r1 r2;obtain ⟨a,xs,rfl,q1,h1⟩:=h1;obtain ⟨b,ys,rfl,q2,h2⟩:=h2;cases r1
 cases r2
 by_cases hab:a=b
 ·subst hab;rw[I.list_inj q2 q1]at h2;rw[yaj (h1.inj I h2)];exact EqAt.same _
 ·exact EqAt.of_refs hab rc
end
instance {α:Type} [Rep α]:Rep (List α) where
 dec:=inferInstance
 depth:=Rep.depth α+1
 has:=hasL
 mono:=fun e ⟨a,xs,h1,h2,h3⟩=>⟨a,xs,h1,h2.ext e,h3.mono e⟩
 inj:=fun I h1 h2=>zot I h1 h2
 rc:=fun I hu h1 h2 r1 r2=>zmN I hu h1 h2 r1 r2
 rn:=fun I hu h1 h2 r1 r2=>zqs I hu h1 h2 r1 r2
 eq:=fun I hu h1 h2 r1 r2=>zqt I hu h1 h2 r1 r2
def hasP {α β:Type}[Rep α][Rep β](K:Frag)(H:Hp)(p:α×β)(v:V):Prop:=∃ a x y,v=.ref a∧H a=some (.tup [x,y])∧Rep.has K H p.1 x∧Rep.has K H p.2 y
section
variable {α β:Type}[ra:Rep α][rb:Rep β]{X:Cx}{pins:List (Addr×Obj)}{σ:St}{H:Hp}{s:Shared}{A:Around}{p q:α×β}{x y:V}{u v:Value}
theorem zkf (I:Inv X pins σ H s)(h1:hasP X.K H p x)(h2:hasP X.K H q x):p=q:=by
 obtain ⟨a,x1,x2,rfl,q1,e1,e2⟩:=h1;obtain ⟨b,y1,y2,e,q2,f1,f2⟩:=h2;cases e
 have z:=I.tuple_inj (SqT.of q2) (SqT.of q1);cases z
 have g1:=Rep.inj I e1 f1;have g2:=Rep.inj I e2 f2;obtain ⟨p1,p2⟩:=p;obtain ⟨s1,s2⟩:=q;cases g1
 cases g2
 rfl
theorem zmM (I:Inv X pins σ H s)(hu:A.units+(Rep.depth α+Rep.depth β+1) < cLine)(h1:hasP X.K H p x)(h2:hasP X.K H q y)(r1:RelV x u)(r2:RelV y v):RcAt A s u v (decide (p=q)):=by
 obtain ⟨a,x1,x2,rfl,q1,e1,e2⟩:=h1;obtain ⟨b,y1,y2,rfl,q2,f1,f2⟩:=h2;cases r1
 cases r2
 obtain ⟨us,ru,pu,_⟩:=I.tuple (SqT.of q1);obtain ⟨vs,rv,pv,_⟩:=I.tuple (SqT.of q2);obtain ⟨u1,u2,rfl,ru1,ru2⟩:=zgw ru;obtain ⟨v1,v2,rfl,rv1,rv2⟩:=zgw rv;have hin:∀ n,n≤Rep.depth α+Rep.depth β→A.in1.units+n < cLine:=fun n hn=>yaW (ybf zbQ _) (by omega);have c1:=Rep.eq (A:=A.in1) I (hin _ (by omega)) e1 f1 ru1 rv1;have c2:=Rep.eq (A:=A.in1) I (hin _ (by omega)) e2 f2 ru2 rv2;have:=RcAt.tuples (A:=A) (s:=s) (l:=a) (b:=b) (items:=#[u1,u2]) (items2:=#[v1,v2]) (e:=fun j=>if j=0 then (Rep.dec p.1 q.1).decide else (Rep.dec p.2 q.2).decide) pu pv (by omega) (by
  intro j h1 h2;have h1':j < 2:=h1;have z:j=0∨j=1:=by omega
  rcases z with rfl | rfl
  ·exact c1
  ·exact c2)
 have e:((List.range (min (#[u1,u2]:Array Value).size (#[v1,v2]:Array Value).size)).all (fun j=>if j=0 then (Rep.dec p.1 q.1).decide else (Rep.dec p.2 q.2).decide) && (#[u1,u2]:Array Value).size == (#[v1,v2]:Array Value).size)=decide (p=q):=by
  obtain ⟨p1,p2⟩:=p;obtain ⟨s1,s2⟩:=q;show (((List.range 2).all fun j=>if j=0 then (Rep.dec p1 s1).decide else (Rep.dec p2 s2).decide) && true)=_
  rw[show List.range 2=[0,1] from rfl];simp only[ybM,List.all_nil,yci,if_true];rw[if_neg (by decide)];by_cases z1:p1=s1
  ·by_cases z2:p2=s2
   ·subst z1 z2;simp
   ·subst z1;simp[z2]
  ·simp[z1]
 rw[e]at this;exact this
theorem zqq (I:Inv X pins σ H s)(hu:A.units+(Rep.depth α+Rep.depth β+1) < cLine)(h1:hasP X.K H p x)(h2:hasP X.K H q y)(r1:RelV x u)(r2:RelV y v):RcNeAt A s u v (!decide (p=q)):=by
 obtain ⟨a,x1,x2,rfl,q1,e1,e2⟩:=h1;obtain ⟨b,y1,y2,rfl,q2,f1,f2⟩:=h2;cases r1
 cases r2
 obtain ⟨us,ru,pu,_⟩:=I.tuple (SqT.of q1);obtain ⟨vs,rv,pv,_⟩:=I.tuple (SqT.of q2);obtain ⟨u1,u2,rfl,ru1,ru2⟩:=zgw ru;obtain ⟨v1,v2,rfl,rv1,rv2⟩:=zgw rv;have hin:∀ n,n≤Rep.depth α+Rep.depth β→A.in1.units+n < cLine:=fun n hn=>yaW (ybf zbQ _) (by omega);have c1:=Rep.eq (A:=A.in1) I (hin _ (by omega)) e1 f1 ru1 rv1;have c2:=Rep.eq (A:=A.in1) I (hin _ (by omega)) e2 f2 ru2 rv2;have:=RcNeAt.tuples (A:=A) (s:=s) (l:=a) (b:=b) (items:=#[u1,u2]) (items2:=#[v1,v2]) (e:=fun j=>if j=0 then (Rep.dec p.1 q.1).decide else (Rep.dec p.2 q.2).decide) pu pv (by omega) (by
  intro j h1 h2;have h1':j < 2:=h1;have z:j=0∨j=1:=by omega
  rcases z with rfl | rfl
  ·exact c1
  ·exact c2)
 have e:((List.range (min (#[u1,u2]:Array Value).size (#[v1,v2]:Array Value).size)).all (fun j=>if j=0 then (Rep.dec p.1 q.1).decide else (Rep.dec p.2 q.2).decide) && (#[u1,u2]:Array Value).size == (#[v1,v2]:Array Value).size)=decide (p=q):=by
  obtain ⟨p1,p2⟩:=p;obtain ⟨s1,s2⟩:=q;show (((List.range 2).all fun j=>if j=0 then (Rep.dec p1 s1).decide else (Rep.dec p2 s2).decide) && true)=_
  rw[show List.range 2=[0,1] from rfl];simp only[ybM,List.all_nil,yci,if_true];rw[if_neg (by decide)];by_cases z1:p1=s1
  ·by_cases z2:p2=s2
   ·subst z1 z2;simp
   ·subst z1;simp[z2]
  ·simp[z1]
 rw[e]at this;exact this
theorem zqr (I:Inv X pins σ H s)(hu:A.units+(Rep.depth α+Rep.depth β+1) < cLine)(h1:hasP X.K H p x)(h2:hasP X.K H q y)(r1:RelV x u)(r2:RelV y v):EqAt A s u v (decide (p=q)):=by
 have rc:=zmM (A:=A) I hu h1 h2 r1 r2;have h1':=id h1;have h2':=id h2;obtain ⟨a,x1,x2,rfl,q1,e1,e2⟩:=h1;obtain ⟨b,y1,y2,rfl,q2,f1,f2⟩:=h2;cases r1
 cases r2
 by_cases hab:a=b
 ·subst hab;rw[yaj (zkf I h1' h2')];exact EqAt.same _
 ·exact EqAt.of_refs hab rc
end
instance {α β:Type} [Rep α] [Rep β]:Rep (α×β) where
 dec:=inferInstance
 depth:=Rep.depth α+Rep.depth β+1
 has:=hasP
 mono:=fun e ⟨a,x,y,h1,h2,h3,h4⟩=>⟨a,x,y,h1,e _ _ h2 (fun _ z=>nomatch z),Rep.mono e h3,Rep.mono e h4⟩
 inj:=fun I h1 h2=>zkf I h1 h2
 rc:=fun I hu h1 h2 r1 r2=>zmM I hu h1 h2 r1 r2
 rn:=fun I hu h1 h2 r1 r2=>zqq I hu h1 h2 r1 r2
 eq:=fun I hu h1 h2 r1 r2=>zqr I hu h1 h2 r1 r2
theorem huD {A:Around}{k:Nat}{α:Type}[Rep α](hr:Room k A)(h:Rep.depth α≤64:=by decide):A.units+Rep.depth α < cLine:=yaW (yct h _) hr.units
def rEqD (α:Type)[Rep α](K:Frag):R2:=fun x y H Q=>∃ a b:α,Rep.has K H a x∧Rep.has K H b y∧Q (.bl (decide (a=b))) H
def rNeD (α:Type)[Rep α](K:Frag):R2:=fun x y H Q=>∃ a b:α,Rep.has K H a x∧Rep.has K H b y∧Q (.bl (!decide (a=b))) H
section
variable {X:Cx}
theorem zry (α:Type)[Rep α](hu:X.A.units+Rep.depth α < cLine):OpR X (compareOp .Eq) (rEqD α X.K):=by
 intro pins s σ H x y v u Q I rx ry h;obtain ⟨a,b,ha,hb,q⟩:=h;refine Rep.rc I hu ha hb rx ry X.prog X.w X.xe _ ⟨.bl _,H,I,rfl,?_⟩;have e:(Rep.dec a b).decide=decide (a=b):=rfl;rw[e];exact q
theorem zj2 (α:Type)[Rep α](hu:X.A.units+Rep.depth α < cLine):OpR X (compareOp .NotEq) (rNeD α X.K):=by
 intro pins s σ H x y v u Q I rx ry h;obtain ⟨a,b,ha,hb,q⟩:=h;refine Rep.rn I hu ha hb rx ry X.prog X.w X.xe _ ⟨.bl _,H,I,rfl,?_⟩;have e:(Rep.dec a b).decide=decide (a=b):=rfl;rw[e];exact q
end
end L2
namespace L2
open PySem PySem.Spec PyProof.Rows
section
variable {X:Cx}{pins:List (Addr×Obj)}{σ:St}{H:Hp}{s:Shared}{h':Heap}
theorem Inv.turnedNew {t':Nat}{fp:List Addr}{p:Addr}{o:HO}(I:Inv X pins σ H s)(k:∀ b ob,b∉fp→s.heap.get? b=some ob→h'.get? b=some ob)(hf:∀ b∈fp,FpOk X pins H b)
  (hp:s.heap.objs.size≤p) (new:zbe X.prog X.w (upd H p o) h' p o):Inv X pins σ (upd H p o) { s with heap:=h',toks:=t' }:=by
 have hn:H p=none:=I.hok.fresh hp;have nfp:∀ b u,H b=some u→b∉fp:=fun b u e z=>by rw[(hf b z).1]at e;cases e
 have nep:∀ b ob,s.heap.get? b=some ob→b≠p:=fun b ob e=>yam (yaz (yae e) hp);refine I.step (g':=s.gens) (d':=s.drawn) (ch:=fp) (fun b hb=>?_) (fun b ob _ _ hc e _=>k b ob hc e) (fun b ob _ _ hc e _=>⟨ob.slots,k b ob hc e⟩) (fun b ob _ e n=>by rw[zaj (nep b ob e)];exact n)
  (fun b ob hc e=>⟨ob,k b ob hc e⟩) (fun b xs e=>by rw[zaj (zad e hn)];exact e) (fun b ob u e=>by rw[zaj (zad e hn)];exact e) (fun b ps e=>⟨#[],by rw[zaj (zad e hn),e];simp⟩) (fun m hm=>?_) (fun b u e=>?_) I.bare
 ·obtain ⟨_,h2,_,h4,h5,h6⟩:=hf b hb;exact ⟨h4,h2,h5,h6⟩
 ·obtain ⟨ob,es,ep,ho,r⟩:=hm;exact ⟨ob,es,ep,k _ ob (fun z=>(hf _ z).2.1 rfl) ho,r⟩
 ·by_cases hb:b=p
  ·subst hb;rw[zac]at e;cases e;exact new
  ·rw[zaj hb]at e;refine (I.hok b u e).stay (fun c v hc q=>k c v ?_ q) (fun c q=>by rw[zaj (zad q hn)];exact q) fun c xs q=>by rw[zaj (zad q hn)];exact q
   rcases hc with z | z
   ·rw[z];exact nfp b u e
   ·exact nfp c _ z
theorem zlr {P:Program}{w:World}{H:Hp}{h:Heap}{p:Addr}{x y:V}{u v:Value}(rx:RelV x u)(ry:RelV y v)(e:h.get? p=some { cls:=.type "tuple",data:=.seq #[u,v] }):zbe P w H h p (.tup [x,y]):=
 ⟨by show 2≤sizeLine;decide,[u,v],.cons rx (.cons ry .nil),_,e,rfl,0,rfl⟩
end
def Ite (K:Frag)(a:Addr):It:=
 ⟨fun i H=>∃ xs x,SqL K H a xs∧xs[i]?=some x,fun i H x H'=>∃ p y,x=.ref p∧H p=none∧(∀ xs,SqL K H a xs→xs[i]?=some y)∧H'=upd H p (.tup [.int i,y]),fun i H=>∃ xs,SqL K H a xs∧xs.length≤i⟩
theorem zlo {P:Program}{w:World}{K:Frag}{es:List Expr}{k0}{pos:Pos}(a it e:Addr)(hne:e≠it):Turn P w K (.Tuple es k0 pos) (Ite K a) [e,it] e (fun i h=>(∃ old,IsEnum h e it i old)∧h.IsListIter it a i) where
 mem:=by simp
 obj:=fun i h st b hb=>by
  obtain ⟨⟨old,he⟩,o,ho,c,d⟩:=st;rcases yah.mp hb with z | z
  ·subst z;exact ⟨_,he,fun v z=>by cases z⟩
  ·have z:=yal.mp z;subst z;exact ⟨o,ho,fun v z=>by rw[d]at z;cases z⟩
 keep:=fun i h h' st k=>by
  obtain ⟨⟨old,he⟩,hi⟩:=st;exact ⟨⟨old,k e (by simp) _ he⟩,hi.at fun o q=>k it (by simp) o q⟩
 item:=by
  intro X hP hw hK hc i pins s σ H E I hf st hg;subst hP hw hK;obtain ⟨⟨old,he⟩,hi⟩:=st;obtain ⟨xs,x,hq,hx⟩:=hg;obtain ⟨its,rv,p,hz⟩:=I.list hq;obtain ⟨u,hu,ru⟩:=rv.get hx;refine wpAny_pyNext_enum_item he hi p.isList (x:=u) (by simpa using hu) hne fun h1 he1 hi1 ht1 _ k1=>?_;refine ⟨_,rfl,wpAny_letOwnedTupleGo_enum (s:={ s with heap:=h1,toks:=s.toks+1 }) he1 fun h2 he2 sb=>?_⟩;have np:s.heap.objs.size≠e:=ybi (yae he);have ht2:h2.get? s.heap.objs.size=some { cls:=.type "tuple",data:=.seq #[.int i s.toks,u] }:=(sb.2 _ np).trans ht1;have I2:Inv X pins σ (upd H s.heap.objs.size (.tup [.int i,x])) { s with heap:=h2,toks:=s.toks+1 }:=
   I.turnedNew (fp:=[e,it]) (fun b ob hb q=>(sb.2 b (fun z=>hb (by simp[z]))).trans (k1 b ob (fun z=>hb (by simp[z])) (fun z=>hb (by simp[z])) q)) hf (yaa _) (zlr ⟨_,rfl⟩ ru ht2)
  refine ⟨.ref s.heap.objs.size,_,I2,rfl,⟨_,x,rfl,I.hok.fresh (yaa _),fun ys hy=>by rw[I.list_inj hy hq];exact hx,rfl⟩,⟨⟨u,?_⟩,?_⟩,fun b hb=>?_⟩
  ·have z:IsEnum h2 e it ((i:Int)+1) u:=he2;exact z
  ·exact hi1.at fun o q=>(sb.2 it (Ne.symm hne)).trans q
  ·have z:=(hf b hb).1;rw[zaj ?_]
   ·exact z
   ·rcases yah.mp hb with q | q
    ·rw[q];exact Ne.symm np
    ·rw[yal.mp q];obtain ⟨o,ho,_⟩:=hi;exact yam (yae ho)
 done:=by
  intro X hP hw hK hc i pins s σ H E I hf st hg;subst hP hw hK;obtain ⟨⟨old,he⟩,hi⟩:=st;obtain ⟨xs,hq,hx⟩:=hg;obtain ⟨its,rv,p,hz⟩:=I.list hq;obtain ⟨f0,f1,f2,f3,f4,f5⟩:=hf it (by simp);have hl:=rv.length;exact wpAny_pyNext_enum_end (I.ok.hd hc) he hi p.isList (by simp;omega) fun h' eb=>⟨rfl,I.turned (t':=s.toks) (fun b o hb q=>eb b o hb q) f0 f1 f3 f4 f5⟩
 self:=fun _ _ _ _ _ st h=>by
  obtain ⟨⟨old,he⟩,_⟩:=st;exact wpAny_pyIter_enum he h
def zsI (K:Frag)(ta:TA):TI:=fun σ H R=>ta σ H fun vs H1=>∃ a,vs=[.ref a]∧(∃ xs,SqL K H1 a xs)∧R (Ite K a) H1
section
variable {X:Cx}
theorem zic {es:List Expr}{k0}{tp:Pos}{a:Expr}{ta:TA}{p pos:Pos}(hg:Gl X "enumerate")(hm:X.mg "enumerate" = none)(ha:PA X [a] ta)(hs:starEach [a] X.env=[(false,eval a X.env)]:=by rfl):PI X (.Tuple es k0 tp) (.Call (.Name "enumerate" p) [a] [] pos) (zsI X.K ta):=by
 intro pins s σ H R I h;refine Call_ (zfe I hg hm boot_enumerate (PyProof.Rows.callWith_type1 (thn (ha pos pins s σ H _ I h) fun us s1 zq0=>?_) hs rfl));obtain ⟨vs,H1,I1,r1,q1⟩:=zq0;obtain ⟨l,e,⟨xs,hq⟩,q⟩:=q1;subst e;cases r1 with
 | cons r rr=>
  cases rr
  cases r
  obtain ⟨its,rv,pl,hz⟩:=I1.list hq;refine call_enumerate_list pl.isList fun h' he hi _ hk=>?_;have I2:Inv X pins σ H1 { s1 with heap:=h' }:=I1.kept (t':=s1.toks) hk;refine wpAny_pyIter_enum (s:={ s1 with heap:=h' }) he ⟨_,[s1.heap.objs.size+1,s1.heap.objs.size],_,_,H1,rfl,I2,zlo l s1.heap.objs.size (s1.heap.objs.size+1) (Nat.succ_ne_self _),⟨⟨_,he⟩,hi⟩,fun b hb=>?_,q⟩;have hb':s1.heap.objs.size≤b:=by
   rcases yah.mp hb with z | z
   ·rw[z];exact ybb _
   ·rw[yal.mp z];exact yaa _
  exact I1.fpOk hb' (I1.hok.fresh hb')
end
theorem zoz {K:Frag}{a:Addr}{xs:List V}{g:TG}{tb:TS}{D:Ends}{σ:St}{H:Hp}(Pv:Nat→St→Hp→Prop)(h0:Pv 0 σ H)(hl:∀ i σ H,i≤xs.length→Pv i σ H→SqL K H a xs)
  (hs:∀ i x σ H p,xs[i]?=some x→Pv i σ H→H p=none→g (.ref p) σ (upd H p (.tup [.int i,x])) fun σ2 H2=>tb { D with nx:=Pv (i+1),ct:=Pv (i+1),bk:=D.nx } σ2 H2) (hd:∀ σ H,Pv xs.length σ H→D.nx σ H) :
  ∃ W:Nat→Nat→St→Hp→Prop,(∃ m,W 0 m σ H)∧∀ i m σ H,W i m σ H→((Ite K a).stop i H∧D.nx σ H)∨((Ite K a).go i H∧∃ N:St→Hp→Prop,(∀ σ' H',N σ' H'→∃ m',m' < m∧W (i+1) m' σ' H')∧∀ x H',(Ite K a).yld i H x H'→g x σ H' fun σ2 H2=>tb { D with nx:=N,ct:=N,bk:=D.nx } σ2 H2):=by
 refine ⟨fun i m σ H=>i+m=xs.length∧Pv i σ H,⟨xs.length,by omega,h0⟩,fun i m σ H zq0=>?_⟩;obtain ⟨e,pv⟩:=zq0;have hS:=hl i σ H (by omega) pv;by_cases hi:i < xs.length
 ·refine .inr ⟨⟨xs,xs[i],hS,yac hi⟩,Pv (i+1),fun σ' H' q=>⟨m - 1,by omega,by omega,q⟩,fun x H' y=>?_⟩;obtain ⟨p,z,rfl,hp,hz,rfl⟩:=y;exact hs i z σ H p (hz xs hS) pv hp
 ·have:i=xs.length:=by omega
  subst this;exact .inl ⟨⟨xs,hS,yaa _⟩,hd σ H pv⟩
def Itz (K:Frag)(a b:Addr):It:=
 ⟨fun i H=>∃ xs ys x y,SqL K H a xs∧SqL K H b ys∧xs[i]?=some x∧ys[i]?=some y,fun i H x H'=>∃ p y z,x=.ref p∧H p=none∧(∀ xs,SqL K H a xs→xs[i]?=some y)∧(∀ xs,SqL K H b xs→xs[i]?=some z)∧H'=upd H p (.tup [y,z]),fun i H=>∃ xs ys,SqL K H a xs∧SqL K H b ys∧(xs.length≤i∨ys.length≤i)⟩
theorem zns {P:Program}{w:World}{K:Frag}{es:List Expr}{k0}{pos:Pos}{a b z TI TO i1 i2:Addr}(D:ZipApart z TI TO i1 i2 a b):Turn P w K (.Tuple es k0 pos) (Itz K a b) [z,TI,TO,i1,i2] z
  (fun i h=>IsZip h z TI TO .none∧IsPair h TI (.ref i1) (.ref i2)∧(∃ u v,IsPair h TO u v)∧h.IsListIter i1 a i∧h.IsListIter i2 b i) where
 mem:=by simp
 obj:=fun i h st c hc=>by
  obtain ⟨hz,hTI,⟨u,v,hTO⟩,⟨o1,e1,_,d1⟩,⟨o2,e2,_,d2⟩⟩:=st;simp only[yah,yaQ,or_false]at hc;rcases hc with rfl | rfl | rfl | rfl | rfl
  ·exact ⟨_,hz,fun v q=>by cases q⟩
  ·exact ⟨_,hTI,fun v q=>by cases q⟩
  ·exact ⟨_,hTO,fun v q=>by cases q⟩
  ·exact ⟨o1,e1,fun v q=>by rw[d1]at q;cases q⟩
  ·exact ⟨o2,e2,fun v q=>by rw[d2]at q;cases q⟩
 keep:=fun i h h' st k=>by
  obtain ⟨hz,hTI,⟨u,v,hTO⟩,h1,h2⟩:=st;exact ⟨k z (by simp) _ hz,k TI (by simp) _ hTI,⟨u,v,k TO (by simp) _ hTO⟩,h1.at fun o q=>k i1 (by simp) o q,h2.at fun o q=>k i2 (by simp) o q⟩
 item:=by
  intro X hP hw hK hc i pins s σ H E I hf st hg;subst hP hw hK;obtain ⟨hz,hTI,⟨u0,v0,hTO⟩,h1,h2⟩:=st;obtain ⟨xs,ys,x,y,hqa,hqb,hx,hy⟩:=hg;obtain ⟨its,rv,p,_⟩:=I.list hqa;obtain ⟨jts,rw',p',_⟩:=I.list hqb;obtain ⟨u,hu,ru⟩:=rv.get hx;obtain ⟨v,hv,rv'⟩:=rw'.get hy;refine wpAny_pyNext_zip_item D hz hTI hTO h1 h2 p.isList p'.isList (x:=u) (y:=v) (by simpa using hu) (by simpa using hv) fun h1' hz1 hTO1 hi1 hi2 ht1 _ k1=>?_;refine ⟨_,rfl,wpAny_letOwnedTupleGo_zip (s:={ s with heap:=h1' }) hz1 fun h2' hz2 sb=>?_⟩;have np:s.heap.objs.size≠z:=ybi (yae hz);have ht2:h2'.get? s.heap.objs.size=some { cls:=.type "tuple",data:=.seq #[u,v] }:=(sb.2 _ np).trans ht1;have I2:Inv X pins σ (upd H s.heap.objs.size (.tup [x,y])) { s with heap:=h2',toks:=s.toks }:=
   I.turnedNew (fp:=[z,TI,TO,i1,i2]) (fun c ob hb q=>(sb.2 c (fun r=>hb (by simp[r]))).trans (k1 c ob (fun r=>hb (by simp[r])) (fun r=>hb (by simp[r])) (fun r=>hb (by simp[r])) (fun r=>hb (by simp[r])) q)) hf (yaa _) (zlr ru rv' ht2)
  refine ⟨.ref s.heap.objs.size,_,I2,rfl,⟨_,x,y,rfl,I.hok.fresh (yaa _),fun ys hy'=>by rw[I.list_inj hy' hqa];exact hx,fun ys hy'=>by rw[I.list_inj hy' hqb];exact hy,rfl⟩,⟨hz2,(sb.2 _ D.TIz).trans (k1 TI _ D.TIz D.TITO D.TIi1 D.TIi2 hTI),⟨_,_,(sb.2 _ D.TOz).trans hTO1⟩,hi1.at fun o q=>(sb.2 i1 D.i1z).trans q,hi2.at fun o q=>(sb.2 i2 D.i2z).trans q⟩,fun c hb=>?_⟩;have zf:=(hf c hb).1;have lt:c < s.heap.objs.size:=by
   simp only[yah,yaQ,or_false]at hb;obtain ⟨o1,e1,_⟩:=h1;obtain ⟨o2,e2,_⟩:=h2;rcases hb with rfl | rfl | rfl | rfl | rfl
   ·exact yae hz
   ·exact yae hTI
   ·exact yae hTO
   ·exact yae e1
   ·exact yae e2
  rw[zaj (yam lt)];exact zf
 done:=by
  intro X hP hw hK hc i pins s σ H E I hf st hg;subst hP hw hK;obtain ⟨hz,hTI,⟨u0,v0,hTO⟩,h1,h2⟩:=st;obtain ⟨xs,ys,hqa,hqb,hend⟩:=hg;obtain ⟨its,rv,p,_⟩:=I.list hqa;obtain ⟨jts,rw',p',_⟩:=I.list hqb;have l1:=rv.length;have l2:=rw'.length;refine wpAny_pyNext_zip_end (I.ok.hd hc) D hz hTI hTO h1 h2 p.isList p'.isList (by
   rcases hend with q | q
   ·left;simp;omega
   ·right;simp;omega) fun h' kk=>⟨rfl,?_⟩
  refine I.step (g':=s.gens) (d':=s.drawn) (t':=s.toks) (ch:=[z,TI,TO,i1,i2]) (fun c hb=>?_) (fun c ob _ _ hn q _=>kk c ob (fun r=>hn (by simp[r])) (fun r=>hn (by simp[r])) (fun r=>hn (by simp[r])) (fun r=>hn (by simp[r])) q)
   (fun c ob _ _ hn q _=>⟨ob.slots,kk c ob (fun r=>hn (by simp[r])) (fun r=>hn (by simp[r])) (fun r=>hn (by simp[r])) (fun r=>hn (by simp[r])) q⟩) (fun _ _ _ _ n=>n)
   (fun c ob hn q=>⟨ob,kk c ob (fun r=>hn (by simp[r])) (fun r=>hn (by simp[r])) (fun r=>hn (by simp[r])) (fun r=>hn (by simp[r])) q⟩) (fun _ _ q=>q) (fun _ _ _ q=>q) (fun c ps q=>⟨#[],by rw[q];simp⟩) (fun m hm=>?_) (fun c u e=>?_) I.bare
  ·obtain ⟨_,q2,_,q4,q5,q6⟩:=hf c hb;exact ⟨q4,q2,q5,q6⟩
  ·obtain ⟨ob,es,ep,ho,r⟩:=hm;have nL:∀ c∈[z,TI,TO,i1,i2],X.env.locals≠c:=fun c hc=>Ne.symm (hf c hc).2.1;exact ⟨ob,es,ep,kk _ ob (nL z (by simp)) (nL TO (by simp)) (nL i1 (by simp)) (nL i2 (by simp)) ho,r⟩
  ·have nf:∀ c' u,H c'=some u→∀ q∈[z,TI,TO,i1,i2],c'≠q:=fun c' u e q hq r=>by rw[r,(hf q hq).1]at e;cases e
   refine (I.hok c u e).stay (fun c' v hc' q=>?_) (fun _ q=>q) fun _ _ q=>q;have go:∀ u',H c'=some u'→h'.get? c'=some v:=fun u' e'=>kk c' v (nf c' _ e' z (by simp)) (nf c' _ e' TO (by simp)) (nf c' _ e' i1 (by simp)) (nf c' _ e' i2 (by simp)) q;rcases hc' with r | r
   ·exact go u (by rw[r];exact e)
   ·exact go _ r
 self:=fun _ _ _ _ _ st h=>wpAny_pyIter_zip st.1 h
theorem zlc {l l' n:Nat}(hl:l < n)(hl':l' < n):ZipApart (n+4) (n+2) (n+3) n (n+1) l l':=by
 constructor <;> (intro z;have z':(_:Nat)=_:=z;omega)
theorem zqQ {n c:Nat}(h:c∈[n+4,n+2,n+3,n,n+1]):n≤c:=by
 simp only[yah,yaQ,or_false]at h;omega
def iZip (K:Frag)(ta:TA):TI:=fun σ H R=>ta σ H fun vs H1=>∃ a b,vs=[.ref a,.ref b]∧(∃ xs,SqL K H1 a xs)∧(∃ xs,SqL K H1 b xs)∧R (Itz K a b) H1
section
variable {X:Cx}
theorem zro {es:List Expr}{k0}{tp:Pos}{a b:Expr}{ta:TA}{p pos:Pos}(hg:Gl X "zip")(hm:X.mg "zip" = none)(ha:PA X [a,b] ta)(hs:starEach [a,b] X.env=[(false,eval a X.env),(false,eval b X.env)]:=by rfl)(hs2:starEach [b] X.env=[(false,eval b X.env)]:=by rfl):PI X (.Tuple es k0 tp) (.Call (.Name "zip" p) [a,b] [] pos) (iZip X.K ta):=by
 intro pins s σ H R I h;refine Call_ (zfe I hg hm boot_zip (PyProof.Rows.callWith_type1 (thn (ha pos pins s σ H _ I h) fun us s1 zq0=>?_) (by rw[hs,hs2]) (by rw[hs2];rfl)));obtain ⟨vs,H1,I1,r1,q1⟩:=zq0;obtain ⟨l,l',e,⟨xs,hq⟩,⟨ys,hq'⟩,q⟩:=q1;subst e;cases r1 with
 | cons r rr=>
  cases rr with
  | cons r' rr=>
   cases rr
   cases r
   cases r'
   obtain ⟨its,rv,pl,hz⟩:=I1.list hq;obtain ⟨jts,rv',pl',hz'⟩:=I1.list hq';have hl:l < s1.heap.objs.size:=by obtain ⟨o,_,e,_⟩:=pl;exact yae e
   have hl':l' < s1.heap.objs.size:=by obtain ⟨o,_,e,_⟩:=pl';exact yae e
   refine call_zip_2 pl.isList pl'.isList fun h' hz hTI hTO hi hi' _ hk=>?_;have I2:Inv X pins σ H1 { s1 with heap:=h' }:=I1.kept (t':=s1.toks) hk;refine wpAny_pyIter_zip (s:={ s1 with heap:=h' }) hz ⟨_,[s1.heap.objs.size+4,s1.heap.objs.size+2,s1.heap.objs.size+3,s1.heap.objs.size,s1.heap.objs.size+1],_,_,H1,rfl,I2,zns (zlc hl hl'),⟨hz,hTI,⟨_,_,hTO⟩,hi,hi'⟩,fun c hb=>?_,q⟩;have hb':s1.heap.objs.size≤c:=zqQ hb;exact I1.fpOk hb' (I1.hok.fresh hb')
end
end L2
namespace L2
open PySem PySem.Spec PyProof.Rows
def zbS (X:Cx)(N:List Str)(scope:Scope)(cl:List (Str×Addr))(C:Addr)(s₂:Shared)(H₂:Hp)(fp:List Addr):Cx:=
 { X with N:=N,s₀:=s₂,H₀:=H₂,env:=compEnvC scope cl C X.env,outer:=X.stack,stack:=X.stack,ex:=fp,fn:=fun _=>false,xe:=fun _ _=>False }
structure ziF (scope:Scope)(env:Env)(cl:List (Str×Addr)):Prop where
 eq:closureFor scope env=pure cl
 sub:∀ x c,cl.lookup x=some c→env.cells.lookup x=some c
 has:∀ x,(x,NameKind.free)∈scope.names→∃ c,cl.lookup x=some c
theorem zgm {env:Env}:∀(names:List (Str×NameKind)) (cs:List (Str×Addr)),(∀ x,(x,NameKind.free)∈names→∃ c,env.cells.lookup x=some c)→(∀ x c,cs.lookup x=some c→env.cells.lookup x=some c)→
  ∃ cl:List (Str×Addr),(forIn names cs (fun (x:Str×NameKind) (r:List (Str×Addr))=>if (x.2 == NameKind.free)=true then (do let c ← cellOf env x.1;pure (ForInStep.yield ((x.1,c)::r))) else pure (ForInStep.yield r)):Sem (List (Str×Addr)))=pure cl∧
   (∀ x c,cl.lookup x=some c→env.cells.lookup x=some c)∧(∀ x c,cs.lookup x=some c→∃ c',cl.lookup x=some c')∧∀ x,(x,NameKind.free)∈names→∃ c,cl.lookup x=some c
 | [],cs,_,h2=>⟨cs,by rw[List.forIn_nil],h2,fun x c e=>⟨c,e⟩,fun _ z=>nomatch z⟩
 | (n,k)::r,cs,h1,h2=>by
  by_cases hk:k=.free
  ·subst hk;obtain ⟨c,hc⟩:=h1 n yaA;have hn:∀ x c',((n,c)::cs).lookup x=some c'→env.cells.lookup x=some c':=fun x c' e=>by
    rw[ya2]at e;cases hx:x == n with
    | true=>
     rw[hx]at e;cases e
     rw[eq_of_beq hx];exact hc
    | false=>
     rw[hx]at e;exact h2 x c' e
   obtain ⟨cl,e,s1,s2,s3⟩:=zgm r ((n,c)::cs) (fun x hx=>h1 x (yau _ hx)) hn;have here:∃ c',cl.lookup n=some c':=s2 n c (by rw[ya2,beq_self_eq_true]);refine ⟨cl,?_,s1,fun x c' q=>?_,fun x hx=>?_⟩
   ·rw[List.forIn_cons,if_pos (by rfl)];have q:cellOf env n=pure c:=by unfold cellOf;rw[hc]
    rw[q];simp only[pure_bind];exact e
   ·cases hxn:x == n with
    | true=>rw[eq_of_beq hxn];exact here
    | false=>exact s2 x c' (by rw[ya2,hxn];exact q)
   ·rcases yah.mp hx with z | z
    ·cases z;exact here
    ·exact s3 x z
  ·obtain ⟨cl,e,s1,s2,s3⟩:=zgm r cs (fun x hx=>h1 x (yau _ hx)) h2;refine ⟨cl,?_,s1,s2,fun x hx=>?_⟩
   ·have hb:(k == NameKind.free)=false:=by simpa using hk
    rw[List.forIn_cons,if_neg (by rw[hb];exact yaC)];simp only[pure_bind];exact e
   ·rcases yah.mp hx with z | z
    ·cases z;exact absurd rfl hk
    ·exact s3 x z
theorem zgl {scope:Scope}{env:Env}(h:∀ x,(x,NameKind.free)∈scope.names→∃ c,env.cells.lookup x=some c):∃ cl,ziF scope env cl:=by
 obtain ⟨cl,e,s1,_,s3⟩:=zgm scope.names [] h (fun _ _ z=>nomatch z);refine ⟨cl,?_,s1,s3⟩;unfold closureFor;exact (by simpa using e)
theorem zcn {env:Env}:∀{names:List (Str×NameKind)} {x:Str},names.lookup x=some .free→
  (names.map fun (n,k)=>if (k == NameKind.free && env.scope.kind == .function && env.kindOf n == some .cell) then (n,NameKind.cell) else (n,k)).lookup x=some .cell∨
  (names.map fun (n,k)=>if (k == NameKind.free && env.scope.kind == .function && env.kindOf n == some .cell) then (n,NameKind.cell) else (n,k)).lookup x=some .free
 | [],_,h=>by simp at h
 | (n,k)::r,x,h=>by
  have ih:=@zcn env r x;show List.lookup x ((if (k == NameKind.free && env.scope.kind == .function && env.kindOf n == some .cell)=true then (n,NameKind.cell) else (n,k))::_)=_∨List.lookup x ((if (k == NameKind.free && env.scope.kind == .function && env.kindOf n == some .cell)=true then (n,NameKind.cell) else (n,k))::_)=_
  cases hx:x == n with
  | true=>
   simp only[ya2,hx]at h;cases h
   by_cases hc:(NameKind.free == NameKind.free && env.scope.kind == .function && env.kindOf n == some .cell)=true
   ·rw[if_pos hc];left;simp only[ya2,hx]
   ·rw[if_neg hc];right;simp only[ya2,hx]
  | false=>
   simp only[ya2,hx]at h;by_cases hc:(k == NameKind.free && env.scope.kind == .function && env.kindOf n == some .cell)=true
   ·rw[if_pos hc];simp only[ya2,hx];exact ih h
   ·rw[if_neg hc];simp only[ya2,hx];exact ih h
theorem zd5 {env:Env}:∀{names:List (Str×NameKind)} {x:Str} {k':NameKind},(names.map fun (n,k)=>if (k == NameKind.free && env.scope.kind == .function && env.kindOf n == some .cell) then (n,NameKind.cell) else (n,k)).lookup x=some k'→k'=.cell∨k'=.free→
  (∀ y∈names,y.2≠.cell)→(x,NameKind.free)∈names
 | [],_,_,h,_,_=>by simp at h
 | (n,k)::r,x,k',h,hk,hc=>by
  have ih:=@zd5 env r x k';have h':List.lookup x ((if (k == NameKind.free && env.scope.kind == .function && env.kindOf n == some .cell)=true then (n,NameKind.cell) else (n,k))::r.map fun (n,k)=>if (k == NameKind.free && env.scope.kind == .function && env.kindOf n == some .cell) then (n,NameKind.cell) else (n,k))=some k':=h
  cases hx:x == n with
  | true=>
   have e:=eq_of_beq hx;subst e;by_cases hf:k=.free
   ·subst hf;exact yaA
   ·have hb:(k == NameKind.free)=false:=by simpa using hf
    rw[if_neg (by rw[hb];simp),ya2,hx]at h';cases h'
    rcases hk with z | z
    ·exact absurd z (hc (x,k) yaA)
    ·exact absurd z hf
  | false=>
   refine yau _ (ih ?_ hk fun y hy=>hc y (yau _ hy));by_cases hcd:(k == NameKind.free && env.scope.kind == .function && env.kindOf n == some .cell)=true
   ·rw[if_pos hcd,ya2,hx]at h';exact h'
   ·rw[if_neg hcd,ya2,hx]at h';exact h'
def ze7 (own:Nat)(cap:List Nat)(σ:St):St:=List.replicate own none++cap.map fun i=>(σ[i]?).getD none
structure zkp (X:Cx)(scope:Scope)(N:List Str)(own:Nat)(cap:List Nat):Prop where
 kind:scope.kind=.function
 nocell:(scope.names.all fun y=>y.2 != .cell)=true
 locs:(scope.names.all fun y=>y.2 != .local || scope.names.lookup y.1 == some .local)=true
 frees:(scope.names.all fun y=>y.2 != .free || (X.env.kindOf y.1 == some .cell || X.env.kindOf y.1 == some .free))=true
 len:N.length=own+cap.length
 caps:((List.range cap.length).all fun j=>(N[own+j]? == X.N[cap[j]!]?) && (match N[own+j]? with | some x=>scope.names.lookup x == some .free && (X.env.kindOf x == some .cell || X.env.kindOf x == some .free) | none=>false))=true
section
variable {prog:Program}{w:World}{A:Around}{R:Result→Shared→Prop}{s:Shared}
theorem zjj {elt target iter:Expr}{ifs:List Expr}{scope:Scope}{pos:Pos}{it acc:Value}{env:Env}(I:Nat→Shared→Prop)
  (turn:∀ n s,I n s→wpAny (model prog w) A (pyNext it) (fun r s₁=>match r with
   | none=>R (.ok .next) s₁
   | some v=>wpAny (model prog w) A (letOwnedTupleGo target it v) (fun _ s₁'=>wpAny (model prog w) A (assign target env v) (fun _ s₂=>
     wpAny (model prog w) A (forIn ifs true fun c r=>if r=true then do let ok ← isTrue c env (eval c env);pure (ForInStep.yield ok) else pure (ForInStep.yield r)) (fun ok s₃=>
      if ok=true then wpAny (model prog w) A (eval elt env) (fun x s₄=>
       wpAny (model prog w) A (call (.builtin "list.append") [acc,x]) (fun _ s₅=>∃ m,m < n∧I m s₅) (fun _ _=>False) s₄) (fun _ _=>False) s₃
      else ∃ m,m < n∧I m s₃) (fun _ _=>False) s₂) (fun _ _=>False) s₁') (fun _ _=>False) s₁) (fun _ _=>False) s)
  (n:Nat) (h:I n s) :
  codeAny (model prog w) A (.compLoop (.ListComp elt [⟨target,iter,ifs,0⟩] scope pos) 0 it acc env) R s:=by
 refine codeAny_loop rfl I (fun n s hI=>?_) n h;show wpAny _ A ((compTurn (.ListComp elt [⟨target,iter,ifs,0⟩] scope pos) 0 it acc env).onRaise (fun x=>do noteFrame x env;theTreesLotGoes x)) _ _ s
 refine wpAny_noted ?_;rw[compTurn_list];refine wpAny_bind (wpAny_standAt (wpAny_bind (wpAny_mono (turn n s hI) (fun r s₁ h₁=>?_) fun _ _ h'=>h'.elim)));cases r with
 | none=>exact wpAny_pure h₁
 | some v=>
  refine wpAny_bind (wpAny_mono h₁ (fun _ s₁' h₁'=>?_) fun _ _ h'=>h'.elim);refine wpAny_bind (wpAny_mono h₁' (fun _ s₂ h₂=>wpAny_bind (wpAny_mono h₂ (fun ok s₃ h₃=>?_) fun _ _ h'=>h'.elim)) fun _ _ h'=>h'.elim);cases ok with
  | true=>
   simp only[if_true]at h₃ ⊢;exact wpAny_bind (wpAny_bind (wpAny_mono h₃ (fun x s₄ h₄=>wpAny_bind (wpAny_mono h₄ (fun _ s₅ h₅=>wpAny_pure (wpAny_pure ⟨rfl,h₅⟩)) fun _ _ h'=>h'.elim)) fun _ _ h'=>h'.elim))
  | false=>
   simp only[yaL,if_false]at h₃ ⊢;exact wpAny_pure ⟨rfl,h₃⟩
end
section
variable {X:Cx}
def PTs (X:Cx)(ifs:List Expr)(t:TT):Prop:=
 ∀(pins:List (Addr×Obj)) (s:Shared) (σ:St) (H:Hp) (Q:Bool→Hp→Prop),Inv X pins σ H s→t σ H Q→
  wpAny (model X.prog X.w) X.A (forIn ifs true fun c r=>if r=true then do let ok ← isTrue c X.env (eval c X.env);pure (ForInStep.yield ok) else pure (ForInStep.yield r)) (TP X pins σ Q) X.xe s
def tYes:TT:=fun _ H Q=>Q true H
theorem zc2:PTs X [] tYes:=fun _ _ _ H _ I h=>wpAny_tests_nil ⟨H,I,h⟩
theorem zeR {c:Expr}{t:TT}(h:PT X c t):PTs X [c] t:=fun pins s σ H Q I q=>wpAny_tests_one (h pins s σ H Q I q)
theorem zoq {pins:List (Addr×Obj)}{σ:St}{H:Hp}{s:Shared}{N:List Str}{own:Nat}{cap:List Nat}{scope:Scope}{cl:List (Str×Addr)}{C:Addr}{fp:List Addr}{h₁:Heap}{tk:Nat}{D:Addr}
  (I:Inv X pins σ H s) (c:zkp X scope N own cap) (hcl:ziF scope X.env cl) (f:∀ b∈fp,FpOk X pins H b) (hD:s.heap.objs.size≤D) (hC:s.heap.objs.size≤C) (hCD:D≠C)
  (kp:∀ b o,s.heap.get? b=some o→h₁.get? b=some o) (hnew:h₁.get? D=some { cls:=.type "list",data:=.seq #[] }) (hns:∃ m,h₁.Ns C m) (hfp:∀ b∈fp,b < s.heap.objs.size) (hcalm:X.calm=true) :
  Inv (zbS X N scope cl C s H fp) pins (ze7 own cap σ) (upd H D (.lst [])) { s with heap:=h₁,toks:=tk }:=by
 have hfr:H D=none:=I.hok.fresh hD;have hfrC:H C=none:=I.hok.fresh hC;have sz:∀ b o,s.heap.get? b=some o→b≠D∧b≠C:=fun b o e=>⟨yam (yaz (yae e) hD),yam (yaz (yae e) hC)⟩;have cells:∀ x cc,cl.lookup x=some cc→∃ v,s.heap.IsCell cc v:=fun x cc e=>I.cell x cc (hcl.sub x cc e);have cellne:∀ x cc,cl.lookup x=some cc→cc≠D∧cc≠C:=fun x cc e=>by
  obtain ⟨v,o,ho,_⟩:=cells x cc e;exact sz cc o ho
 have ok:(zbS X N scope cl C s H fp).Ok:=by
  refine ⟨I.ok.mod,c.kind,I.ok.glob,I.ok.blt,hC,fun x y cc e1 e2=>I.ok.inj x y cc (hcl.sub x cc e1) (hcl.sub y cc e2),fun x hx=>?_,(fun x cc z _=>nomatch z),I.ok.hd,I.ok.frames,.inl rfl,fun b hb=>?_,fun b o e=>I.bs b o e,?_,fun b o e hb=>?_,fun b hb z=>?_,I.stack,fun b hb=>I.stkFree b hb⟩
  ·have hm:(x,NameKind.free)∈scope.names:=by
    rcases hx with z | z
    ·exact zd5 (env:=X.env) (names:=scope.names) (x:=x) (k':=.cell) z (.inl rfl) fun y hy q=>by
      have:=yaR.mp c.nocell y hy;rw[q]at this;exact absurd this (by decide)
    ·exact zd5 (env:=X.env) (names:=scope.names) (x:=x) (k':=.free) z (.inr rfl) fun y hy q=>by
      have:=yaR.mp c.nocell y hy;rw[q]at this;exact absurd this (by decide)
   exact hcl.has x hm
  ·exact ⟨yam (yaz (hfp b hb) hC),fun x cc e z=>(f b hb).2.2.2.2.1 x cc (hcl.sub x cc e) z⟩
  ·exact yaB I.ok.bsz I.sz
  ·obtain ⟨_,_,_,h4,_⟩:=f b hb;rcases h4 with z | z
   ·exact I.ok.noex b o e z
   ·exact absurd (yaz (yae e) (yaB I.ok.bsz z)) (ybh _)
  ·obtain ⟨_,h2,h3,_⟩:=f b hb;rcases yah.mp (I.stkSub b z) with q | q
   ·exact h2 q
   ·exact h3 q
 have hokN:zbe X.prog X.w (upd H D (.lst [])) h₁ D (.lst []):=⟨yaH _,[],0,.nil,hnew⟩;refine ⟨ok,I.os.symm ▸ rfl,I.bare,Un.laid kp hD hfr,?_,fun x cc e=>?_,?_,fun x cc e=>?_,fun p hp=>?_,I.hok.laid kp hD hokN,?_⟩
 ·obtain ⟨m,hm⟩:=hns;refine ⟨m,hm,fun i x v e1 e2 e3=>?_⟩;have hi:own≤i:=by
   false_or_by_contra
   rename_i z;unfold ze7 at e2;rw[ybn (by rw[yby];omega),List.getElem?_replicate]at e2;split at e2 <;> cases e2
  obtain ⟨j,rfl⟩:∃ j,i=own+j:=⟨i - own,by omega⟩;have hj:j < cap.length:=by
   have:=(yap.mp e1).1;have z:=c.len;have this':own+j < N.length:=this;omega
  have hc:=yaR.mp c.caps j (ya5.mpr hj);have e1':N[own+j]?=some x:=e1;rw[e1']at hc;simp only[ybo,beq_iff_eq,Bool.or_eq_true]at hc;obtain ⟨hN,hf,hk⟩:=hc;have e2':σ[cap[j]!]?=some (some v):=by
   unfold ze7 at e2;rw[ybj (by rw[yby];omega),yby,show own+j - own=j by omega,yaq]at e2;have g:cap[j]! = cap[j]:=by simp[hj]
   rw[yac hj,Option.map_some]at e2;rw[g];have e2:=yad e2;cases q:σ[cap[j]]? with
   | none=>rw[q]at e2;cases e2
   | some z=>rw[q]at e2;exact congrArg some e2
  obtain ⟨m0,_,hl⟩:=I.loc;obtain ⟨u,ru,lk⟩:=hl (cap[j]!) x v hN.symm e2' (by
   rcases hk with z | z
   ·exact .inr (.inl z)
   ·exact .inr (.inr z))
  refine ⟨u,ru,.inr ⟨zcn (env:=X.env) hf,?_⟩⟩;rcases lk with ⟨z,_⟩ | ⟨_,cc,ec,ic⟩
  ·rcases hk with q | q
   ·rw[q]at z;cases z
   ·rw[q]at z;cases z
  ·obtain ⟨c',hc'⟩:=hcl.has x (by
    have:(x,NameKind.free)∈scope.names:=by
     have hlk:=hf;obtain ⟨l1,l2,hs,hno⟩:=List.lookup_eq_some_iff.mp hlk;rw[hs];exact yaE _ yaA
    exact this)
   have:=hcl.sub x c' hc';rw[ec]at this;cases this
   obtain ⟨o,ho,hd⟩:=ic;exact ⟨cc,hc',o,kp cc o ho,hd⟩
 ·obtain ⟨v,o,ho,hd⟩:=cells x cc e;exact ⟨v,o,kp cc o ho,hd⟩
 ·show upd H D (.lst []) C=none;rw[zaj (Ne.symm hCD)];exact hfrC
 ·show upd H D (.lst []) cc=none;rw[zaj (cellne x cc e).1];exact I.freeC x cc (hcl.sub x cc e)
 ·obtain ⟨e,n,ne,nf,d⟩:=I.pin p hp;refine ⟨kp _ _ e,?_,(sz _ _ e).2,fun z=>?_,d⟩
  ·show upd H D (.lst []) p.1=none;rw[zaj (sz _ _ e).1];exact n
  ·rcases yah.mp (I.stkSub p.1 z) with q | q
   ·exact ne q
   ·exact nf q
 ·show (ze7 own cap σ).length=N.length;unfold ze7;rw[yas,yby,yab,c.len]
def zq6 (own:Nat)(cap:List Nat)(wi:TI)(g:TG)(ts:TT)(te:TE):TE:=fun σ H Q=>wi σ H fun J H1=>∀ D,H1 D=none→∃ W:Nat→Nat→St→Hp→Prop,(∃ m,W 0 m (ze7 own cap σ) (upd H1 D (.lst [])))∧∀ i m σ H,W i m σ H→
 (J.stop i H∧Q (.ref D) H)∨(J.go i H∧∀ x H',J.yld i H x H'→g x σ H' fun σ2 H2=>ts σ2 H2 fun b H3=>if b=true then te σ2 H3 fun y H4=>∃ xs,H4 D=some (.lst xs)∧xs.length < sizeLine∧∃ m',m' < m∧W (i+1) m' σ2 (upd H4 D (.lst (xs++[y]))) else ∃ m',m' < m∧W (i+1) m' σ2 H3)
theorem ziv {pins:List (Addr×Obj)}{σ:St}{H2:Hp}{s2:Shared}{N:List Str}{own:Nat}{cap:List Nat}{scope:Scope}{cl:List (Str×Addr)}{fp:List Addr}{tg elt iter:Expr}{ifs:List Expr}{pos:Pos}{J:It}{it:Addr}{tn:Nat→Heap→Prop}{g:TG}{ts:TT}{te:TE}{Q:VK}
  {E:Value→Shared→Prop} {RR:Value→Addr→Result→Shared→Prop}
  (hcalm:X.calm=true) (c:zkp X scope N own cap) (hcl:ziF scope X.env cl)
  (hg:∀ cl C s₂ H₂ fp,PG (zbS X N scope cl C s₂ H₂ fp) tg g) (hts:∀ cl C s₂ H₂ fp,PTs (zbS X N scope cl C s₂ H₂ fp) ifs ts) (he:∀ cl C s₂ H₂ fp,PE (zbS X N scope cl C s₂ H₂ fp) elt te)
  (I2:Inv X pins σ H2 s2) (T:Turn X.prog X.w X.K tg J fp it tn) (st2:tn 0 s2.heap) (f2:∀ b∈fp,FpOk X pins H2 b)
  (rd:∀ D,H2 D=none→∃ W:Nat→Nat→St→Hp→Prop,(∃ m,W 0 m (ze7 own cap σ) (upd H2 D (.lst [])))∧∀ i m σ H,W i m σ H→
   (J.stop i H∧Q (.ref D) H)∨(J.go i H∧∀ x H',J.yld i H x H'→g x σ H' fun σ2 H2=>ts σ2 H2 fun b H3=>if b=true then te σ2 H3 fun y H4=>∃ xs,H4 D=some (.lst xs)∧xs.length < sizeLine∧∃ m',m' < m∧W (i+1) m' σ2 (upd H4 D (.lst (xs++[y]))) else ∃ m',m' < m∧W (i+1) m' σ2 H3))
  (hRR:∀ D C s' H',Inv X pins σ H' s'→(∃ m,s'.heap.Ns C m)→FpOk X pins H' C→Q (.ref D) H'→RR (.ref D) C (.ok .next) s') :
  wpAny (model X.prog X.w) X.A (newList []) (fun acc s₃=>wpAny (model X.prog X.w) X.A (newFunctionEnv scope X.env.globals cl [] X.env.qual none .none (some X.env)) (fun cenv s₄=>
   codeAny (model X.prog X.w) X.A (.compStart (.ListComp elt [⟨tg,iter,ifs,0⟩] scope pos) 0 (.ref it) acc { cenv with scope:=relabel scope X.env }) (RR acc cenv.locals) s₄) E s₃) E s2:=by
 have hcell:∀ y∈scope.names,y.2≠.cell:=fun y hy q=>by
  have:=yaR.mp c.nocell y hy;rw[q]at this;exact absurd this (by decide)
 have hfp:∀ b∈fp,b < s2.heap.objs.size:=fun b hb=>by
  obtain ⟨o,e,_⟩:=T.obj 0 _ st2 b hb;exact yae e
 refine wpAny_newObj_type (wpAny_newFunctionEnv hcell (by intro y hy;simp at hy) (fun h₁ hns₁ hsb₁=>?_) c.kind);dsimp only at hns₁ hsb₁ ⊢;generalize hHH:s2.heap.push { cls:=.type "list",dict:=none,data:=.seq ([]:List Value).toArray }=HH at hns₁ hsb₁ ⊢;have hC:HH.objs.size=s2.heap.objs.size+1:=by rw[← hHH,yb0]
 have hDC:s2.heap.objs.size≠HH.objs.size:=by rw[hC];exact yam (yb1 _)
 have hCle:s2.heap.objs.size≤HH.objs.size:=by rw[hC];exact ybb _
 have old:∀ b o,s2.heap.get? b=some o→h₁.get? b=some o:=fun b o e=>hsb₁.extBut b o (yam (by rw[hC];exact Nat.lt_succ_of_lt (yae e))) (yai _ (hHH ▸ yai _ e));have hnew:h₁.get? s2.heap.objs.size=some { cls:=.type "list",data:=.seq #[] }:=hsb₁.extBut _ _ hDC (yai _ (hHH ▸ yaD _ rfl));have I3:∀ tk,Inv (zbS X N scope cl HH.objs.size s2 H2 fp) pins (ze7 own cap σ) (upd H2 s2.heap.objs.size (.lst [])) { s2 with heap:=h₁,toks:=tk }:=fun tk=>
  zoq I2 c hcl f2 (yaa _) hCle hDC old hnew ⟨_,hns₁⟩ hfp hcalm
 obtain ⟨W,⟨m0,w0⟩,turn⟩:=rd s2.heap.objs.size (I2.hok.fresh (yaa _));have st3:tn 0 h₁:=T.keep _ _ _ st2 fun b _ o e=>old b o e;have fr3:∀ b∈fp,upd H2 s2.heap.objs.size (.lst []) b=none:=fun b hb=>by rw[zaj (yam (hfp b hb))];exact (f2 b hb).1
 have stat:∀{H':Hp},(∀ b∈fp,H' b=none)→∀ b∈fp,FpOk (zbS X N scope cl HH.objs.size s2 H2 fp) pins H' b:=fun hn b hb=>by
  obtain ⟨_,h2,h3,_,h5,h6⟩:=f2 b hb;refine ⟨hn b hb,yam (yaz (hfp b hb) hCle),fun z=>?_,.inl hb,fun x cc e=>h5 x cc (hcl.sub x cc e),h6⟩;rcases yah.mp (I2.stkSub b z) with q | q
  ·exact h2 q
  ·exact h3 q
 have loop:∀ s₃:Shared,s₃={ s2 with heap:=h₁,toks:=s2.toks+([]:List (Str×Value)).length }→
   codeAny (model X.prog X.w) X.A (.compLoop (.ListComp elt [⟨tg,iter,ifs,0⟩] scope pos) 0 (.ref it) (.ref s2.heap.objs.size) (compEnvC scope cl HH.objs.size X.env)) (RR (.ref s2.heap.objs.size) HH.objs.size) s₃:=by
  rintro s₃ rfl;refine zjj (fun n s'=>∃ i σ' H',Inv (zbS X N scope cl HH.objs.size s2 H2 fp) pins σ' H' s'∧tn i s'.heap∧(∀ b∈fp,H' b=none)∧W i n σ' H') ?_ m0 ⟨0,_,_,I3 _,st3,fr3,w0⟩;rintro n s3 ⟨i,σ3,H3,J3,t3,fr,w3⟩;rcases turn i n σ3 H3 w3 with ⟨stop,qn⟩ | ⟨go,step⟩
  ·refine thn (T.done (zbS X N scope cl HH.objs.size s2 H2 fp) rfl rfl rfl hcalm i pins s3 σ3 H3 (fun _ _=>False) J3 (stat fr) t3 stop) fun r s4 zq0=>?_;obtain ⟨hr,I4⟩:=zq0;subst hr;obtain ⟨mm,hmm,_⟩:=I4.loc;refine hRR _ _ s4 H3 (I2.call' I4.os I4.base I4.hok I4.bare fun b hb=>?_) ⟨mm,hmm⟩ (I2.fpOk hCle I4.free) qn;obtain ⟨_,h2,_,h4,h5,h6⟩:=f2 b hb;exact ⟨h4,h2,h5,h6⟩
  ·refine thn (T.item (zbS X N scope cl HH.objs.size s2 H2 fp) rfl rfl rfl hcalm i pins s3 σ3 H3 (fun _ _=>False) J3 (stat fr) t3 go) fun r s4 zq0=>?_;obtain ⟨u,hr,h4⟩:=zq0;subst hr;refine thn h4 fun _ s5 zq0=>?_;obtain ⟨x,H5,I5,r5,y5,st5,fr5⟩:=zq0;have I5':=I5.pinned (stat fr5) (T.obj _ _ st5);have back:∀{σ7:St} {H7:Hp} {s7:Shared} {m':Nat},Inv (zbS X N scope cl HH.objs.size s2 H2 fp) (pins++zib fp s5.heap) σ7 H7 s7→W (i+1) m' σ7 H7→∃ i σ' H',Inv (zbS X N scope cl HH.objs.size s2 H2 fp) pins σ' H' s7∧tn i s7.heap∧(∀ b∈fp,H' b=none)∧W i m' σ' H':=fun {σ7 H7 s7 m'} I7 w7=>by
    refine ⟨i+1,σ7,H7,I7.unpinned,T.keep _ _ _ st5 fun b hb o e=>(I7.pin (b,o) (yaE _ (yaE _ (zdP hb e)))).1,fun b hb=>?_,w7⟩;obtain ⟨o,e,d⟩:=T.obj _ _ st5 b hb;exact (I7.pin (b,o) (yaE _ (yaE _ (zdP hb e)))).2.1
   refine thn (hg cl HH.objs.size s2 H2 fp _ s5 σ3 H5 x u _ I5' r5 (step x H5 y5)) fun _ s6 zq0=>?_;obtain ⟨σ6,H6,I6,q6⟩:=zq0;refine thn (hts cl HH.objs.size s2 H2 fp _ s6 σ6 H6 _ I6 q6) fun b s7 zq0=>?_;obtain ⟨H7,I7,q7⟩:=zq0;cases b with
   | false=>
    rw[if_neg yaC]at q7 ⊢;obtain ⟨m',hm,w7⟩:=q7;exact ⟨m',hm,back I7 w7⟩
   | true=>
    rw[if_pos rfl]at q7 ⊢;refine thn (he cl HH.objs.size s2 H2 fp _ s7 σ6 H7 _ I7 q7) fun v s8 zq0=>?_;obtain ⟨y,H8,I8,r8,q8⟩:=zq0;obtain ⟨xs,hx,hz,m',hm,w8⟩:=q8;refine thn (zbO (X:=zbS X N scope cl HH.objs.size s2 H2 fp) _ s8 σ6 H8 (.ref s2.heap.objs.size) [y] (.ref s2.heap.objs.size) [v] (fun _ H9=>H9=upd H8 s2.heap.objs.size (.lst (xs++[y]))) I8 rfl (.cons r8 .nil) ⟨_,xs,y,rfl,rfl,hx,hz,rfl⟩) fun _ s9 zq0=>?_;obtain ⟨_,H9,I9,_,e9⟩:=zq0;subst e9;exact ⟨m',hm,back I9 w8⟩
 refine codeAny_compStart_list (loop _ rfl) ?_;exact T.self _ 0 _ _ _ st3 (loop _ rfl)
theorem zb5 {N:List Str}{own:Nat}{cap:List Nat}{scope:Scope}{tg elt iter:Expr}{ifs:List Expr}{pos:Pos}{wi:TI}{g:TG}{ts:TT}{te:TE}(hcalm:X.calm=true)(hi:PI X tg iter wi)(c:zkp X scope N own cap)
  (hg:∀ cl C s₂ H₂ fp,PG (zbS X N scope cl C s₂ H₂ fp) tg g) (hts:∀ cl C s₂ H₂ fp,PTs (zbS X N scope cl C s₂ H₂ fp) ifs ts) (he:∀ cl C s₂ H₂ fp,PE (zbS X N scope cl C s₂ H₂ fp) elt te)
  (hs:∀ x,foldedSetIterable iter X.env x=pure x:=by intro _;rfl):PE X (.ListComp elt [⟨tg,iter,ifs,0⟩] scope pos) (zq6 own cap wi g ts te):=by
 intro pins s σ H Q I h;obtain ⟨cl,hcl⟩:=zgl (scope:=scope) (env:=X.env) fun x hx=>I.ok.has x (by
  have:=yaR.mp c.frees _ hx;simpa using this)
 rw[eval_ListComp];refine wpAny_comprehension_free (use:=none) rfl hs hcl.eq c.kind (fun x hx hl=>by
  have:=yaR.mp c.locs x hx;rw[hl]at this;simpa using this) (thn (hi pins s σ H _ I h) fun v s1 h1=>thn h1 fun itv s2 h2=>?_)
 obtain ⟨it,fp,tn,J,H2,e,I2,T,st2,f2,rd⟩:=h2;subst e;refine ziv (RR:=fun acc C=>compPost (model X.prog X.w) X.A X.xe none (EP X pins σ Q) acc C) hcalm c hcl hg hts he I2 T st2 f2 rd ?_;intro D C s' H' I' hm fC q;obtain ⟨m,hm⟩:=hm;obtain ⟨f0,f1,f2,f3,f4,f5⟩:=fC;exact ⟨m,hm,fun h' hsb=>⟨.ref D,H',I'.turned (t':=s'.toks) (fun b o hb e=>(hsb.2 b hb).trans e) f0 f1 f3 f4 f5,rfl,q⟩⟩
theorem ziT {i:Nat}{x:Str}{N:List Str}{own:Nat}{cap:List Nat}{scope:Scope}{tg elt iter:Expr}{ifs:List Expr}{pos pos' spos:Pos}{wi:TI}{g:TG}{ts:TT}{te:TE}(hN:X.N.Nodup)(hxi:X.N[i]?=some x)(hx:X.env.scope.names.lookup x=some .local)(hcalm:X.calm=true)(hi:PI X tg iter wi)(c:zkp X scope N own cap)
  (hg:∀ cl C s₂ H₂ fp,PG (zbS X N scope cl C s₂ H₂ fp) tg g) (hts:∀ cl C s₂ H₂ fp,PTs (zbS X N scope cl C s₂ H₂ fp) ifs ts) (he:∀ cl C s₂ H₂ fp,PE (zbS X N scope cl C s₂ H₂ fp) elt te)
  (hsw:swapsWith (.ListComp elt [⟨tg,iter,ifs,0⟩] scope pos) (some (.Name x pos')) spos.line X.env=pure true:=by rfl)
  (hs:∀ x,foldedSetIterable iter X.env x=pure x:=by intro _;rfl):PS X (.Assign [.Name x pos'] (.ListComp elt [⟨tg,iter,ifs,0⟩] scope pos) spos) (tAsg (zq6 own cap wi g ts te) (zkY i)):=by
 intro pins s σ H D I h;obtain ⟨cl,hcl⟩:=zgl (scope:=scope) (env:=X.env) fun x hx=>I.ok.has x (by
  have:=yaR.mp c.frees _ hx;simpa using this)
 rw[exec_Assign_Name_used _ _ _ _ hsw];refine wpAny_bind (wpAny_standAt (wpAny_bind ?_));show wpAny _ X.A (do let _ ← comprehension (.ListComp elt [⟨tg,iter,ifs,0⟩] scope pos) scope X.env _ (newList []) false (eval iter X.env) (some (assign (.Name x pos') X.env))) _ _ s
 refine wpAny_bind (wpAny_mono (wpAny_comprehension_free (use:=some (assign (.Name x pos') X.env)) (Q:=fun _ s'=>SP X pins D .next s') rfl hs hcl.eq c.kind (fun x hx hl=>by
  have:=yaR.mp c.locs x hx;rw[hl]at this;simpa using this) (thn (hi pins s σ H _ I h) fun v s1 h1=>thn h1 fun itv s2 h2=>?_)) (fun _ s' hq=>wpAny_pure (wpAny_pure hq)) fun _ _ e=>e)
 obtain ⟨it,fp,tn,J,H2,e,I2,T,st2,f2,rd⟩:=h2;subst e;refine ziv (RR:=fun acc C=>compPost (model X.prog X.w) X.A X.xe (some (assign (.Name x pos') X.env)) (fun _ s'=>SP X pins D .next s') acc C) (Q:=fun x H1=>zkY i x σ H1 D.nx) hcalm c hcl hg hts he I2 T st2 f2 rd ?_;intro Dd C s' H' I' hm fC q;obtain ⟨m,hm⟩:=hm;have hne:∀ a,(a=X.env.locals∨X.env.cells.lookup x=some a)→a≠C:=fun a z=>by
  obtain ⟨f0,f1,f2,f3,f4,f5⟩:=fC;rcases z with z | z
  ·rw[z];exact Ne.symm f1
  ·exact f4 x a z
 show wpAny _ X.A (assign (.Name x pos') X.env (.ref Dd)) _ _ _;refine wpAny_assign_Name (zhY I' hN hxi (.inl hx) (v:=.ref Dd) rfl (fun s'' I'' hch=>?_) (.inr hx));obtain ⟨a,hsb,ha⟩:=hch;refine ⟨m,hm.sameBut hsb (Ne.symm (hne a ha)),fun h' hs'=>?_⟩;obtain ⟨f0,f1,f2,f3,f4,f5⟩:=fC;exact ⟨_,H',I''.turned (t':=s''.toks) (fun b o hb e=>(hs'.2 b hb).trans e) f0 f1 f3 f4 f5,q⟩
end
end L2
namespace L2
open PySem PySem.Spec PyProof.Rows PySem.SeqAt
class Srt (α:Type)[Rep α] where
 blt:α→α→Bool
 irrefl:∀ a,blt a a=false
 trans:∀ a b c,blt a b=true→blt b c=true→blt a c=true
 negTrans:∀ a b c,blt a c=true→blt a b=true∨blt b c=true
 total:∀ a b,blt a b=false→blt b a=false→a=b
 kd:SortKind
 one:α
 lt:∀{X:Cx} {pins:List (Addr×Obj)} {σ:St} {H:Hp} {s:Shared} {A:Around} {a b:α} {x y:V} {u v:Value} {Q:Bool→Shared→Prop} {E:Value→Shared→Prop},Inv X pins σ H s→Rep.has X.K H a x→Rep.has X.K H b y→RelV x u→RelV y v→Q (blt a b) s→wpAny (model X.prog X.w) A (keyLt' kd u v) Q E s
 kind:∀{X:Cx} {pins:List (Addr×Obj)} {σ:St} {H:Hp} {s:Shared} {A:Around} {as:List α} {xs:List V} {us:List Value} {Q:SortKind→Shared→Prop} {E:Value→Shared→Prop},Inv X pins σ H s→zan X.K H as xs→Vals xs us→2≤us.length→Q kd s→wpAny (model X.prog X.w) A (keyKind' us.toArray) Q E s
section
variable {α:Type}[Rep α][Srt α]
noncomputable def srtKind (α:Type)[Rep α][Srt α](K:Frag)(H:Hp):PyProof.Rows.KeyKind where
 α:=α
 blt:=Srt.blt
 irrefl:=Srt.irrefl
 trans:=Srt.trans
 negTrans:=Srt.negTrans
 total:=Srt.total
 keyOf:=fun u=>open Classical in if h:∃ a:α,∃ x,RelV x u∧Rep.has K H a x then some (Classical.choose h) else none
 dflt:=Srt.one
theorem zoo {X:Cx}{pins:List (Addr×Obj)}{σ:St}{H:Hp}{s:Shared}{a:α}{x:V}{u:Value}(I:Inv X pins σ H s)(r:RelV x u)(h:Rep.has X.K H a x):(srtKind α X.K H).keyOf u=some a:=by
 have e:∃ a:α,∃ x,RelV x u∧Rep.has X.K H a x:=⟨a,x,r,h⟩;unfold srtKind;dsimp only;rw[dif_pos e];obtain ⟨y,ry,hy⟩:=Classical.choose_spec e;have z:=ry.inj r;subst z;exact congrArg some (Rep.inj I hy h)
theorem zdQ {K:Frag}{H:Hp}{a:α}{u:Value}(h:(srtKind α K H).keyOf u=some a):∃ x,RelV x u∧Rep.has K H a x:=by
 unfold srtKind at h;dsimp only at h;split at h
 ·rename_i e;cases h
  exact Classical.choose_spec e
 ·cases h
def zcY (as:List α):List α:=as.mergeSort fun a b=>!Srt.blt b a
theorem zcf (as:List α):(zcY as).Perm as:=List.mergeSort_perm _ _
theorem zee {as:List α}{a:α}:a∈zcY as↔a∈as:=(zcf as).mem_iff
theorem zdl (as:List α):(zcY as).length=as.length:=(zcf as).length_eq
theorem zng {a b:α}(h:Srt.blt a b=true):Srt.blt b a=false:=by
 cases e:Srt.blt b a with
 | false=>rfl
 | true=>
  have:=Srt.trans _ _ _ h e;rw[Srt.irrefl]at this;cases this
theorem zjO (as:List α):(zcY as).Pairwise fun a b=>Srt.blt b a=false:=by
 have h:=List.pairwise_mergeSort (le:=fun a b:α=>!Srt.blt b a) (fun a b c h1 h2=>by
  simp only[ybE]at h1 h2 ⊢;cases e:Srt.blt c a with
  | false=>rfl
  | true=>
   rcases Srt.negTrans c b a e with z | z
   ·rw[h2]at z;cases z
   ·rw[h1]at z;cases z) (fun a b=>by
  cases e:Srt.blt b a with
  | false=>rfl
  | true=>rw[zng e];rfl) as
 exact h.imp fun {a b} z=>by simpa using z
theorem zef {as bs:List α}(hp:bs.Perm as)(hs:bs.Pairwise fun a b=>Srt.blt b a=false):bs=zcY as:=
 List.Perm.eq_of_pairwise (fun a b _ _ h1 h2=>Srt.total a b h2 h1) hs (zjO as) (hp.trans (zcf as).symm)
theorem zh7 {as:List α}(hs:as.Pairwise fun a b=>Srt.blt b a=false):zcY as=as:=(zef (List.Perm.refl _) hs).symm
theorem zeP {as:List α}(hn:as.Nodup):(zcY as).Pairwise fun a b=>Srt.blt a b=true:=by
 have h1:=zjO as;have h2:(zcY as).Nodup:=(zcf as).nodup_iff.mpr hn;refine (h1.and h2).imp fun {a b} z=>?_;cases e:Srt.blt a b with
 | true=>rfl
 | false=>exact absurd (Srt.total a b e z.1) z.2
theorem zf7 {K:Frag}{H:Hp}:∀{out:List Value},(∀ v∈out,∃ a:α,∃ x,RelV x v∧Rep.has K H a x∧(srtKind α K H).keyOf v=some a)→
  ∃(ws:List V) (bs:List α),Vals ws out∧zan K H bs ws∧bs=out.map (Tim.keyV (srtKind α K H))
 | [],_=>⟨[],[],.nil,.nil,rfl⟩
 | v::out,h=>by
  obtain ⟨ws,bs,h1,h2,h3⟩:=zf7 (out:=out) fun u hu=>h u (yau _ hu);obtain ⟨a,x,r,e,k⟩:=h v yaA;refine ⟨x::ws,a::bs,.cons r h1,.cons e h2,?_⟩;rw[yan,← h3];have z:Tim.keyV (srtKind α K H) v=a:=by
   unfold Tim.keyV;rw[k];rfl
  rw[z];rfl
theorem zi7 {X:Cx}{pins:List (Addr×Obj)}{σ:St}{H:Hp}{s:Shared}(I:Inv X pins σ H s):∀{as:List α} {xs:List V} {us:List Value},zan X.K H as xs→Vals xs us→us.map (Tim.keyV (srtKind α X.K H))=as∧∀ v∈us,∃ a:α,∃ x,RelV x v∧Rep.has X.K H a x∧(srtKind α X.K H).keyOf v=some a
 | _,_,_,.nil,.nil=>⟨rfl,fun _ z=>nomatch z⟩
 | _,_,_,.cons e t,.cons r q=>by
  obtain ⟨h1,h2⟩:=zi7 I t q;have k:=zoo I r e;refine ⟨?_,fun v hv=>?_⟩
  ·rw[yan,h1];unfold Tim.keyV;rw[k];rfl
  ·rcases yah.mp hv with z | z
   ·subst z;exact ⟨_,_,r,e,k⟩
   ·exact h2 v z
end
def zrj (α:Type)[Rep α][Srt α](K:Frag):List V→Hp→VK→Prop:=fun xs H Q=>∃(p:Addr) (vs:List V) (as:List α),xs=[.ref p]∧SqL K H p vs∧zan K H as vs∧
 ∀ l ws,H l=none→zan K H (zcY as) ws→Q (.ref l) (upd H l (.lst ws))
section
variable {X:Cx}
theorem zgV (α:Type)[Rep α][Srt α]:zdj X (.builtin "sorted") (zrj α X.K):=by
 intro pins s σ H xs us Q I r h;obtain ⟨p,vs,as,rfl,hq,ha,q⟩:=h;obtain ⟨u,rfl,rx⟩:=zfP r;cases rx
 obtain ⟨its,rv,pl,hz⟩:=I.list hq;have hlen:=rv.length;obtain ⟨km,kk⟩:=zi7 I ha rv;refine Tim.znE (κ:=srtKind α X.K H) (kd:=Srt.kd α) pl.isList (by omega) (fun v hv=>?_) (fun h' k E x y a b Q hx hy q=>?_) (fun h' E Q k h2 q=>Srt.kind (Inv.kept (t':=s.toks) I k) ha rv h2 q) fun out h' c p1 p2 k hc=>?_
 ·obtain ⟨a,_,_,_,e⟩:=kk v hv;exact ⟨a,e⟩
 ·obtain ⟨x1,r1,e1⟩:=zdQ hx;obtain ⟨y1,r2,e2⟩:=zdQ hy;exact Srt.lt (Inv.kept (t':=s.toks) I k) e1 e2 r1 r2 q
 ·obtain ⟨ws,bs,w1,w2,w3⟩:=zf7 (α:=α) (K:=X.K) (H:=H) (out:=out) fun v hv=>kk v (p1.mem_iff.mp hv);have eb:bs=zcY as:=by
   refine zef ?_ ?_
   ·rw[w3,← km];exact p1.map _
   ·rw[w3];exact ybu.mpr p2
  rw[eb]at w2;have hw:ws.length≤sizeLine:=by
   have:=w1.length;have:=p1.length_eq;omega
  exact ⟨.ref (s.heap.objs.size+1),_,I.laid (a:=s.heap.objs.size+1) (o:=.lst ws) (t':=s.toks) k (ybb _) ⟨hw,out,c,w1,hc⟩,rfl,q _ ws (I.hok.fresh (ybb _)) w2⟩
end
instance:Srt Int where
 blt:=fun a b=>decide (a < b)
 irrefl:=fun a=>by simp
 trans:=fun a b c h1 h2=>by
  simp only[decide_eq_true_eq]at *;omega
 negTrans:=fun a b c h=>by
  simp only[decide_eq_true_eq]at *;omega
 total:=fun a b h1 h2=>by
  simp only[decide_eq_false_iff_not]at *;omega
 kd:=oneType'
 one:=0
 lt:=fun {X pins σ H s A a b x y u v Q E} _ h1 h2 r1 r2 q=>by
  have h1:x=.int a:=h1;have h2:y=.int b:=h2;subst h1 h2;obtain ⟨t,rfl⟩:=r1;obtain ⟨t',rfl⟩:=r2;exact PySem.W.kat_lt_int q
 kind:=fun {X pins σ H s A as xs us Q E} _ h r hl q=>by
  have e:=zan.toInts h;subst e;have hi:IntsAre us as:=by
   clear q hl
   induction as generalizing us with
   | nil=>cases r;exact .nil
   | cons a as ih=>
    cases r with
    | cons r1 r2=>
     obtain ⟨t,rfl⟩:=r1;exact .cons a t (ih (by first | exact zan.ints | assumption) r2)
  match us,hl,hi with
  | v₁::v₂::rest,_,hi=>
   rw[keyKind_ints hi];exact wpAny_pure q
def pLt (a b:Int×Int):Bool:=decide (a.1 < b.1) || (decide (a.1=b.1) && decide (a.2 < b.2))
theorem zcF {a b:Int×Int}:pLt a b=true↔a.1 < b.1∨(a.1=b.1∧a.2 < b.2):=by
 unfold pLt;simp
theorem ziV {a b:Int×Int}:pLt a b=false↔¬ (a.1 < b.1∨(a.1=b.1∧a.2 < b.2)):=by
 rw[← zcF];simp
theorem zhp {X:Cx}{pins:List (Addr×Obj)}{σ:St}{H:Hp}{s:Shared}{a:Int×Int}{x:V}{u:Value}(I:Inv X pins σ H s)(h:Rep.has X.K H a x)(r:RelV x u) :
  ∃(p:Addr) (o:Obj) (n:Nat) (t t':Tok),u=.ref p∧s.heap.get? p=some o∧o.cls=.type "tuple"∧o.data=.seq #[.int a.1 t,.int a.2 t'] n:=by
 obtain ⟨p,x1,x2,rfl,q,e1,e2⟩:=(show hasP X.K H a x from h);have e1:x1=.int a.1:=e1;have e2:x2=.int a.2:=e2;subst e1 e2;cases r
 obtain ⟨us,ru,pu,_⟩:=I.tuple (SqT.of q);obtain ⟨u1,u2,rfl,⟨t,rfl⟩,⟨t',rfl⟩⟩:=zgw ru;obtain ⟨o,ho,hc,n,hd⟩:=pu;exact ⟨p,o,n,t,t',rfl,ho,hc,hd⟩
theorem zpk {prog:Program}{w:World}{A:Around}{E:Value→Shared→Prop}{s:Shared}{x y:Int}{t u:Tok}{Q:Bool→Shared→Prop}(b:Bool)(h:Q (decide (x < y)) s):wpAny (model prog w) A (oneLt' b (.int x t) (.int y u)) Q E s:=by
 cases b with
 | true=>
  rw[← keyLt'_oneType];exact PySem.W.kat_lt_int h
 | false=>exact PySem.W.kat_one _ _ (lt_int h)
instance:Srt (Int×Int) where
 blt:=pLt
 irrefl:=fun a=>by rw[ziV];omega
 trans:=fun a b c h1 h2=>by
  rw[zcF]at *;omega
 negTrans:=fun a b c h=>by
  rw[zcF]at *;rw[zcF];omega
 total:=fun a b h1 h2=>by
  rw[ziV]at *;obtain ⟨a1,a2⟩:=a;obtain ⟨b1,b2⟩:=b;have:a1=b1∧a2=b2:=by dsimp only at *;omega
  rw[this.1,this.2]
 kd:=tuples' true
 one:=(0,0)
 lt:=fun {X pins σ H s A a b x y u v Q E} I h1 h2 r1 r2 q=>by
  obtain ⟨p,o,n,t1,t2,rfl,ho,hc,hd⟩:=zhp I h1 r1;obtain ⟨p',o',n',t3,t4,rfl,ho',hc',hd'⟩:=zhp I h2 r2;refine PySem.W.kat_lt ho hd ho' hd' ?_;show PySem.W.KatLex X.prog X.w A true _ Q [(.int a.1 t1,.int b.1 t3),(.int a.2 t2,.int b.2 t4)] 0 s;refine PySem.W.kat_cons (EqAt.int_int a.1 t1 b.1 t3 _ _ _ _ (PySem.W.kat_go (fun e=>PySem.W.kat_yes ?_) (fun e=>PySem.W.kat_no ?_)))
  ·have e1:a.1=b.1:=eq_of_beq e;refine PySem.W.kat_cons (EqAt.int_int a.2 t2 b.2 t4 _ _ _ _ (PySem.W.kat_go (fun e=>PySem.W.kat_yes (PySem.W.kat_nil ?_)) (fun e=>PySem.W.kat_no (zpk _ ?_))))
   ·have e2:a.2=b.2:=eq_of_beq e;have z:pLt a b=false:=by rw[ziV];omega
    rw[z]at q;exact q
   ·have z:pLt a b=decide (a.2 < b.2):=by
     unfold pLt;rw[yaf (by omega:¬ a.1 < b.1),yaj e1];rfl
    rw[z]at q;exact q
  ·have e1:¬ a.1=b.1:=fun z=>by rw[z]at e;simp at e
   refine zpk _ ?_;have z:pLt a b=decide (a.1 < b.1):=by
    unfold pLt;rw[yaf e1];simp
   rw[z]at q;exact q
 kind:=fun {X pins σ H s A as xs us Q E} I h r hl q=>by
  have go:∀{as:List (Int×Int)} {xs:List V} {us:List Value},zan X.K H as xs→Vals xs us→∃ fs,PySem.W.KatTups s.heap us fs∧fs.length=us.length∧∀ v∈fs,∃ i t,v=Value.int i t:=by
   intro as
   induction as with
   | nil=>
    intro xs us h r;cases h
    cases r
    exact ⟨[],.nil,rfl,fun _ z=>nomatch z⟩
   | cons a as ih=>
    intro xs us h r;cases h with
    | cons h1 h2=>
     cases r with
     | cons r1 r2=>
      obtain ⟨fs,f1,f2,f3⟩:=ih h2 r2;obtain ⟨p,o,n,t,t',rfl,ho,hc,hd⟩:=zhp I h1 r1;refine ⟨.int a.1 t::fs,PySem.W.KatTups.cons ho hc hd rfl f1,by rw[yaI,yaI,f2],fun v hv=>?_⟩;rcases yah.mp hv with z | z
      ·exact ⟨_,_,z⟩
      ·exact f3 v z
  obtain ⟨fs,f1,f2,f3⟩:=go h r;refine PySem.W.kat_kind (T:=.type "int") f1 (by omega) (fun v hv=>?_) (by decide) ?_
  ·obtain ⟨i,t,rfl⟩:=f3 v hv;exact PySem.W.Looks.of_pure rfl
  ·exact q
end L2
namespace L2
open PySem PySem.Spec PyProof.Rows
section
variable {X:Cx}
theorem zc7 {x:Str}{i:Int}{pos:Pos}(hg:Gl X x)(hm:∃ t,X.mg x=some (.int i t))(hd:(x == ("__debug__" : Str))=false:=by decide):PE X (.Name x pos) (tC (.int i)):=by
 obtain ⟨t,e⟩:=hm;exact zb4 hg e ⟨t,rfl⟩ hd
end
theorem zcR {K:Frag}{a D:Addr}{xs:List V}{g:TG}{ts:TT}{te:TE}{σ:St}{H:Hp}{Q:Hp→Prop}(Pv:Nat→St→Hp→Prop)(h0:Pv 0 σ H)(hl:∀ i σ H,i≤xs.length→Pv i σ H→SqL K H a xs)
  (hs:∀ i m x σ H,xs[i]?=some x→i+m=xs.length→Pv i σ H→g x σ H fun σ2 H2=>ts σ2 H2 fun b H3=>if b=true then te σ2 H3 fun y H4=>∃ zs,H4 D=some (.lst zs)∧zs.length < sizeLine∧∃ m',m' < m∧(i+1+m'=xs.length∧Pv (i+1) σ2 (upd H4 D (.lst (zs++[y])))) else ∃ m',m' < m∧(i+1+m'=xs.length∧Pv (i+1) σ2 H3))
  (hd:∀ σ H,Pv xs.length σ H→Q H) :
  ∃ W:Nat→Nat→St→Hp→Prop,(∃ m,W 0 m σ H)∧∀ i m σ H,W i m σ H→((Itl K a).stop i H∧Q H)∨((Itl K a).go i H∧∀ x H',(Itl K a).yld i H x H'→g x σ H' fun σ2 H2=>ts σ2 H2 fun b H3=>if b=true then te σ2 H3 fun y H4=>∃ xs,H4 D=some (.lst xs)∧xs.length < sizeLine∧∃ m',m' < m∧W (i+1) m' σ2 (upd H4 D (.lst (xs++[y]))) else ∃ m',m' < m∧W (i+1) m' σ2 H3):=by
 refine ⟨fun i m σ H=>i+m=xs.length∧Pv i σ H,⟨xs.length,by omega,h0⟩,fun i m σ H zq0=>?_⟩;obtain ⟨e,pv⟩:=zq0;have hS:=hl i σ H (by omega) pv;by_cases hi:i < xs.length
 ·refine .inr ⟨⟨xs,xs[i],hS,yac hi⟩,fun x H' y=>?_⟩;obtain ⟨e1,y⟩:=y;subst e1;exact hs i m x σ _ (y xs hS) e pv
 ·have:i=xs.length:=by omega
  subst this;exact .inl ⟨⟨xs,hS,yaa _⟩,hd σ H pv⟩
theorem zdS {lo:Int}{n:Nat}{D:Addr}{g:TG}{ts:TT}{te:TE}{σ:St}{H:Hp}{Q:Hp→Prop}(Pv:Nat→St→Hp→Prop)(h0:Pv 0 σ H)
  (hs:∀ i m σ H,i+m=n→i < n→Pv i σ H→g (.int (lo+i)) σ H fun σ2 H2=>ts σ2 H2 fun b H3=>if b=true then te σ2 H3 fun y H4=>∃ zs,H4 D=some (.lst zs)∧zs.length < sizeLine∧∃ m',m' < m∧(i+1+m'=n∧Pv (i+1) σ2 (upd H4 D (.lst (zs++[y])))) else ∃ m',m' < m∧(i+1+m'=n∧Pv (i+1) σ2 H3))
  (hd:∀ σ H,Pv n σ H→Q H) :
  ∃ W:Nat→Nat→St→Hp→Prop,(∃ m,W 0 m σ H)∧∀ i m σ H,W i m σ H→((Itr lo n).stop i H∧Q H)∨((Itr lo n).go i H∧∀ x H',(Itr lo n).yld i H x H'→g x σ H' fun σ2 H2=>ts σ2 H2 fun b H3=>if b=true then te σ2 H3 fun y H4=>∃ xs,H4 D=some (.lst xs)∧xs.length < sizeLine∧∃ m',m' < m∧W (i+1) m' σ2 (upd H4 D (.lst (xs++[y]))) else ∃ m',m' < m∧W (i+1) m' σ2 H3):=by
 refine ⟨fun i m σ H=>i+m=n∧Pv i σ H,⟨n,by omega,h0⟩,fun i m σ H zq0=>?_⟩;obtain ⟨e,pv⟩:=zq0;by_cases hi:i < n
 ·refine .inr ⟨hi,fun x H' y=>?_⟩;obtain ⟨e1,y⟩:=y;subst e1 y;exact hs i m σ _ e hi pv
 ·have:i=n:=by omega
  subst this;exact .inl ⟨yaa _,hd σ H pv⟩
end L2
namespace L2
open PySem PySem.Spec PyProof.Rows
def metI (ns:List Int):List Int:=firstMet (fun i=>ns.getD i 0) ns.length
theorem zkB:∀ ns:List Int,(List.range ns.length).map (fun i=>ns.getD i 0)=ns:=fun ns=>by
 apply ya7;intro i;rw[yaq];by_cases h:i < ns.length
 ·rw[ycj h,Option.map_some,yag,yac h];rfl
 ·rw[yaY (by rw[ya4];omega),yaY (by omega)];rfl
theorem zgg:∀(ns σ:List Int),(σ++ns).Nodup→ns.foldl step_dedup σ=σ++ns
 | [],σ,_=>by simp
 | n::ns,σ,h=>by
  have hn:¬ (σ.any (· == n))=true:=fun z=>by
   obtain ⟨x,hx,e⟩:=List.any_eq_true.mp z;have e:=eq_of_beq e;subst e;rw[ya8]at h;exact h.2.2 x hx x yaA rfl
  rw[List.foldl_cons];have e:step_dedup σ n=σ++[n]:=by
   unfold step_dedup;rw[if_neg hn]
  rw[e,zgg ns (σ++[n]) (by rw[yaM];exact h),yaM];rfl
theorem zgJ {ns:List Int}(h:ns.Nodup):metI ns=ns:=by
 unfold metI firstMet;rw[zkB];exact zgg ns [] h
theorem zcr:∀{ns:List Int} {us:List Value},Vals (ns.map V.int) us→IntsAre us ns
 | [],_,.nil=>.nil
 | n::_,_,.cons ⟨t,e⟩ q=>by
  subst e;exact .cons n t (zcr q)
section
variable {X:Cx}
theorem zk8:zdj X (.builtin "len") (fun xs H Q=>∃ p S n,xs=[.ref p]∧H p=some (.set S n)∧n≤1000∧Q (.int (n:Nat)) H):=by
 intro pins s σ H xs us Q I r h;obtain ⟨p,S,n,rfl,hp,hn,q⟩:=h;obtain ⟨u,rfl,rx⟩:=zfP r;cases rx
 have ok:s.heap.SetOf (intKind X.prog X.w) p S n:=I.hok p _ hp;obtain ⟨o,ho,hex,es,ep,t,hd,_,_,hm,hf⟩:=ok.objOf;subst hm;exact call_len_set ho hex hd hf (by omega) ⟨.int _,H,I.tok _,⟨_,rfl⟩,q⟩
end
end L2
namespace L2
open PySem PySem.Spec PyProof.Rows
theorem zmB:kitO "str" "int" = some false:=by decide +kernel
theorem zpn:kitO "str" "bool" = some false:=by decide +kernel
theorem zpo:kitO "NoneType" "int" = some false:=by decide +kernel
theorem zrW:kitO "NoneType" "bool" = some false:=by decide +kernel
theorem zpm:kitO "tuple" "int" = some false:=by decide +kernel
theorem zrV:kitO "tuple" "bool" = some false:=by decide +kernel
theorem zpp:kitO "list" "int" = some false:=by decide +kernel
theorem zrX:kitO "list" "bool" = some false:=by decide +kernel
theorem zpq:kitO "dict" "int" = some false:=by decide +kernel
theorem zr0:kitO "dict" "bool" = some false:=by decide +kernel
end L2
namespace L2
theorem zdZ {i:Nat}{x:V}{σ:St}{H:Hp}{A B:St→Hp→Prop}(h:A (σ.set i (some x)) H):zkY i x σ H fun σ2 H2=>tYes σ2 H2 fun b H3=>if b=true then A σ2 H3 else B σ2 H3:=by
 show (if true=true then A (σ.set i (some x)) H else B (σ.set i (some x)) H)
 rw[if_pos rfl];exact h
end L2
namespace L2
open PySem PySem.Spec PyProof.Rows
section
variable {X:Cx}
theorem znc (hc:X.calm=true):zdj X (.builtin "sum") (fun xs H Q=>∃(p:Addr) (ns:List Int),xs=[.ref p]∧SqL X.K H p (ns.map V.int)∧Q (.int ns.sum) H):=by
 intro pins s σ H xs us Q I r h;obtain ⟨p,ns,rfl,hq,q⟩:=h;obtain ⟨u,rfl,rx⟩:=zfP r;cases rx
 obtain ⟨its,rv,pl,_⟩:=I.list hq;have hi:=zcr rv;obtain ⟨xs,hx⟩:=hi.allInts.items;have hl':s.heap.IsList p (intItems xs):=hx ▸ pl.isList;refine sum_intListG (I.ok.hd hc) hl' fun h' tk t' hk=>?_;have e1:ns=xs.toList.map (·.1):=by
  rw[← nums_intItems,← hx];exact (show numsOf its.toArray.toList=ns from hi.numsOf).symm
 have e2:preSum (numAt xs) xs.size=ns.sum:=by
  rw[preSum_eq,yav (by simp),e1]
 rw[e2];exact ⟨.int _,H,Inv.kept (t':=tk) I hk,⟨t',rfl⟩,q⟩
end
end L2
namespace L2
open PySem PySem.Spec PyProof.Rows
section
variable {X:Cx}{K:Frag}
theorem zhI (h:X.K=K:=by rfl):zdj X (.builtin "len") (fun xs H Q=>∃ p ys,xs=[.ref p]∧(SqL K H p ys∨SqT K H p ys)∧Q (.int ys.length) H):=by
 subst h;exact zak
theorem zmG (h:X.K=K:=by rfl):IxR X (rIxT K):=by
 subst h;exact zaM
end
end L2
namespace L2
open PySem PySem.Spec PyProof.Rows
theorem zhN {c:TT}{tb:TS}{D:Ends}{σ:St}{H:Hp}(Pv Pe:St→Hp→Prop)(μ:St→Hp→Nat)(h0:Pv σ H)
  (hs:∀ σ H,Pv σ H→c σ H fun b H1=>if b=true then tb { D with nx:=fun σ' H'=>Pv σ' H'∧μ σ' H' < μ σ H,ct:=fun σ' H'=>Pv σ' H'∧μ σ' H' < μ σ H,bk:=D.nx } σ H1 else Pe σ H1)
  (mono:∀ σ H Q Q',(∀ b H1,Q b H1→Q' b H1)→c σ H Q→c σ H Q') (he:∀ σ H,Pe σ H→D.nx σ H):zlv c tb D σ H:=by
 refine znn Pv μ h0 (fun σ H p=>mono σ H _ _ (fun b H1 q=>?_) (hs σ H p)) mono;cases b with
 | true=>exact q
 | false=>exact he _ _ q
def zqO (c:TT):Prop:=∀ σ H Q Q',(∀ b H1,Q b H1→Q' b H1)→c σ H Q→c σ H Q'
theorem zlx {a b:TT}(ha:zqO a)(hb:zqO b):zqO (tAnd a b):=fun σ H Q Q' m h=>ha σ H _ _ (fun c H1 q=>by
 cases c with
 | false=>exact m _ _ q
 | true=>exact hb σ H1 Q Q' m q) h
section
variable {X:Cx}{K:Frag}
theorem zhr (h:X.K=K:=by rfl):OpR X (compareOp .NotIn) (rIn K true):=by
 subst h;exact zb2
theorem zpV {es:List Expr}{k:Nat}{t:TGs}{n:Nat}{pos:Pos}(hc:X.calm=true)(h:PGs X es t)(hK:X.K=K:=by rfl)
  (hn:(assignEach es X.env).length=n:=by rfl) (hst:(assignEach es X.env).findIdx? (·.1)=none:=by rfl):PG X (.Tuple es k pos) (gTup K n t):=by
 subst hK;exact zjW hc h hn hst
end
theorem zoF {K:Frag}{a b D:Addr}{xs ys:List V}{g:TG}{ts:TT}{te:TE}{σ:St}{H:Hp}{Q:Hp→Prop}(hlen:xs.length=ys.length)(Pv:Nat→St→Hp→Prop)(h0:Pv 0 σ H)(hl:∀ i σ H,i≤xs.length→Pv i σ H→SqL K H a xs∧SqL K H b ys)
  (hs:∀ i m x y σ H r,xs[i]?=some x→ys[i]?=some y→i+m=xs.length→Pv i σ H→H r=none→g (.ref r) σ (upd H r (.tup [x,y])) fun σ2 H2=>ts σ2 H2 fun b H3=>if b=true then te σ2 H3 fun y H4=>∃ zs,H4 D=some (.lst zs)∧zs.length < sizeLine∧∃ m',m' < m∧(i+1+m'=xs.length∧Pv (i+1) σ2 (upd H4 D (.lst (zs++[y])))) else ∃ m',m' < m∧(i+1+m'=xs.length∧Pv (i+1) σ2 H3))
  (hd:∀ σ H,Pv xs.length σ H→Q H) :
  ∃ W:Nat→Nat→St→Hp→Prop,(∃ m,W 0 m σ H)∧∀ i m σ H,W i m σ H→((Itz K a b).stop i H∧Q H)∨((Itz K a b).go i H∧∀ x H',(Itz K a b).yld i H x H'→g x σ H' fun σ2 H2=>ts σ2 H2 fun b H3=>if b=true then te σ2 H3 fun y H4=>∃ xs,H4 D=some (.lst xs)∧xs.length < sizeLine∧∃ m',m' < m∧W (i+1) m' σ2 (upd H4 D (.lst (xs++[y]))) else ∃ m',m' < m∧W (i+1) m' σ2 H3):=by
 refine ⟨fun i m σ H=>i+m=xs.length∧Pv i σ H,⟨xs.length,by omega,h0⟩,fun i m σ H zq0=>?_⟩;obtain ⟨e,pv⟩:=zq0;obtain ⟨hS,hS'⟩:=hl i σ H (by omega) pv;by_cases hi:i < xs.length
 ·refine .inr ⟨⟨xs,ys,xs[i],ys[i]'(by omega),hS,hS',yac hi,yac (by omega)⟩,fun x H' y=>?_⟩;obtain ⟨p,z,z',rfl,hp,hz,hz',rfl⟩:=y;exact hs i m z z' σ H p (hz xs hS) (hz' ys hS') e pv hp
 ·have:i=xs.length:=by omega
  subst this;exact .inl ⟨⟨xs,ys,hS,hS',.inl (yaa _)⟩,hd σ H pv⟩
end L2
namespace L2
open PySem PySem.Spec PyProof.Rows
section
variable {X:Cx}
theorem zne (hc:X.calm=true):zdj X (.builtin "min") (fun xs H Q=>∃(p:Addr) (ns:List Int),xs=[.ref p]∧SqL X.K H p (ns.map V.int)∧0 < ns.length∧∀ M,M∈ns→(∀ a,a∈ns→M≤a)→Q (.int M) H):=by
 intro pins s σ H xs us Q I r h;obtain ⟨p,ns,rfl,hq,hne,q⟩:=h;obtain ⟨u,rfl,rx⟩:=zfP r;cases rx
 obtain ⟨its,rv,pl,_⟩:=I.list hq;have hi:=zcr rv;obtain ⟨xs,hx⟩:=hi.allInts.items;have hl':s.heap.IsList p (intItems xs):=hx ▸ pl.isList;have e1:ns=xs.toList.map (·.1):=by
  rw[← nums_intItems,← hx];exact (show numsOf its.toArray.toList=ns from hi.numsOf).symm
 have hsz:0 < xs.size:=by
  rw[e1,yab,yar]at hne;exact hne
 refine min_intList (I.ok.hd hc) hl' hsz fun v h' tk hv hk=>?_;obtain ⟨t,rfl⟩:=intItems_at hv;obtain ⟨h1,h2⟩:=argBest_lt (numAt xs) (xs.size - 1);refine ⟨.int _,H,Inv.kept (t':=tk) I hk,⟨t,rfl⟩,q _ ?_ fun a ha=>?_⟩
 ·rw[e1,numAt_eq];rw[yag,yac (by rw[yab,yar];omega)];exact yaT _
 ·rw[e1]at ha;obtain ⟨j,hj,rfl⟩:=mem_getD ha;rw[yab,yar]at hj;rw[← numAt_eq];exact h2 j (by omega)
end
theorem zeI {K:Frag}{a D:Addr}{xs:List V}{g:TG}{ts:TT}{te:TE}{σ:St}{H:Hp}{Q:Hp→Prop}(Pv:Nat→St→Hp→Prop)(h0:Pv 0 σ H)(hl:∀ i σ H,i≤xs.length→Pv i σ H→SqT K H a xs)
  (hs:∀ i m x σ H,xs[i]?=some x→i+m=xs.length→Pv i σ H→g x σ H fun σ2 H2=>ts σ2 H2 fun b H3=>if b=true then te σ2 H3 fun y H4=>∃ zs,H4 D=some (.lst zs)∧zs.length < sizeLine∧∃ m',m' < m∧(i+1+m'=xs.length∧Pv (i+1) σ2 (upd H4 D (.lst (zs++[y])))) else ∃ m',m' < m∧(i+1+m'=xs.length∧Pv (i+1) σ2 H3))
  (hd:∀ σ H,Pv xs.length σ H→Q H) :
  ∃ W:Nat→Nat→St→Hp→Prop,(∃ m,W 0 m σ H)∧∀ i m σ H,W i m σ H→((Itt K a).stop i H∧Q H)∨((Itt K a).go i H∧∀ x H',(Itt K a).yld i H x H'→g x σ H' fun σ2 H2=>ts σ2 H2 fun b H3=>if b=true then te σ2 H3 fun y H4=>∃ xs,H4 D=some (.lst xs)∧xs.length < sizeLine∧∃ m',m' < m∧W (i+1) m' σ2 (upd H4 D (.lst (xs++[y]))) else ∃ m',m' < m∧W (i+1) m' σ2 H3):=by
 refine ⟨fun i m σ H=>i+m=xs.length∧Pv i σ H,⟨xs.length,by omega,h0⟩,fun i m σ H zq0=>?_⟩;obtain ⟨e,pv⟩:=zq0;have hS:=hl i σ H (by omega) pv;by_cases hi:i < xs.length
 ·refine .inr ⟨⟨xs,xs[i],hS,yac hi⟩,fun x H' y=>?_⟩;obtain ⟨e1,y⟩:=y;subst e1;exact hs i m x σ _ (y xs hS) e pv
 ·have:i=xs.length:=by omega
  subst this;exact .inl ⟨⟨xs,hS,yaa _⟩,hd σ H pv⟩
end L2
namespace L2
open PySem PySem.Spec PyProof.Rows
def Itv (K:Frag)(a:Addr)(n:Nat):It:=
 ⟨fun i H=>i < n∧∃ xs,SqL K H a xs∧xs.length=n,fun i H x H'=>H'=H∧∀ xs,SqL K H a xs→xs.length=n→xs.reverse[i]?=some x,fun i _=>i=n⟩
theorem znt {P:Program}{w:World}{K:Frag}{tg:Expr}(a it:Addr)(n:Nat):Turn P w K tg (Itv K a n) [it] it (fun i h=>h.IsRevIter it a ((n:Int) - 1 - (i:Int))) where
 mem:=by simp
 obj:=fun i h st b hb=>by
  have e:b=it:=by simpa using hb
  subst e;obtain ⟨o,e,c,d⟩:=st;exact ⟨o,e,fun v z=>by rw[d]at z;cases z⟩
 keep:=fun i h h' st k=>st.at fun o e=>k it (by simp) o e
 item:=by
  intro X hP hw hK hc i pins s σ H E I hf st hg;subst hP hw hK;obtain ⟨hi,xs,hq,hn⟩:=hg;obtain ⟨its,rv,p,hz⟩:=I.list hq;have hx:xs[n - 1 - i]?=some (xs[n - 1 - i]'(by omega)):=yac (by omega);obtain ⟨u,hu,ru⟩:=rv.get hx;obtain ⟨f0,f1,f2,f3,f4,f5⟩:=hf it (by simp);have e1:(n:Int) - 1 - (i:Int)=((n - 1 - i:Nat):Int):=by omega
  rw[e1]at st;refine wpAny_pyNext_rev_item st p.isList (x:=u) (by simpa using hu) fun h' st' sb=>?_;have e2:((n - 1 - i:Nat):Int) - 1=(n:Int) - 1 - ((i+1:Nat):Int):=by omega
  rw[e2]at st';have I1:Inv X pins σ H { s with heap:=h' }:=I.turned (t':=s.toks) (fun b o hb e=>(sb.2 b hb).trans e) f0 f1 f3 f4 f5;obtain ⟨o,e,c,d⟩:=id st';refine ⟨u,rfl,zow (s:={ s with heap:=h' }) e c d (by decide) ⟨xs[n - 1 - i]'(by omega),H,I1,ru,⟨rfl,fun ys hy hyn=>?_⟩,st',fun b hb=>(hf b hb).1⟩⟩;rw[I.list_inj hy hq,ycy (by omega),show xs.length - 1 - i=n - 1 - i by omega];exact hx
 done:=by
  intro X hP hw hK hc i pins s σ H E I hf st hg;subst hP hw hK;have hi:i=n:=hg;subst hi;obtain ⟨f0,f1,f2,f3,f4,f5⟩:=hf it (by simp);have e1:(i:Int) - 1 - (i:Int) = -1:=by omega
  rw[e1]at st;exact wpAny_pyNext_rev_end (I.ok.hd hc) st fun h' eb=>⟨rfl,I.turned (t':=s.toks) (fun b o hb e=>eb b o hb e) f0 f1 f3 f4 f5⟩
 self:=fun _ _ _ _ _ st h=>wpAny_pyIter_revIter st h
def iRev (K:Frag)(ta:TA):TI:=fun σ H R=>ta σ H fun vs H1=>∃ a xs,vs=[.ref a]∧SqL K H1 a xs∧R (Itv K a xs.length) H1
section
variable {X:Cx}
theorem ziU {tg:Expr}{a:Expr}{ta:TA}{p pos:Pos}(hg:Gl X "reversed")(hm:X.mg "reversed" = none)(ha:PA X [a] ta)(hs:starEach [a] X.env=[(false,eval a X.env)]:=by rfl):PI X tg (.Call (.Name "reversed" p) [a] [] pos) (iRev X.K ta):=by
 intro pins s σ H R I h;refine Call_ (zfe I hg hm boot_reversed (PyProof.Rows.callWith_type1 (thn (ha pos pins s σ H _ I h) fun us s1 zq0=>?_) hs rfl));obtain ⟨vs,H1,I1,r1,q1⟩:=zq0;obtain ⟨l,xs,e,hq,q⟩:=q1;subst e;cases r1 with
 | cons r rr=>
  cases rr
  cases r
  obtain ⟨its,rv,pl,hz⟩:=I1.list hq;have hl:=rv.length;refine call_reversed_list pl.isList ?_;have I2:Inv X pins σ H1 { s1 with heap:=s1.heap.push (revObj l ((its.toArray.size:Int) - 1)) }:=I1.kept (t':=s1.toks) fun b o e=>yai _ e;have hr:(s1.heap.push (revObj l ((its.toArray.size:Int) - 1))).IsRevIter s1.heap.objs.size l (((xs.length:Nat):Int) - 1 - ((0:Nat):Int)):=by
   refine ⟨_,yaD _ rfl,rfl,?_⟩;have:(its.toArray.size:Int) - 1=((xs.length:Nat):Int) - 1 - ((0:Nat):Int):=by
    rw[yat,hl];omega
   rw[this];rfl
  refine wpAny_pyIter_revIter (s:={ s1 with heap:=s1.heap.push (revObj l ((its.toArray.size:Int) - 1)) }) hr ⟨_,[s1.heap.objs.size],_,_,H1,rfl,I2,znt l s1.heap.objs.size xs.length,hr,fun b hb=>?_,q⟩;have e:b=s1.heap.objs.size:=by simpa using hb
  subst e;exact I1.fpOk (yaa _) (I1.hok.fresh (yaa _))
end
theorem zqx {K:Frag}{a:Addr}{xs:List V}{g:TG}{tb:TS}{D:Ends}{σ:St}{H:Hp}(Pv:Nat→St→Hp→Prop)(h0:Pv 0 σ H)(hl:∀ i σ H,i≤xs.length→Pv i σ H→SqL K H a xs)
  (hs:∀ i x σ H,xs.reverse[i]?=some x→Pv i σ H→g x σ H fun σ2 H2=>tb { D with nx:=Pv (i+1),ct:=Pv (i+1),bk:=D.nx } σ2 H2) (hd:∀ σ H,Pv xs.length σ H→D.nx σ H) :
  ∃ W:Nat→Nat→St→Hp→Prop,(∃ m,W 0 m σ H)∧∀ i m σ H,W i m σ H→((Itv K a xs.length).stop i H∧D.nx σ H)∨((Itv K a xs.length).go i H∧∃ N:St→Hp→Prop,(∀ σ' H',N σ' H'→∃ m',m' < m∧W (i+1) m' σ' H')∧∀ x H',(Itv K a xs.length).yld i H x H'→g x σ H' fun σ2 H2=>tb { D with nx:=N,ct:=N,bk:=D.nx } σ2 H2):=by
 refine ⟨fun i m σ H=>i+m=xs.length∧Pv i σ H,⟨xs.length,by omega,h0⟩,fun i m σ H zq0=>?_⟩;obtain ⟨e,pv⟩:=zq0;have hS:=hl i σ H (by omega) pv;by_cases hi:i < xs.length
 ·refine .inr ⟨⟨hi,xs,hS,rfl⟩,Pv (i+1),fun σ' H' q=>⟨m - 1,by omega,by omega,q⟩,fun x H' y=>?_⟩;obtain ⟨e1,y⟩:=y;subst e1;exact hs i x σ _ (y xs hS rfl) pv
 ·have:i=xs.length:=by omega
  subst this;exact .inl ⟨rfl,hd σ H pv⟩
end L2
namespace L2
open PySem PySem.Spec PyProof.Rows
theorem zlS {P:Program}{w:World}{k:Key}{u:Value}(h:(zbc P w).is k u=true):RelV (kV k) u:=by
 rw[zkQ]at h;rcases za2 h with ⟨i,t,rfl,rfl⟩ | ⟨x,t,rfl,rfl⟩
 ·exact ⟨t,rfl⟩
 ·exact ⟨t,rfl⟩
section
variable {X:Cx}
theorem zk7 (hc:X.calm=true):zdj X (.type "list") (fun xs H Q=>∃(p:Addr) (kvs:List (Key×V)),xs=[.ref p]∧H p=some (.dK kvs)∧∀ l,H l=none→Q (.ref l) (upd H l (.lst (kvs.map fun kv=>kV kv.1)))):=by
 intro pins s σ H xs us Q I r h;obtain ⟨p,kvs,rfl,hq,q⟩:=h;obtain ⟨u,rfl,rx⟩:=zfP r;cases rx
 obtain ⟨hz,hne,vs,rel,o,es,ep,h1,h2,h3,h4,h5,h6⟩:=zqD I.hok hq;have hlen:kvs.length=vs.length:=rel.length;refine PySem.W.kdl_call (PySem.W.kdl_dict (knd:=zbc X.prog X.w) (kvs:=vs) (ep:=ep) hne) (I.ok.hd hc) ⟨o,es,h1,h2,h3,h4,h5,h6⟩ (by omega) fun h' tk acc c k e hi=>?_;have hv:Vals (kvs.map fun kv=>kV kv.1) acc.toList:=by
  obtain ⟨g1,g2⟩:=hi;have key:∀(m:Nat) (kvs:List (Key×V)) (vs:List (Key×Value)) (us:List Value),KV kvs vs→us.length=vs.length→(∀(i:Nat) (v:Value),us[i]?=some v→∃ k x,vs[i]?=some (k,x)∧(zbc X.prog X.w).is k v=true)→Vals (kvs.map fun kv=>kV kv.1) us:=by
   intro m kvs
   induction kvs with
   | nil=>
    intro vs us r hl _;cases r
    have:us=[]:=ycz hl;subst this;exact .nil
   | cons kv kvs ih=>
    intro vs us r hl hh;cases r with
    | cons a b=>
     cases us with
     | nil=>cases hl
     | cons v us=>
      refine .cons ?_ (ih _ us b (Nat.succ.inj hl) fun i v e=>?_)
      ·obtain ⟨k,x,e1,e2⟩:=hh 0 v rfl;cases e1
       have h9:=zlS e2;have a1:kv.1=k:=a.1;rw[← a1]at h9;exact h9
      ·have:=hh (i+1) v (by simpa using e);simpa using this
  refine key 0 kvs vs acc.toList rel (by rw[yar];exact g1) fun i v e=>?_;exact g2 i v (by rw[← yaX];exact e)
 refine ⟨.ref s.heap.objs.size,_,I.laid (a:=s.heap.objs.size) (o:=.lst (kvs.map fun kv=>kV kv.1)) (t':=tk) k (yaa _) ⟨?_,acc.toList,c,hv,by rw[Array.toArray_toList];exact e⟩,rfl,q _ (I.hok.fresh (yaa _))⟩;rw[yab];omega
end
end L2
namespace L2
open PySem PySem.Spec PyProof.Rows
def iSeq (K:Frag)(tl:TE):TI:=fun σ H R=>tl σ H fun x H1=>∃ a,x=.ref a∧((∃ xs,SqL K H1 a xs)∧R (Itl K a) H1∨(∃ xs,SqT K H1 a xs)∧R (Itt K a) H1)
section
variable {X:Cx}{tg:Expr}
theorem zrp {l:Expr}{tl:TE}(hl:PE X l tl):PI X tg l (iSeq X.K tl):=by
 intro pins s σ H R I h;refine thn (hl pins s σ H _ I h) fun v s1 zq0=>?_;obtain ⟨x,H1,I1,r1,a,e,q1⟩:=zq0;subst e;cases r1
 have new:∀ b∈[s1.heap.objs.size],FpOk X pins H1 b:=fun b hb=>by
  rw[yal.mp hb];exact I1.fpOk (yaa _) (I1.hok.fresh (yaa _))
 rcases q1 with ⟨⟨xs,hq⟩,q⟩ | ⟨⟨xs,hq⟩,q⟩
 ·obtain ⟨its,rv,p,hz⟩:=I1.list hq;exact wpAny_pyIter_list p.isList ⟨s1.heap.objs.size,[s1.heap.objs.size],_,_,H1,rfl,Inv.kept (t':=s1.toks) I1 (fun b o e=>yai _ e),zhR a _,⟨_,yaD _ rfl,rfl,rfl⟩,new,q⟩
 ·obtain ⟨its,rv,p,hz⟩:=I1.tuple hq;exact wpAny_pyIter_tuple (show s1.heap.IsTuple a its.toArray from p) ⟨s1.heap.objs.size,[s1.heap.objs.size],_,_,H1,rfl,Inv.kept (t':=s1.toks) I1 (fun b o e=>yai _ e),zgB a _,⟨_,yaD _ rfl,rfl,rfl⟩,new,q⟩
end
section
variable {prog:Program}{w:World}{A:Around}{E:Value→Shared→Prop}{s:Shared}
theorem zjk {l:Addr}{vs:List Value}{Q:List Value→Shared→Prop}(hl:s.heap.IsTuple l vs.toArray)
  (h:Q vs { s with heap:=(s.heap.push (seqObj "list" #[] 0)).update s.heap.objs.size (Obj.mapSeq (· ++ vs.toArray)) }) (hsz:vs.length≤sizeLine):wpAny (model prog w) A (collect (.ref l)) Q E s:=by
 obtain ⟨o,ho,hc,n,hd⟩:=id hl;unfold collect;refine wpAny_bind (wpAny_runValue (codeAny_builtin entry_proto_collect' ?_));show wpAny _ _ (do again (.builtin "list.__iadd__" ⟨[← newList [],.ref l],[]⟩)) _ _ s
 refine wpAny_bind (wpAny_newList (wpAny_pure ⟨Code.quiet_builtin _ (by decide +kernel),codeAny_builtin entry_list_iadd' ?_⟩));show wpAny _ _ (Builtin.List.listExtendWith (.ref s.heap.objs.size) (.ref l) (.ref s.heap.objs.size)) _ _ { s with heap:=s.heap.push (seqObj "list" #[] 0) };unfold Builtin.List.listExtendWith;have there:(s.heap.push (seqObj "list" #[] 0)).get? l=some o:=yai _ ho;refine wpAny_bind (wpAny_typeOf (T := "tuple") ⟨o,there,hc⟩ ?_);have ht:(Value.type "tuple" == Value.type "tuple")=true:=rfl;rw[if_pos (by rw[ht,Bool.or_true])];refine wpAny_bind (listItems_at there hd ?_);refine wpAny_bind (listItems_at (xs:=#[]) (n:=0) (yaD _ rfl) rfl ?_);rw[if_neg (by simp)];have fits:(#[]++vs.toArray).size≤sizeLine+1:=by
  simp only[Array.size_append,yat,ybq];omega
 refine wpAny_bind (listUpdate_at (xs:=#[]) (n:=0) (yaD _ rfl) rfl ?_ (yaH _) fits);refine wpAny_pure ?_;show wpAny (model prog w) A (load s.heap.objs.size >>= fun o=>match o.data with | .seq xs _=>pure xs.toList | _=>unsupported "internal:collect") Q E { s with heap:=(s.heap.push (seqObj "list" #[] 0)).update s.heap.objs.size (Obj.mapSeq (· ++ vs.toArray)) }
 refine wpAny_bind (wpAny_load (get?_update_seq (yaD _ rfl) _) ?_);show wpAny _ _ (pure ((#[]:Array Value)++vs.toArray).toList) Q E _;have e0:((#[]:Array Value)++vs.toArray).toList=vs:=by simp
 rw[e0];exact wpAny_pure h
end
end L2
namespace Tim
open PySem PyProof.Rows
section
variable {prog:Program}{w:World}{A:Around}{E:Value→Shared→Prop}{s:Shared}{κ:KeyKind}{kd:SortKind}
theorem znD {l:Addr}{vs:List Value}{Q:Value→Shared→Prop}(hl:s.heap.IsTuple l vs.toArray)(hz:vs.length≤sizeLine)(keys:∀ v∈vs,∃ k,κ.keyOf v=some k)
  (hlt:∀ h',(∀ b o,s.heap.get? b=some o→h'.get? b=some o)→LtG prog w A.in1.in1 { s with heap:=h' } κ kd)
  (hkd:∀(h':Heap) (E:Value→Shared→Prop) (Q:SortKind→Shared→Prop),(∀ b o,s.heap.get? b=some o→h'.get? b=some o)→2≤vs.length→Q kd { s with heap:=h' }→wpAny (model prog w) A.in1.in1 (keyKind' vs.toArray) Q E { s with heap:=h' })
  (h:∀(out:List Value) (h':Heap) (c:Nat),out.Perm vs→out.Pairwise (fun x y=>κ.kle (keyV κ x) (keyV κ y))→(∀ b o,s.heap.get? b=some o→h'.get? b=some o)→
   h'.get? (s.heap.objs.size+1)=some (seqObj "list" out.toArray c)→Q (.ref (s.heap.objs.size+1)) { s with heap:=h' }) :
  wpAny (model prog w) A (call (.builtin "sorted") [.ref l]) Q E s:=by
 refine Calls.call_function_entry kind_sorted plain_sorted entry_sorted (args_sorted1 _) ?_;unfold Builtin.«sorted»;refine wpAny_bind (m:=checkCount "sorted" 1 1 _) (wpAny_pure ?_);refine wpAny_bind (L2.zjk hl ?_ hz);refine wpAny_bind (wpAny_newList ?_ (by simpa using hz));have z1:((s.heap.push (seqObj "list" #[] 0)).update s.heap.objs.size (Obj.mapSeq (· ++ vs.toArray))).objs.size=s.heap.objs.size+1:=by
  rw[Heap.size_update,size_push']
 have hn:(((s.heap.push (seqObj "list" #[] 0)).update s.heap.objs.size (Obj.mapSeq (· ++ vs.toArray))).push (seqObj "list" vs.toArray 0)).get? (s.heap.objs.size+1)=some (seqObj "list" vs.toArray 0):=by
  rw[← z1];exact yaD _ rfl
 have hk:∀ b o,s.heap.get? b=some o→(((s.heap.push (seqObj "list" #[] 0)).update s.heap.objs.size (Obj.mapSeq (· ++ vs.toArray))).push (seqObj "list" vs.toArray 0)).get? b=some o:=fun b o e=>
  yai _ ((ybp _ _ (ybi (yae e))).trans (yai _ e))
 show wpAny _ _ _ _ _ { s with heap:=((s.heap.push (seqObj "list" #[] 0)).update s.heap.objs.size (Obj.mapSeq (· ++ vs.toArray))).push (seqObj "list" vs.toArray 0) };rw[z1];generalize ((s.heap.push (seqObj "list" #[] 0)).update s.heap.objs.size (Obj.mapSeq (· ++ vs.toArray))).push (seqObj "list" vs.toArray 0)=h1 at hn hk ⊢;have up:∀ h',ze5 (s.heap.objs.size+1) h1 h'→∀ b o,s.heap.get? b=some o→h'.get? b=some o:=fun h' kb b o e=>kb b o (fun z=>by
  have:=yae e;rw[z]at this;exact absurd this (Nat.not_lt.mpr (ybb _))) (hk b o e)
 refine wpAny_bind (wpAny_holding (wpAny_call_entry slot_list_sort ⟨_,hn,rfl⟩ entry_list_sort (zpb (s:={ s with heap:=h1 }) hn hz keys (fun h' kb=>hlt h' (up h' kb)) (fun h' E Q kb h2 q=>hkd h' E Q (up h' kb) h2 q) fun out p1 p2=>⟨_,rfl,?_⟩) (args_list_sort _)));obtain ⟨kb,c,hc⟩:=zga (out:=out) hn;exact wpAny_pure ⟨_,rfl,h out _ c p1 p2 (up _ kb) hc⟩
end
end Tim
namespace L2
open PySem PySem.Spec PyProof.Rows
section
variable {X:Cx}
def zri (α:Type)[Rep α][Srt α](K:Frag):List V→Hp→VK→Prop:=fun xs H Q=>∃(p:Addr) (vs:List V) (as:List α),xs=[.ref p]∧SqT K H p vs∧zan K H as vs∧
 ∀ l ws,H l=none→zan K H (zcY as) ws→Q (.ref l) (upd H l (.lst ws))
theorem zgU (α:Type)[Rep α][Srt α]:zdj X (.builtin "sorted") (zri α X.K):=by
 intro pins s σ H xs us Q I r h;obtain ⟨p,vs,as,rfl,hq,ha,q⟩:=h;obtain ⟨u,rfl,rx⟩:=zfP r;cases rx
 obtain ⟨its,rv,pl,hz⟩:=I.tuple hq;have hlen:=rv.length;obtain ⟨km,kk⟩:=zi7 I ha rv;refine Tim.znD (κ:=srtKind α X.K H) (kd:=Srt.kd α) (show s.heap.IsTuple p its.toArray from pl) (by omega) (fun v hv=>?_) (fun h' k E x y a b Q hx hy q=>?_) (fun h' E Q k h2 q=>Srt.kind (Inv.kept (t':=s.toks) I k) ha rv h2 q) fun out h' c p1 p2 k hc=>?_
 ·obtain ⟨a,_,_,_,e⟩:=kk v hv;exact ⟨a,e⟩
 ·obtain ⟨x1,r1,e1⟩:=zdQ hx;obtain ⟨y1,r2,e2⟩:=zdQ hy;exact Srt.lt (Inv.kept (t':=s.toks) I k) e1 e2 r1 r2 q
 ·obtain ⟨ws,bs,w1,w2,w3⟩:=zf7 (α:=α) (K:=X.K) (H:=H) (out:=out) fun v hv=>kk v (p1.mem_iff.mp hv);have eb:bs=zcY as:=by
   refine zef ?_ ?_
   ·rw[w3,← km];exact p1.map _
   ·rw[w3];exact ybu.mpr p2
  rw[eb]at w2;have hw:ws.length≤sizeLine:=by
   have:=w1.length;have:=p1.length_eq;omega
  exact ⟨.ref (s.heap.objs.size+1),_,I.laid (a:=s.heap.objs.size+1) (o:=.lst ws) (t':=s.toks) k (ybb _) ⟨hw,out,c,w1,hc⟩,rfl,q _ ws (I.hok.fresh (ybb _)) w2⟩
end
section
variable {prog:Program}{w:World}{A:Around}{E:Value→Shared→Prop}{s:Shared}
theorem ziM:isSubtype (.type "tuple") (.type "set")=pure false:=by rw[isSubtype_type];kernel_rfl
theorem zgx:isSubtype (.type "tuple") (.type "frozenset")=pure false:=by rw[isSubtype_type];kernel_rfl
abbrev zhv (led:Bool):Obj:={ cls:=.type "set",dict:=none,data:=.set #[] 0 (.fresh 0 0 led) }
set_option maxRecDepth 100000 in
set_option maxHeartbeats 3200000 in
theorem zky {l:Addr}{items:Array Value}{ns:List Int}{Q:Value→Shared→Prop}(hh:A.handled=none)(hl:s.heap.IsTuple l items)(hi:IntsAre items.toList ns)(hb:items.size+1 < scanBound)
  (h:∀(h':Heap) (tk:Nat),h'.SetOf (intKind prog w) s.heap.objs.size (fun k'=>(firstMet (fun i=>ns.getD i 0) items.size).any (· == k')) (firstMet (fun i=>ns.getD i 0) items.size).length→
   (∀ b o,b < s.heap.objs.size→s.heap.get? b=some o→h'.get? b=some o)→Q (.ref s.heap.objs.size) { s with heap:=h',toks:=tk }) :
  wpAny (model prog w) A (call (.type "set") [.ref l]) Q E s:=by
 obtain ⟨c,tl,hmro⟩:=F.called_set.mro;have hmade:=F.called_set.made;have hsub:=F.called_set.sub;refine wpAny_call (codeAny_of_tree ?_);show wpAny _ _ (callAny (.type "set") _) _ _ _;refine wpAny_pure ⟨Code.quiet_builtin _ (by decide +kernel),codeAny_builtin F.entry_type_call ?_⟩;rw[Around.under_plain (weight_type_call_type "set" [.ref l] []) rfl];have h1:=F.called_set.notType;have h2:=F.called_set.canCreate;have hct:=F.typeCall_set_1 (.ref l)
 repeat (any_goals (first | assumption | wp_step))
 refine codeAny_mono (code_set_new_1 (.ref l) (E:=E) (Q₁:=fun obj s₁=>∃ led:Bool,obj=.ref s.heap.objs.size∧s₁={ s with heap:=s.heap.push (zhv led) }) fun led=>⟨led,rfl,rfl⟩) fun r s₁ hr=>?_;cases r with
 | error e=>exact hr
 | ok fl=>
  cases fl with
  | ret obj=>
   obtain ⟨led,rfl,rfl⟩:=hr;have hS:(s.heap.push (zhv led)).get? s.heap.objs.size=some (zhv led):=yaD _ rfl;have hT:Shared.TypeIs { s with heap:=s.heap.push (zhv led) } (.ref s.heap.objs.size) "set":=⟨_,hS,rfl⟩;have hli:=F.called_set.init.lookup;have hbi:=F.called_set.init.bind (.ref s.heap.objs.size)
   repeat (any_goals (first | assumption | wp_step))
   refine codeAny_mono (codeAny_call_builtin (R:=wants (fun r s₂=>r=.none∧∃ h' tk,s₂={ s with heap:=h',toks:=tk }∧
     h'.SetOf (intKind prog w) s.heap.objs.size (fun k'=>(firstMet (fun i=>ns.getD i 0) items.size).any (· == k')) (firstMet (fun i=>ns.getD i 0) items.size).length∧
     (∀ b o,b < s.heap.objs.size→s.heap.get? b=some o→h'.get? b=some o)) E) F.called_set.init.plain F.entry_set_init (check_set_init_1 hT ?_)) fun r₂ s₂ hr₂=>?_
   ·obtain ⟨ol,hol,hcl,nl,hdl⟩:=hl;obtain ⟨ocls,odict,odata,oslots⟩:=ol;simp only at hcl hdl;subst hcl;subst hdl;have there:(s.heap.push (zhv led)).get? l=some { cls:=.type "tuple",dict:=odict,data:=.seq items nl,slots:=oslots }:=yai _ hol;have hsls:=ziM;have hslf:=zgx;have hne:(Value.type "tuple" == Value.type "dict")=false:=by decide
    have hl1:(s.heap.push (zhv led)).IsTuple l items:=⟨_,there,rfl,nl,rfl⟩;unfold Builtin.«set.__init__» noKeywords Builtin.Frozenset.updateFrom;generalize hPI:pyIter=PI
    wp_walk
    subst hPI;refine wpAny_pyIter_tuple hl1 ?_;refine wpAny_bind (wpAny_runValue ?_);have hlS:l < s.heap.objs.size:=yae hol;have h3:A.in1.in1.in1.handled=none:=by simp[hh]
    have hsz:(s.heap.push (zhv led)).objs.size=s.heap.objs.size+1:=yb0 ..;have hneI:l≠(s.heap.push (zhv led)).objs.size:=by
     rw[hsz];exact yam (Nat.lt_succ_of_lt hlS)
    have hSf:s.heap.objs.size∉[(s.heap.push (zhv led)).objs.size,l]:=by
     rw[hsz];simp only[yah,yaQ,or_false,not_or];exact ⟨yam (yb1 _),ybi hlS⟩
    have hval:∀(i:Nat) (v:Value),items[i]?=some v→∃ t,v=.int ((fun i=>ns.getD i 0) i) t:=fun i v hv=>
     IntsAre.int_at hi i v (by rw[yaX];exact hv)
    refine codeAny_set_update_loopS ((Walks.tuple h3 _ l hneI items).toS) s.heap.objs.size
     hSf (fun i=>ns.getD i 0) hval hb (items.size - 0) 0 _ (by omega) (yaH _)
     ⟨⟨_,yaD _ rfl,rfl,rfl⟩,(hl1.push _)⟩ ?hS0 ?hR
    case hS0=>
     exact SetOf_congr ((setObjOf_fresh (knd:=intKind prog w) led).setOf (yai _ hS) (by unfold scanBound;omega)) (fun _=>rfl) rfl
    case hR=>
     intro s' hm hS';obtain ⟨h',g',d',tk',os'⟩:=s';have eg:g'=s.gens:=hm.gens;have ed:d'=s.drawn:=hm.drawn;have eo:os'=s.os:=hm.os;subst eg;subst ed;subst eo;show wpAny _ _ _ _ _ _;refine wpAny_pure ?_;show wpAny _ _ (ret Value.none) _ _ _;refine wpAny_pure ⟨rfl,h',tk',rfl,hS',fun b o hb e=>?_⟩;refine hm.heap b o ?_ (yai _ (yai _ e));rw[hsz];simp only[yah,yaQ,or_false,not_or];exact ⟨yam hb,yam (Nat.lt_succ_of_lt hb)⟩
   ·cases r₂ with
    | error e=>exact hr₂
    | ok fl₂=>
     cases fl₂ with
     | ret r=>
      obtain ⟨rfl,h',tk,rfl,hS',hk'⟩:=hr₂
      repeat (any_goals (first | assumption | wp_step))
      exact h _ _ hS' hk'
     | _=>exact hr₂.elim
  | _=>exact hr.elim
end
section
variable {X:Cx}
def zsA (K:Frag):List V→Hp→VK→Prop:=fun xs H Q=>∃(p:Addr) (ns:List Int),xs=[.ref p]∧SqT K H p (ns.map V.int)∧ns.length≤1000∧
 ∀ l,H l=none→Q (.ref l) (upd H l (.set (fun k=>(metI ns).any (· == k)) (metI ns).length))
theorem znd (hc:X.calm=true):zdj X (.type "set") (zsA X.K):=by
 intro pins s σ H xs us Q I r h;obtain ⟨p,ns,rfl,hq,hz,q⟩:=h;obtain ⟨u,rfl,rx⟩:=zfP r;cases rx
 obtain ⟨its,rv,pl,_⟩:=I.tuple hq;have hl:=rv.length;rw[yab]at hl;refine zky (ns:=ns) (I.ok.hd hc) (show s.heap.IsTuple p its.toArray from pl) (by simpa using zcr rv) (by unfold scanBound;simp only[yat];omega) fun h' tk hS hk=>?_;have e:its.toArray.size=ns.length:=by simp only[yat];omega
 rw[e]at hS;exact ⟨.ref s.heap.objs.size,_,I.laid (a:=s.heap.objs.size) (o:=.set _ _) (t':=tk) (fun b o eb=>hk b o (yae eb) eb) (yaa _) hS,rfl,q _ (I.hok.fresh (yaa _))⟩
theorem ze2:zdj X (.builtin "isinstance") (fun xs H Q=>∃ a p,xs=[.ref a,.ref p]∧H p=some (.tup [.ty "list",.ty "tuple"])∧((∃ ys,H a=some (.lst ys))∨∃ ys,H a=some (.tup ys))∧Q (.bl true) H):=by
 intro pins s σ H xs us Q I r h;obtain ⟨a,p,rfl,hp,ha,q⟩:=h;obtain ⟨u,w',rfl,r1,r2⟩:=zgw r;cases r1
 cases r2
 obtain ⟨_,its,rv,⟨oc,od,odt,osl⟩,h1,h2,n,h3⟩:=(show zbe X.prog X.w H s.heap p (.tup [.ty "list",.ty "tuple"]) from I.hok p _ hp);have h2:oc=.type "tuple":=h2;have h3:odt=.seq its.toArray n:=h3;subst h2 h3;obtain ⟨c1,c2,rfl,e1,e2⟩:=zgw rv;have e1:c1=.type "list":=e1;have e2:c2=.type "tuple":=e2;subst e1 e2;have fin:∀ tk,(fun v s'=>∃ x H',Inv X pins σ H' s'∧RelV x v∧Q x H') (Value.bool true) { s with toks:=tk }:=fun tk=>⟨.bl true,H,I.tok tk,rfl,q⟩;rcases ha with ⟨ys,ha⟩ | ⟨ys,ha⟩
 ·obtain ⟨_,_,n,_,g1⟩:=(show zbe X.prog X.w H s.heap a (.lst ys) from I.hok a _ ha);exact PySem.W.kia_tup PySem.W.kitx_list I.kIn ⟨_,g1,rfl⟩ h1 (b:=true) (by rfl) (fun z=>nomatch z) fin
 ·obtain ⟨_,_,_,o,g1,g2,_⟩:=(show zbe X.prog X.w H s.heap a (.tup ys) from I.hok a _ ha);exact PySem.W.kia_tup PySem.W.kitx_tuple I.kIn ⟨o,g1,g2⟩ h1 (b:=true) (by rfl) (fun z=>nomatch z) fin
end
end L2
namespace HT
open PySem PySem.Spec PyProof.Rows
section
variable {prog:Program}{w:World}{A:Around}{E:Value→Shared→Prop}{s:Shared}
theorem getItem_tuple_all {t sl:Addr}{items:Array Value}{vl vu:Value}{lo hi:Option Int}{Q:Value→Shared→Prop}(ht:IsTup s.heap t items)(hs:s.heap.IsSliceOf sl vl vu .none)(pl:IsPart vl lo)(pu:IsPart vu hi)
  (hw:sIx items.size 0 lo=0∧sIx items.size items.size hi=items.size) (h:Q (.ref t) s):wpAny (model prog w) A (getItem (.ref t) (.ref sl)) Q E s:=by
 obtain ⟨os,hos,hcs,hds⟩:=id hs;have hTs:s.TypeIs (.ref sl) "slice":=⟨os,hos,hcs⟩;unfold getItem
 try with_reducible refine wpAny_holding ?_
 first | refine wpAny_bind (wpAny_pure ?_) | skip
 refine wpAny_bind (wpAny_sequenceKey ht.typeIs (by decide) ?_);refine wpAny_bind (wpAny_callSpecial?_slot (name:=Str.ofString "__getitem__") ht.typeIs PyProof.Rows.slot_tuple_getitem (wpAny_call_entry PyProof.Rows.slot_tuple_getitem ht.typeIs entry_tuple_getitem ?_ (args_tuple_getitem _ _)));show wpAny _ _ (Builtin.Tuple.tupleItemsOf (.ref t) >>= _) _ _ s;refine wpAny_bind (tupleItemsOf_ ht ?_);refine wpAny_bind (wpAny_typeOf hTs ?_);rw[if_pos (by decide)];refine wpAny_bind (zdd hs pl pu ?_);have yes:(((sIx items.size 0 lo:Nat):Int) == 0 && (1:Int) == 1 && (sIx items.size items.size hi - sIx items.size 0 lo) == items.size)=true:=by
  rw[hw.1,hw.2];simp
 show wpAny _ _ (if (((sIx items.size 0 lo:Nat):Int) == 0 && (1:Int) == 1 && (sIx items.size items.size hi - sIx items.size 0 lo) == items.size)=true then _ else _) _ _ s
 rw[if_pos yes];refine wpAny_bind ?_;unfold Builtin.Tuple.tupleIsExact;refine wpAny_bind (wpAny_typeOf ht.typeIs ?_);refine wpAny_pure ?_;rw[if_pos (by decide)];exact wpAny_bind (wpAny_rule (wpAny_pure ⟨_,rfl,wpAny_pure h⟩))
end
end HT
namespace L2
open PySem PySem.Spec PyProof.Rows
section
variable {X:Cx}
def rSlX (K:Frag):V→Option Int→Option Int→Hp→VK→Prop:=fun x lo hi H Q=>∃ a xs,x=.ref a∧SqT K H a xs∧
 ((HT.sIx xs.length 0 lo=0∧HT.sIx xs.length xs.length hi=xs.length)→Q (.ref a) H)∧(¬ (HT.sIx xs.length 0 lo=0∧HT.sIx xs.length xs.length hi=xs.length)→∀ p,H p=none→Q (.ref p) (upd H p (.tup (cutV xs lo hi))))
theorem zcC:SlR X (rSlX X.K):=by
 intro pins s σ H x v vl vu lo hi sl Q I rx hs pl pu h;obtain ⟨a,xs,e,hx,q1,q2⟩:=h;by_cases hw:HT.sIx xs.length 0 lo=0∧HT.sIx xs.length xs.length hi=xs.length
 ·subst e;cases rx
  obtain ⟨its,r,ht,hz⟩:=I.tuple hx;have hlen:its.toArray.size=xs.length:=by rw[yat];exact r.length.symm
  refine ⟨"tuple",_,PyProof.Rows.slot_tuple_getitem.lookup,ht.typeIs,?_⟩;exact HT.getItem_tuple_all ht hs pl pu (by rw[hlen];exact hw) ⟨.ref a,H,I,rfl,q1 hw⟩
 ·exact zrf pins s σ H x v vl vu lo hi sl Q I rx hs pl pu ⟨a,xs,e,hx,hw,q2 hw⟩
def zrk (K:Frag):R2:=fun x y H Q=>∃ a b xs ys,x=.ref a∧y=.ref b∧SqT K H a xs∧SqT K H b ys∧ys≠[]∧xs.length+ys.length≤sizeLine∧
 (xs=[]→Q (.ref b) H)∧(xs≠[]→∀ p,H p=none→Q (.ref p) (upd H p (.tup (xs++ys))))
theorem zeU:OpR X (binaryOp .Add) (zrk X.K):=by
 intro pins s σ H x y v u Q I rx ry h;obtain ⟨a,b,xs,ys,e1,e2,ha,hb,hy,hz,q1,q2⟩:=h;by_cases hx:xs=[]
 ·subst e1 e2;cases rx
  cases ry
  obtain ⟨its,r1,p1,_⟩:=I.tuple ha;obtain ⟨its2,r2,p2,_⟩:=I.tuple hb;obtain ⟨⟨cls,dd,data,sl⟩,ho,hc,n,hd⟩:=id p1;obtain ⟨⟨cls2,dd2,data2,sl2⟩,ho2,hc2,n2,hd2⟩:=id p2;simp only at hc hd hc2 hd2;subst hc hd hc2 hd2;have hv:its=[]:=r1.nil_iff.mpr hx;exact concat_meets ⟨_,ho,rfl⟩ ⟨_,ho2,rfl⟩ noFill_tuple_add seq_tuple_add PySem.F.slot_tuple_add PySem.F.entry_tuple_add (PySem.F.args_tuple_add_2 _ _)
   (tuple_addW0 a b its.toArray its2.toArray n n2 dd dd2 sl sl2 (by simp[hv])) ⟨ho,ho2,.ref b,H,I,rfl,q1 hx⟩
 ·exact zf2 pins s σ H x y v u Q I rx ry ⟨a,b,xs,ys,e1,e2,ha,hb,hx,hz,fun z=>absurd z hy,fun _=>q2 hx⟩
end
end L2
namespace L2
open PySem PySem.Spec PyProof.Rows PySem.SeqAt
def hasO (o:Option Int)(v:V):Prop:=match o with
 | none=>v=.non
 | some i=>v=.int i
instance:Rep (Option Int) where
 dec:=inferInstance
 depth:=0
 has:=fun _ _ o v=>hasO o v
 mono:=fun _ h=>h
 inj:=fun {_ _ _ _ _ a b v} _ h1 h2=>by
  cases a <;> cases b
  ·rfl
  ·have h1:v=.non:=h1;have h2:v=.int _:=h2;rw[h1]at h2;cases h2
  ·have h1:v=.int _:=h1;have h2:v=.non:=h2;rw[h1]at h2;cases h2
  ·have h1:v=.int _:=h1;have h2:v=.int _:=h2;rw[V.int.inj (h1.symm.trans h2)]
 rc:=fun {_ _ _ _ _ _ a b x y u v} _ _ h1 h2 r1 r2=>by
  cases a with
  | none=>
   have h1:x=.non:=h1;subst h1;obtain rfl:u=.none:=r1;cases b with
   | none=>
    have h2:y=.non:=h2;subst h2;obtain rfl:v=.none:=r2;exact RcAt.none_none
   | some j=>
    have h2:y=.int j:=h2;subst h2;obtain ⟨t,rfl⟩:=r2;exact RcAt.none_int _ _
  | some i=>
   have h1:x=.int i:=h1;subst h1;obtain ⟨t,rfl⟩:=r1;cases b with
   | none=>
    have h2:y=.non:=h2;subst h2;obtain rfl:v=.none:=r2;exact RcAt.int_none _ _
   | some j=>
    have h2:y=.int j:=h2;subst h2;obtain ⟨t',rfl⟩:=r2;have e:decide (some i=some j)=(i == j):=by
     by_cases z:i=j
     ·subst z;simp
     ·rw[yaf (fun q=>z (yad q)),beq_eq_false_iff_ne.mpr z]
    have:=RcAt.int_int (A:=‹Around›) (s:=‹Shared›) i t j t';rw[← e]at this;exact this
 rn:=fun {_ _ _ _ _ _ a b x y u v} _ _ h1 h2 r1 r2=>by
  cases a with
  | none=>
   have h1:x=.non:=h1;subst h1;obtain rfl:u=.none:=r1;cases b with
   | none=>
    have h2:y=.non:=h2;subst h2;obtain rfl:v=.none:=r2;exact RcNeAt.none_none
   | some j=>
    have h2:y=.int j:=h2;subst h2;obtain ⟨t,rfl⟩:=r2;exact RcNeAt.none_int _ _
  | some i=>
   have h1:x=.int i:=h1;subst h1;obtain ⟨t,rfl⟩:=r1;cases b with
   | none=>
    have h2:y=.non:=h2;subst h2;obtain rfl:v=.none:=r2;exact RcNeAt.int_none _ _
   | some j=>
    have h2:y=.int j:=h2;subst h2;obtain ⟨t',rfl⟩:=r2;have e:decide (some i=some j)=(i == j):=by
     by_cases z:i=j
     ·subst z;simp
     ·rw[yaf (fun q=>z (yad q)),beq_eq_false_iff_ne.mpr z]
    have:=RcNeAt.int_int (A:=‹Around›) (s:=‹Shared›) i t j t';rw[← e]at this;exact this
 eq:=fun {_ _ _ _ _ _ a b x y u v} _ _ h1 h2 r1 r2=>by
  cases a with
  | none=>
   have h1:x=.non:=h1;subst h1;obtain rfl:u=.none:=r1;cases b with
   | none=>
    have h2:y=.non:=h2;subst h2;obtain rfl:v=.none:=r2;exact EqAt.same _
   | some j=>
    have h2:y=.int j:=h2;subst h2;obtain ⟨t,rfl⟩:=r2;exact EqAt.none_int _ _
  | some i=>
   have h1:x=.int i:=h1;subst h1;obtain ⟨t,rfl⟩:=r1;cases b with
   | none=>
    have h2:y=.non:=h2;subst h2;obtain rfl:v=.none:=r2;exact EqAt.int_none _ _
   | some j=>
    have h2:y=.int j:=h2;subst h2;obtain ⟨t',rfl⟩:=r2;have e:decide (some i=some j)=(i == j):=by
     by_cases z:i=j
     ·subst z;simp
     ·rw[yaf (fun q=>z (yad q)),beq_eq_false_iff_ne.mpr z]
    have:=EqAt.int_int (A:=‹Around›) (s:=‹Shared›) i t j t';rw[← e]at this;exact this
structure Tup (α:Type) where
 l:List α
theorem Tup.ext' {α:Type}{a b:Tup α}(h:a.l=b.l):a=b:=by
 cases a
 cases b
 cases h
 rfl
instance {α:Type} [DecidableEq α]:DecidableEq (Tup α):=fun a b=>if h:a.l=b.l then .isTrue (Tup.ext' h) else .isFalse fun z=>h (by rw[z])
def hasT {α:Type}[Rep α](K:Frag)(H:Hp)(t:Tup α)(v:V):Prop:=∃ a xs,v=.ref a∧SqT K H a xs∧zan K H t.l xs
section
variable {α:Type}[r:Rep α]{X:Cx}{pins:List (Addr×Obj)}{σ:St}{H:Hp}{s:Shared}{A:Around}{as bs:Tup α}{x y:V}{u v:Value}
theorem zke (I:Inv X pins σ H s)(h1:hasT X.K H as x)(h2:hasT X.K H bs x):as=bs:=by
 obtain ⟨a,xs,rfl,q1,h1⟩:=h1;obtain ⟨b,ys,e,q2,h2⟩:=h2;cases e
 rw[I.tuple_inj q2 q1]at h2;exact Tup.ext' (h1.inj I h2)
theorem zlq {as bs:List α}(n m:Nat)(hn:as.length=n)(hm:bs.length=m):((List.range (min n m)).all (fun j=>decide (as[j]?=bs[j]?)) && n == m)=decide (as=bs):=by
 by_cases hl:as.length=bs.length
 ·have e:=ze4 as bs hl;have z:min n m=as.length:=by omega
  rw[z,e,beq_iff_eq.mpr (by omega:n=m),yci]
 ·rw[yaf (fun z=>hl (by rw[z])),beq_eq_false_iff_ne.mpr (by omega:n≠m),yb4]
theorem zm1:decide (as=bs)=decide (as.l=bs.l):=by
 by_cases h:as.l=bs.l
 ·rw[yaj h,yaj (Tup.ext' h)]
 ·rw[yaf h,yaf (fun z=>h (by rw[z]))]
theorem zmL (I:Inv X pins σ H s)(hu:A.units+(Rep.depth α+1) < cLine)(h1:hasT X.K H as x)(h2:hasT X.K H bs y)(r1:RelV x u)(r2:RelV y v):RcAt A s u v (decide (as=bs)):=by
 obtain ⟨a,xs,rfl,q1,h1⟩:=h1;obtain ⟨b,ys,rfl,q2,h2⟩:=h2;cases r1
 cases r2
 obtain ⟨us,ru,pu,_⟩:=I.tuple q1;obtain ⟨vs,rv,pv,_⟩:=I.tuple q2;have l1:=ru.length;have l2:=rv.length;have m1:=h1.length;have m2:=h2.length;have hin:A.in1.units+Rep.depth α < cLine:=yaW (ybf zbQ _) (by omega);have:=RcAt.tuples (A:=A) (s:=s) (l:=a) (b:=b) (items:=us.toArray) (items2:=vs.toArray) (e:=fun j=>decide (as.l[j]?=bs.l[j]?)) pu pv (by omega) (zfJ I hin h1 h2 ru rv);rw[zlq (as:=as.l) (bs:=bs.l) us.toArray.size vs.toArray.size (by simp;omega) (by simp;omega),← zm1]at this;exact this
theorem zqo (I:Inv X pins σ H s)(hu:A.units+(Rep.depth α+1) < cLine)(h1:hasT X.K H as x)(h2:hasT X.K H bs y)(r1:RelV x u)(r2:RelV y v):RcNeAt A s u v (!decide (as=bs)):=by
 obtain ⟨a,xs,rfl,q1,h1⟩:=h1;obtain ⟨b,ys,rfl,q2,h2⟩:=h2;cases r1
 cases r2
 obtain ⟨us,ru,pu,_⟩:=I.tuple q1;obtain ⟨vs,rv,pv,_⟩:=I.tuple q2;have l1:=ru.length;have l2:=rv.length;have m1:=h1.length;have m2:=h2.length;have hin:A.in1.units+Rep.depth α < cLine:=yaW (ybf zbQ _) (by omega);have:=RcNeAt.tuples (A:=A) (s:=s) (l:=a) (b:=b) (items:=us.toArray) (items2:=vs.toArray) (e:=fun j=>decide (as.l[j]?=bs.l[j]?)) pu pv (by omega) (zfJ I hin h1 h2 ru rv);rw[zlq (as:=as.l) (bs:=bs.l) us.toArray.size vs.toArray.size (by simp;omega) (by simp;omega),← zm1]at this;exact this
theorem zqp (I:Inv X pins σ H s)(hu:A.units+(Rep.depth α+1) < cLine)(h1:hasT X.K H as x)(h2:hasT X.K H bs y)(r1:RelV x u)(r2:RelV y v):EqAt A s u v (decide (as=bs)):=by
 have rc:=zmL (A:=A) I hu h1 h2 r1 r2;have h1':=id h1;have h2':=id h2;obtain ⟨a,xs,rfl,q1,h1⟩:=h1;obtain ⟨b,ys,rfl,q2,h2⟩:=h2;cases r1
 cases r2
 by_cases hab:a=b
 ·subst hab;rw[yaj (zke I h1' h2')];exact EqAt.same _
 ·exact EqAt.of_refs hab rc
end
instance {α:Type} [Rep α]:Rep (Tup α) where
 dec:=inferInstance
 depth:=Rep.depth α+1
 has:=hasT
 mono:=fun e ⟨a,xs,h1,h2,h3⟩=>⟨a,xs,h1,h2.ext e,h3.mono e⟩
 inj:=fun I h1 h2=>zke I h1 h2
 rc:=fun I hu h1 h2 r1 r2=>zmL I hu h1 h2 r1 r2
 rn:=fun I hu h1 h2 r1 r2=>zqo I hu h1 h2 r1 r2
 eq:=fun I hu h1 h2 r1 r2=>zqp I hu h1 h2 r1 r2
end L2
namespace L2
open PySem PySem.Spec PyProof.Rows PySem.SeqAt
theorem RelV.uniq {x y:V}{u:Value}(h:RelV x u)(g:RelV y u):x=y:=by
 cases x <;> cases y <;> (unfold RelV at h g) <;> (first | (obtain ⟨_,rfl⟩:=h) | subst h) <;> (first | (obtain ⟨_,g⟩:=g;cases g <;> rfl) | (cases g <;> rfl) | rfl)
section
variable {X:Cx}{α:Type}[Rep α]
theorem zrL {pins:List (Addr×Obj)}{σ:St}{H:Hp}{s:Shared}{A:Around}(I:Inv X pins σ H s)(hu:A.units+Rep.depth α < cLine){a:α}{x0:V}{v:Value}(ha:Rep.has X.K H a x0)(rv:RelV x0 v){e:Value→Bool}(he:∀ u,e u=true↔∃ y,RelV y u∧Rep.has X.K H a y):∀{as:List α} {xs:List V} {us:List Value},zan X.K H as xs→Vals xs us→∀ u∈us,EqAt A s u v (e u)
 | _,_,_,.nil,.nil=>fun u hu=>by cases hu
 | b::as,x::xs,u::us,.cons h t,.cons r t2=>fun u' hm=>by
  rcases yah.mp hm with z | z
  ·subst z;have q:=Rep.eq (A:=A) I hu h ha r rv;have e2:e u'=(Rep.dec b a).decide:=by
    by_cases c:b=a
    ·have e3:(Rep.dec b a).decide=true:=yaj c;rw[e3];exact (he u').mpr ⟨x,r,c ▸ h⟩
    ·have e3:(Rep.dec b a).decide=false:=yaf c;rw[e3];cases k:e u' with
     | false=>rfl
     | true=>
      obtain ⟨y,r2,h2⟩:=(he u').mp k;rw[RelV.uniq r2 r]at h2;exact absurd (Rep.inj I h h2) c
   rw[e2];exact q
  ·exact zrL I hu ha rv he t t2 u' z
end
end L2
namespace L2
open PySem PySem.Spec PyProof.Rows
section
variable {X:Cx}{α:Type}[Rep α]
def zpN (α:Type)[Rep α](K:Frag):V→List V→Hp→VK→Prop:=fun x vs H Q=>∃(l:Addr) (xs:List V) (as:List α) (a:α) (y:V) (k:Nat),x=.ref l∧vs=[y]∧H l=some (.lst xs)∧zan K H as xs∧Rep.has K H a y∧as.length≤1000∧as[k]?=some a∧(∀ j,j < k→as[j]?≠some a)∧Q (.int (k:Nat)) H
theorem zmj (α:Type)[Rep α](hu:X.A.units+Rep.depth (List α) < cLine):MtM X "list.index" (zpN α X.K):=by
 intro pins s σ H x vs v us Q I rx rv h;obtain ⟨l,xs,as,a,y,k,rfl,rfl,hH,hs,ha,hz,hk,hlt,q⟩:=h;cases rx
 obtain ⟨u,rfl,ru⟩:=rv.one;have hin:X.A.in1.units+Rep.depth α < cLine:=yaW (ybf zbQ _) (by have e:Rep.depth (List α)=Rep.depth α+1:=rfl;omega);have he:∀ u,(@decide (∃ y,RelV y u∧Rep.has X.K H a y) (Classical.propDecidable _))=true↔∃ y,RelV y u∧Rep.has X.K H a y:=fun u=>by
  exact @decide_eq_true_iff _ (Classical.propDecidable _)
 obtain ⟨z,its,n,r,hl,e⟩:=I.lstM hH;have l1:=r.length;have l2:=hs.length;obtain ⟨hk1,hk2⟩:=yap.mp hk;have at_:∀ j (hj:j < its.length),∃(b:α) (x:V),as[j]?=some b∧RelV x its[j]∧Rep.has X.K H b x:=fun j hj=>by
  obtain ⟨b,e1,h1⟩:=hs.get (i:=j) (yac (by omega));obtain ⟨w,e2,h2⟩:=r.get (i:=j) (yac (by omega));have:its[j]?=some its[j]:=yac hj;rw[e2]at this;exact ⟨b,_,e1,(yad this) ▸ h2,h1⟩
 refine call_meets F.slot_list_index ⟨_,e,rfl⟩ F.entry_list_index (F.args_list_index_2 _ _)
  (PySem.SeqAt.list_indexAt l its.toArray n none #[] u (fun u=>@decide (∃ y,RelV y u∧Rep.has X.K H a y) (Classical.propDecidable _)) k (by simp;omega) (by omega) ?_ ?_) ⟨e,fun y hy=>zrL I hin ha ru he hs r y (by simpa using hy),⟨.int _,H,I.tok _,⟨_,rfl⟩,q⟩⟩
 ·have hj:k < its.length:=by omega
  obtain ⟨b,x,e1,e2,e3⟩:=at_ k hj;rw[hk]at e1;cases e1
  exact (he _).mpr ⟨x,by simpa using e2,e3⟩
 ·intro j hjs hj;have hj':j < its.length:=by simpa using hjs
  obtain ⟨b,x,e1,e2,e3⟩:=at_ j hj';have ne:=hlt j hj;refine ybT.mpr fun c=>?_;obtain ⟨y,r2,h2⟩:=(he _).mp c;have e2':RelV x its.toArray[j]:=by simpa using e2
  rw[RelV.uniq r2 e2']at h2;exact ne (by rw[e1,Rep.inj I e3 h2])
end
end L2
namespace L2
open PySem PySem.Spec PyProof.Rows
structure zhM (scope:Scope)(ps caps:List Str):Prop where
 kind:scope.kind=.function
 co:scope.isCoroutine=false
 gen:scope.isGenerator=false
 nocell:∀ x∈scope.names,x.2≠.cell
 par:∀ x∈ps,scope.names.lookup x=some .local
 cap:∀ x∈caps,scope.names.lookup x=some .free
 nd:(ps++caps).Nodup
def zoE (P:Program)(w:World)(K:Frag)(mg:Str→Option Value)(base:Heap)(N:List Str)(qual:Str)(scope:Scope)(f:Addr)(cd:Value)(cl:List (Str×Addr))(A:Around)(outer:List Env)(s:Shared)(H:Hp):Cx where
 prog:=P
 w:=w
 K:=K
 mg:=mg
 base:=base
 A:=A.deeper (PySem.W.envX qual scope s.heap.objs.size f cd cl)
 N:=N
 s₀:=s
 H₀:=H
 env:=PySem.W.envX qual scope s.heap.objs.size f cd cl
 outer:=outer
 stack:=PySem.W.envX qual scope s.heap.objs.size f cd cl::outer
 ex:=[]
 calm:=true
 fn:=fun _=>false
 pn:=[]
 xe:=fun _ _=>False
def zna (c:Addr)(q:Str):Heap→Prop:=fun h=>h.CodeRec (.ref c) q
def zgv (H:Hp)(c:Addr)(q:Str):Prop:=H c=some (.ext (zna c q))
theorem zk6 {c:Addr}{q:Str}(h1 h2:Heap)(x:zna c q h1)(k:∀ o,h1.get? c=some o→h2.get? c=some o):zna c q h2:=by
 obtain ⟨c',o,vs,t,e,ho,r⟩:=x;cases e
 exact ⟨c,o,vs,t,rfl,k o ho,r⟩
theorem zgv.rec {P:Program}{w:World}{H:Hp}{h:Heap}{c:Addr}{q:Str}(x:zgv H c q)(ok:HOk P w H h):h.CodeRec (.ref c) q:=(ok c _ x).1
theorem zgH {x:Str}{u:Value}:∀{ps:List Str} {us:List Value} {i:Nat},ps.Nodup→ps[i]?=some x→us[i]?=some u→(ps.zip us).reverse.lookup x=some u
 | [],_,_,_,e,_=>by simp at e
 | _::_,[],_,_,_,e=>by simp at e
 | p::ps,v::us,0,hn,e1,e2=>by
  have e1:p=x:=by simpa using e1
  have e2:v=u:=by simpa using e2
  subst e1 e2;rw[ycx,yck,List.lookup_append];have z:(ps.zip us).reverse.lookup p=none:=by
   rw[List.lookup_eq_none_iff];intro y hy;have:=ybL (ybU.mp hy);simp only[beq_eq_false_iff_ne,ne_eq,bne_iff_ne];intro q;rw[yaS]at hn
   first
    | exact hn.1 (q ▸ this.1)
    | (rw[q]at hn;exact hn.1 this.1)
  rw[z];simp
 | p::ps,v::us,i+1,hn,e1,e2=>by
  rw[yaS]at hn;have ih:=zgH (ps:=ps) (us:=us) (i:=i) hn.2 (by simpa using e1) (by simpa using e2);rw[ycx,yck,List.lookup_append,ih];rfl
def zpL (n:Nat)(tb:TE)(vcs:List V)(c:Addr)(q:Str):Sp:=fun vs H Q _=>vs.length=n∧zgv H c q∧tb (vs.map some++vcs.map some) H Q
theorem zrT {P:Program}{w:World}{K:Frag}{mg:Str→Option Value}{base:Heap}{k:Nat}{f c:Addr}{name qual:Str}{params:Arguments}{body:Expr}{scope:Scope}{cl:List (Str×Addr)}{pm ctv:Value}{ps caps:List Str}{vcs:List V}{tb:TE}
  (S:zhM scope ps caps) (hf:base.get? f=some (PySem.W.kla_obj name qual params body scope cl pm c ctv)) (hlen:vcs.length=caps.length)
  (hcap:∀(j:Nat) (x:Str) (v:V),caps[j]?=some x→vcs[j]?=some v→∃ a u,cl.lookup x=some a∧base.IsCell a (some u)∧RelV v u)
  (hcell:∀ x a,cl.lookup x=some a→∃ v,base.IsCell a v) (hinj:∀ x y a,cl.lookup x=some a→cl.lookup y=some a→x=y) (hhas:∀ x,scope.names.lookup x=some .free→∃ a,cl.lookup x=some a)
  (hb:∀(A:Around) (outer:List Env) (s:Shared) (H:Hp),Room k (A.deeper (PySem.W.envX qual scope s.heap.objs.size f (.ref c) cl))→PE (zoE P w K mg base (ps++caps) qual scope f (.ref c) cl A outer s H) body tb) :
  FnOk P w K mg base CX0 (k+1) f (PySem.W.kla_fn name qual params body scope cl pm (.ref c) ctv) ps (zpL ps.length tb vcs c qual):=by
 refine ⟨fun vs H Q E h=>h.1,fun A outer s H args us vs Q E hr e0 hbind r hsp=>?_⟩;obtain ⟨hl,hc,hq⟩:=hsp;have bk:∀ b o,base.get? b=some o→s.heap.get? b=some o:=fun b o e=>(e0.bs b o e).1;have hul:us.length=ps.length:=by rw[← r.length];exact hl
 refine PySem.W.kla_callFunE hr.depth (bk _ _ hf) rfl S.co S.gen rfl (hc.rec e0.hok) ?_;refine hbind _ _ _ _ ?_;refine wpAny_newFunctionEnv S.nocell (fun y hy=>S.par _ (ybL hy).1) (fun h1 hns hsb=>⟨(e0.mod.nolimit.keeps bk).fresh _ hsb,?_⟩) S.kind;show codeAny _ _ (.expr body (PySem.W.envX qual scope s.heap.objs.size f (.ref c) cl)) _ _;have hk:∀ b o,s.heap.get? b=some o→h1.get? b=some o:=fun b o e=>hsb.extBut b o (yam (yae e)) (yai _ e);have cellK:∀ a v,base.IsCell a v→h1.IsCell a v∧H a=none:=fun a v ⟨o,ho,hd⟩=>⟨⟨o,hk _ _ (bk _ _ ho),hd⟩,(e0.bs _ _ ho).2⟩;have ndps:ps.Nodup:=(ya8.mp S.nd).1;have noA:∀ b:Addr,b∉([]:List Addr):=fun b z=>absurd z (by simp);have I:Inv (zoE P w K mg base (ps++caps) qual scope f (.ref c) cl A outer s H) [] (vs.map some++vcs.map some) H { s with heap:=h1,toks:=s.toks+(ps.zip us).length }:=by
  refine ⟨⟨e0.mod,S.kind,rfl,rfl,yaa _,hinj,fun y hy=>?_,fun y a z _=>(by cases z),fun _=>hr.hd,Around.frames_deeper e0.frames,.inr ⟨rfl,rfl⟩,fun b z=>absurd z (noA b),e0.bs,e0.bsz,fun b _ _=>noA b,fun b z=>absurd z (noA b),e0.funs,e0.frf⟩,
   rfl,e0.bare,Un.kept hk,⟨_,hns,fun i y v h1' h2 h3=>?_⟩,fun y a h=>?_,e0.hok.fresh (yaa _),fun y a h=>?_,fun p hp=>absurd (show p∈([]:List (Addr×Obj)) from hp) (by simp),e0.hok.kept hk,?_⟩
  ·have hy:scope.names.lookup y=some .cell∨scope.names.lookup y=some .free:=hy;rcases hy with hy | hy
   ·exact absurd rfl (S.nocell _ (PySem.mem_of_lookup hy))
   ·exact hhas y hy
  ·have h1':(ps++caps)[i]?=some y:=h1';by_cases hi:i < ps.length
   ·rw[ybn hi]at h1';rw[ybn (by rw[yab];omega),yaq]at h2;cases e:vs[i]? with
    | none=>rw[e]at h2;cases h2
    | some v'=>
     rw[e]at h2;cases h2
     obtain ⟨u,hu,ru⟩:=r.get e;exact ⟨u,ru,.inl ⟨S.par y (yaJ h1'),zgH ndps h1' hu⟩⟩
   ·rw[ybj (by omega)]at h1';rw[ybj (by rw[yab];omega),yab,yaq]at h2;cases e:vcs[i - vs.length]? with
    | none=>rw[e]at h2;cases h2
    | some v'=>
     rw[e]at h2;cases h2
     rw[hl]at e;obtain ⟨a,u,e1,e2,ru⟩:=hcap _ _ _ h1' e;exact ⟨u,ru,.inr ⟨.inr (S.cap y (yaJ h1')),a,e1,(cellK _ _ e2).1⟩⟩
  ·obtain ⟨v,z⟩:=hcell y a h;exact ⟨v,(cellK _ _ z).1⟩
  ·obtain ⟨v,z⟩:=hcell y a h;exact (cellK _ _ z).2
  ·show (vs.map some++vcs.map some).length=(ps++caps).length;rw[yas,yas,yab,yab,hl,hlen]
 refine PySem.W.kla_codeExpr (wpAny_mono (hb A outer s H (hr.deeper _) [] _ _ H Q I hq) (fun u s' hu=>?_) fun _ _ z=>(show False from z).elim);obtain ⟨v,H',J,rv,q⟩:=hu;exact ⟨v,H',J.os,J.bare,J.base,J.hok,rv,q⟩
end L2
namespace L2
open PySem PySem.Spec PyProof.Rows
def Gro (Pt:Addr)(H H':Hp):Prop:=∀ b o,b≠Pt→H b=some o→H' b=some o
theorem Gro.refl (Pt:Addr)(H:Hp):Gro Pt H H:=fun _ _ _ h=>h
structure zbh (H:Hp)(Pt:Addr)(pos:Pos)(q:Str):Prop where
 ex:∃ tab:Array Value,H Pt=some (.tbl tab)∧TriplesOk tab.toList∧(codeAmong pos tab.toList=none∨∃ c,codeAmong pos tab.toList=some (.ref c)∧zgv H c q)
theorem zbh.ext {H H':Hp}{Pt:Addr}{pos:Pos}{q:Str}(x:zbh H Pt pos q)(e:Ext H H'):zbh H' Pt pos q:=by
 obtain ⟨tab,h1,h2,h3⟩:=x.ex;refine ⟨tab,e _ _ h1 (fun _ z=>nomatch z),h2,?_⟩;rcases h3 with h3 | ⟨c,h3,h4⟩
 ·exact .inl h3
 ·exact .inr ⟨c,h3,e _ _ h4 (fun _ z=>nomatch z)⟩
def BMAt (mg:Str→Option Value)(base:Heap):Prop:=∃ bm o,mg "__builtins__" = some (.ref bm)∧bm≠builtinsNs∧bm≠mainGlobals∧base.get? bm=some o∧o.cls=.type "module"∧o.dict=some builtinsNs∧o.data=.plain
section
variable {X:Cx}{pins:List (Addr×Obj)}{σ:St}{H:Hp}{s:Shared}{params:Arguments}{body:Expr}{scope:Scope}{lpos:Pos}{c Pt:Addr}{Q:Value→Shared→Prop}
theorem zov {c':Addr}{q:Str}{tab more:Array Value}{h':Heap}{tk:Nat}(I:Inv X pins σ H s)(hP:H Pt=some (.tbl tab))(hx:∀ b o,b≠Pt→s.heap.get? b=some o→h'.get? b=some o)(hge:s.heap.objs.size≤c')
  (hrec:h'.CodeRec (.ref c') q) (htb:h'.get? Pt=some (PySem.W.tabObj (tab++more))):Inv X pins σ (upd (upd H Pt (.tbl (tab++more))) c' (.ext (zna c' q))) { s with heap:=h',toks:=tk }:=by
 have hfr:H c'=none:=I.hok.fresh hge;have nPc:Pt≠c':=zad hP hfr;have low:∀ b u,H b=some u→b≠c':=fun b u e=>zad e hfr;have lows:∀ b o,s.heap.get? b=some o→b≠c':=fun b o e=>yam (yaz (yae e) hge);have nP:∀ b,H b=none→b≠Pt:=fun b n z=>by rw[z,hP]at n;cases n
 refine I.un (t':=tk) ⟨fun b o e n _ _=>hx b o (nP b n) e,fun b o e n _ _=>⟨o.slots,hx b o (nP b n) e⟩,fun b o e n _=>?_,fun b o e _=>?_,fun b xs e=>?_,fun b o u e=>?_,fun b ps e=>?_⟩ fun a o e=>?_
 ·rw[zaj (lows b o e),zaj (nP b n)];exact n
 ·by_cases z:b=Pt
  ·exact ⟨_,by rw[z];exact htb⟩
  ·exact ⟨o,hx b o z e⟩
 ·rw[zaj (low b _ e),zaj (fun z=>by rw[z,hP]at e;cases e)]
  exact e
 ·rw[zaj (low b _ e),zaj (fun z=>by rw[z,hP]at e;cases e)]
  exact e
 ·by_cases z:b=Pt
  ·rw[z,hP]at e;cases e
   exact ⟨more,by rw[z,zaj nPc,zac]⟩
  ·exact ⟨#[],by rw[zaj (low b _ e),zaj z,e];simp⟩
 ·by_cases z:a=c'
  ·subst z;rw[zac]at e;cases e
   obtain ⟨c2,o2,vs,t,e2,ho2,r2⟩:=id hrec;cases e2
   exact ⟨hrec,⟨o2,ho2⟩,fun h1 h2 x k=>zk6 h1 h2 x k⟩
  ·rw[zaj z]at e;by_cases y:a=Pt
   ·subst y;rw[zac]at e;cases e
    exact htb
   ·rw[zaj y]at e;refine (I.hok a o e).stay (fun b u hb q=>hx b u ?_ q) (fun b q=>?_) fun b xs q=>?_
    ·rcases hb with rfl | hb
     ·exact y
     ·intro z2;rw[z2,hP]at hb;cases hb
    ·rw[zaj (low b _ q),zaj (fun z2=>by rw[z2,hP]at q;cases q)]
     exact q
    ·rw[zaj (low b _ q),zaj (fun z2=>by rw[z2,hP]at q;cases q)]
     exact q
theorem zom (I:Inv X pins σ H s)(hdef:defaultsOf params X.env=([],[]))(hfr:∀ x,(x,NameKind.free)∈scope.names→(X.env.kindOf x=some .cell∨X.env.kindOf x=some .free))(hcode:X.env.code=.ref c)(hC:codeHdIn X.K c Pt=true)(hBM:BMAt X.mg X.base)
  (hT:zbh H Pt lpos (X.env.qual ++ "<lambda>"))
  (h:∀(f c':Addr) (cl:List (Str×Addr)) (pm ctv:Value) (H':Hp) (s':Shared),ziF scope X.env cl→Inv X pins σ H' s'→s'.heap.get? f=some (PySem.W.kla_obj "<lambda>" (X.env.qual ++ "<lambda>") params body scope cl pm c' ctv)→H' f=none→s.heap.objs.size≤f→
   Gro Pt H H'→zbh H' Pt lpos (X.env.qual ++ "<lambda>")→zgv H' c' (X.env.qual ++ "<lambda>")→Q (.ref f) s') :
  wpAny (model X.prog X.w) X.A (eval (.Lambda params body scope lpos) X.env) Q X.xe s:=by
 obtain ⟨cl,hcl⟩:=zgl (scope:=scope) (env:=X.env) fun x hx=>I.ok.has x (hfr x hx);obtain ⟨tab,hP,ht,hor⟩:=hT.ex;have hPo:s.heap.get? Pt=some (PySem.W.tabObj tab):=I.hok Pt _ hP;have C:PySem.W.CodeHd s.heap c Pt:=(PySem.W.codeHd_of_K I.ok.mod.kin hC).keeps I.bk;have hgl:=I.mod.glob.keeps I.bk;have hgP:mainGlobals≠Pt:=fun z=>by
  obtain ⟨o,es,ep,e,_⟩:=I.mod.glob;have:=(I.bs _ _ e).2;rw[z,hP]at this;cases this
 have hb:s.heap.BuiltinsAt X.mg Pt:=by
  obtain ⟨bm,o,b1,b2,b3,b4,b5⟩:=hBM;refine ⟨bm,o,b1,b2,b3,fun z=>?_,I.bk _ _ b4,b5⟩;have:=(I.bs _ _ b4).2;rw[z,hP]at this;cases this
 refine PySem.W.kla_eval hdef ?_;rcases hor with hnone | ⟨c',hsome,hca⟩
 ·refine PySem.W.kla_makeFunction (clos:=cl) hcl.eq I.ok.glob hgl hcode C hPo ht hnone hgP hb fun c' ctv h' tk hx hge hlt hrec htb=>?_;have hx':∀ o2 b o,b≠Pt→s.heap.get? b=some o→(h'.push o2).get? b=some o:=fun o2 b o n e=>yai _ (hx b o n e);have I':=zov (c':=c') (q:=X.env.qual ++ "<lambda>") (tk:=tk) I hP (hx' _) hge (hrec.push (PySem.W.kla_obj "<lambda>" (X.env.qual ++ "<lambda>") params body scope cl ((X.mg "__name__").getD .none) c' ctv)) (yai _ htb);have hsz:s.heap.objs.size≤h'.objs.size:=ya3 (yaW hge hlt);have nPc:Pt≠c':=zad hP (I.hok.fresh hge);have eT:(tab++#[rawInt lpos.line,rawInt lpos.col,.ref c']).toList=tab.toList++[rawInt lpos.line,rawInt lpos.col,.ref c']:=by simp
  have hTI:zbh (upd (upd H Pt (.tbl (tab++#[rawInt lpos.line,rawInt lpos.col,.ref c']))) c' (.ext (zna c' (X.env.qual ++ "<lambda>")))) Pt lpos (X.env.qual ++ "<lambda>"):=
   ⟨_,by rw[zaj nPc,zac],by rw[eT];exact TriplesOk_snoc _ _ _ _ ht,.inr ⟨c',by rw[eT];exact codeAmong_snoc _ ht hnone,zac⟩⟩
  refine h h'.objs.size c' cl _ ctv _ _ hcl I' (yaD _ rfl) ?_ hsz ?_ hTI zac
  ·rw[zaj (ybi hlt),zaj (fun z=>?_)]
   ·exact I.hok.fresh hsz
   ·have:=yae hPo;rw[← z]at this;exact absurd this (Nat.not_lt.mpr hsz)
  ·intro b o n e;rw[zaj (zad e (I.hok.fresh hge)),zaj n];exact e
 ·refine PySem.W.kla_makeFunctionHit (clos:=cl) hcl.eq I.ok.glob hgl hcode C hPo ht hsome hb fun ctv h' tk hk hsz=>?_;exact h h'.objs.size c' cl _ ctv H _ hcl (I.kept (t':=tk) fun b o e=>yai _ (hk b o e)) (yaD _ rfl) (I.hok.fresh hsz) hsz (Gro.refl _ _) hT hca
end
end L2
namespace L2
open PySem PySem.Spec PyProof.Rows
def zeK (X:Cx)(s:Shared)(H:Hp):Heap:=PySem.W.hideAll s.heap (trk s.heap H++frs X.stack)
theorem zgf {h b1 b2:Heap}:∀{l:List Env},h.FunFrames b1 l→(∀ b∈frs l,b2.get? b=none)→h.FunFrames b2 l
 | [],_,_=>trivial
 | env::l,⟨h1,⟨L,o,h2,h3,h4,h5⟩,h6⟩,k=>by
  have m:∀ b∈frs l,b∈frs (env::l):=fun b hb=>by
   unfold frs;rw[ybx,h2];exact yau _ hb
  refine ⟨h1,⟨L,o,h2,k L ?_,h4,h5⟩,zgf h6 fun b hb=>k b (m b hb)⟩;unfold frs;rw[ybx,h2];exact yaA
section
variable {X:Cx}{pins:List (Addr×Obj)}{σ:St}{H:Hp}{s:Shared}
theorem ze3 {b:Addr}{o:Obj}(e:s.heap.get? b=some o)(n:H b=none)(hf:b∉frs X.stack):(zeK X s H).get? b=some o:=
 PySem.W.hideAll_get _ e fun hm=>by
  rcases yak.mp hm with z | z
  ·have q:(H b).isSome=true:=(yba.mp z).2;rw[n]at q;cases q
  ·exact hf z
theorem zif {b:Addr}{o:Obj}(e:(zeK X s H).get? b=some o):s.heap.get? b=some o∧H b=none∧b∉frs X.stack:=by
 have e1:=PySem.W.of_hideAll _ e;have hm:b∉trk s.heap H++frs X.stack:=fun z=>by
  unfold zeK at e;rw[PySem.W.hideAll_none _ z]at e;cases e
 rw[yak,not_or]at hm;refine ⟨e1,?_,hm.2⟩;cases q:H b with
 | none=>rfl
 | some u=>exact absurd (yba.mpr ⟨ya5.mpr (yae e1),by rw[q];rfl⟩) hm.1
theorem zk9 (I:Inv X pins σ H s):∀ b o,X.base.get? b=some o→(zeK X s H).get? b=some o:=fun b o e=>by
 obtain ⟨h1,h2⟩:=I.bs b o e;refine ze3 h1 h2 fun z=>?_;have:=(I.stack.mem z).1;rw[e]at this;cases this
theorem zjq (I:Inv X pins σ H s):Env0 X.prog X.w X.K X.mg (zeK X s H) X.A X.stack s H:=by
 have sub:=zk9 I;refine ⟨I.ok.frames,⟨I.mod.kin.keeps sub,I.mod.glob.keeps sub,?_,I.mod.nolimit.keeps sub⟩,fun b o e=>⟨(zif e).1,(zif e).2.1⟩,Nat.le_of_eq (PySem.W.hideAll_size _ _),zgf I.stack fun b hb=>PySem.W.hideAll_none _ (yaE _ hb),I.stkFree,I.hok,I.bare⟩;obtain ⟨mb,h1,h2⟩:=I.mod.blt;exact ⟨mb,h1.keeps sub,h2⟩
end
structure FV (P:Program)(w:World)(K:Frag)(mg:Str→Option Value)(base:Heap)(k:Nat)(f:Addr)(ps:List Str)(sp:Sp):Prop where
 ex:∃ fd,FnOk P w K mg base CX0 k f fd ps sp∧zdc K fd ps []∧PySem.W.FnAt f base
section
variable {X:Cx}
def zq7 (X:Cx)(kr:Nat)(tf:TE)(t:TA):TE:=fun σ H Q=>tf σ H fun x H1=>∃ f k ps sp,x=.ref f∧FV X.prog X.w X.K X.mg X.base k f ps sp∧k≤kr∧t σ H1 fun vs H2=>sp vs H2 Q E0
theorem znQ {kr:Nat}{x:Str}{e:Expr}{es:List Expr}{tf:TE}{t:TA}{p pos:Pos}(hr:Room kr X.A)(hf:PE X (.Name x p) tf)(ha:PA X (e::es) t)
  (he:starEach (e::es) X.env=(false,eval e X.env)::starEach es X.env:=by rfl) (hpl:(backTo pos (starEach es X.env)).any (·.1)=false:=by rfl):PE X (.Call (.Name x p) (e::es) [] pos) (zq7 X kr tf t):=by
 intro pins s σ H Q I h;refine wpAny_Call_Name_kw (thn (hf pins s σ H _ I h) fun u s1 zq0=>?_);obtain ⟨x1,H1,I1,r1,q1⟩:=zq0;obtain ⟨f,k,ps,sp,rfl,hF,hk,q⟩:=q1;cases r1
 obtain ⟨fd,ok,bd,oc,od,fd2,sl,ho⟩:=hF.ex;refine PySem.W.callWith_F ⟨oc,od,fd2,sl,I1.bk _ _ ho⟩ (thn (ha pos pins s1 σ H1 _ I1 q) fun us s2 zq0=>?_) he hpl;obtain ⟨vs,H2,I2,r,q2⟩:=zq0;refine ⟨⟨oc,od,fd2,sl,I2.bk _ _ ho⟩,?_⟩;exact zjR ok (hr.mono hk) bd .nil zlY I2 r (by rw[yay];exact q2)
structure zqP (X:Cx)(params:Arguments)(body:Expr)(scope:Scope)(ps caps:List Str)(cap:List Nat):Prop where
 sc:zhM scope ps caps
 frees:∀ x,(x,NameKind.free)∈scope.names→(X.env.kindOf x=some .cell∨X.env.kindOf x=some .free)
 capAt:∀(j:Nat) (x:Str),caps[j]?=some x→∃ i:Nat,cap[j]?=some i∧X.N[i]?=some x∧(X.env.kindOf x=some .cell∨X.env.kindOf x=some .free)
 dflt:defaultsOf params X.env=([],[])
 binds:∀(cl:List (Str×Addr)) (pm cdv ct:Value) (us:List Value),us.length=ps.length→bindArgs (PySem.W.kla_fn "<lambda>" (X.env.qual ++ "<lambda>") params body scope cl pm cdv ct) ⟨us,[]⟩=pure (ps.zip us)
 own:∀ x,X.fn x=true
theorem zsL {pins:List (Addr×Obj)}{σ:St}{H:Hp}{s:Shared}{params:Arguments}{body:Expr}{scope:Scope}{ps caps:List Str}{cap:List Nat}{f c':Addr}{cl:List (Str×Addr)}{pm ctv:Value}{vcs:List V}{tb:TE}{k n:Nat}(I:Inv X pins σ H s)(L:zqP X params body scope ps caps cap)(hcl:ziF scope X.env cl)
  (ho:s.heap.get? f=some (PySem.W.kla_obj "<lambda>" (X.env.qual ++ "<lambda>") params body scope cl pm c' ctv)) (hn:H f=none) (hfr:∀ b∈frs X.stack,b < n) (hge:n≤f)
  (hv:vcs.length=caps.length) (hvs:∀(j i:Nat) (v:V),cap[j]?=some i→vcs[j]?=some v→σ[i]?=some (some v))
  (hb:∀(base:Heap) (f:Addr) (cd:Value) (cl:List (Str×Addr)) (A:Around) (outer:List Env) (s:Shared) (H:Hp),Room k (A.deeper (PySem.W.envX (X.env.qual ++ "<lambda>") scope s.heap.objs.size f cd cl))→PE (zoE X.prog X.w X.K X.mg base (ps++caps) (X.env.qual ++ "<lambda>") scope f cd cl A outer s H) body tb) :
  FV X.prog X.w X.K X.mg (zeK X s H) (k+1) f ps (zpL ps.length tb vcs c' (X.env.qual ++ "<lambda>")):=by
 have nf:f∉frs X.stack:=fun z=>absurd (yaz (hfr f z) hge) (ybh _);have hbf:=ze3 (X:=X) ho hn nf;have cellB:∀ x a v,X.env.cells.lookup x=some a→s.heap.IsCell a v→(zeK X s H).IsCell a v:=fun x a v e ⟨o,h1,h2⟩=>by
  refine ⟨o,ze3 h1 (I.freeC x a e) fun z=>?_,h2⟩;rcases yah.mp (I.stkSub a z) with y | y
  ·exact I.cne x a e y
  ·obtain ⟨_,o2,h3,_⟩:=I.ok.funs.mem y;exact absurd (yaz (yae h3) (I.ok.cab x a (L.own x) e)) (ybh _)
 refine ⟨_,zrT L.sc hbf hv (fun j x v h1 h2=>?_) (fun x a e=>?_) (fun x y a h1 h2=>I.ok.inj x y a (hcl.sub x a h1) (hcl.sub y a h2)) (fun x e=>?_) (fun A outer s H hr=>hb _ f _ cl A outer s H hr),.all (L.binds cl pm (.ref c') ctv),⟨_,_,_,_,hbf⟩⟩
 ·obtain ⟨i,e1,e2,e3⟩:=L.capAt j x h1;obtain ⟨m,hm,hl⟩:=I.loc;obtain ⟨u,ru,lk⟩:=hl i x v e2 (hvs j i v e1 h2) (by
   rcases e3 with z | z
   ·exact .inr (.inl z)
   ·exact .inr (.inr z))
  rcases lk with ⟨z,_⟩ | ⟨_,a,e4,e5⟩
  ·rcases e3 with y | y
   ·rw[y]at z;cases z
   ·rw[y]at z;cases z
  ·obtain ⟨a',e6⟩:=hcl.has x (PySem.mem_of_lookup (L.sc.cap x (yaJ h1)));have e7:=hcl.sub x a' e6;rw[e4]at e7;cases e7
   exact ⟨a,u,e6,cellB x a _ e4 e5,ru⟩
 ·obtain ⟨v,z⟩:=I.cell x a (hcl.sub x a e);exact ⟨v,cellB x a v (hcl.sub x a e) z⟩
 ·exact hcl.has x (PySem.mem_of_lookup e)
def zny (X:Cx)(n kf:Nat)(ps:List Str)(cap:List Nat)(Pt:Addr)(lpos:Pos)(tb te:TE)(spH:Heap→Sp):TE:=fun σ H Q=>te σ H fun x1 H1=>zbh H1 Pt lpos (X.env.qual ++ "<lambda>")∧∃ vcs:List V,vcs.length=n∧(∀(j i:Nat) (v:V),cap[j]?=some i→vcs[j]?=some v→σ[i]?=some (some v))∧
 ∀(base:Heap) (f c':Addr) (H2:Hp),Gro Pt H1 H2→zbh H2 Pt lpos (X.env.qual ++ "<lambda>")→zgv H2 c' (X.env.qual ++ "<lambda>")→FV X.prog X.w X.K X.mg base kf f ps (zpL ps.length tb vcs c' (X.env.qual ++ "<lambda>"))→spH base [x1,.ref f] H2 Q E0
theorem zkD {x q1 q2:Str}{e1:Expr}{params:Arguments}{body:Expr}{scope:Scope}{lpos p pos:Pos}{te tb:TE}{spH:Heap→Sp}{j k kf:Nat}{c Pt:Addr}{ps caps:List Str}{cap:List Nat}
  (F:∀ base,FC X.prog X.w X.K X.mg base j x [q1,q2] (spH base)) (hr:Room k X.A) (h1:PE X e1 te) (L:zqP X params body scope ps caps cap) (hcode:X.env.code=.ref c) (hC:codeHdIn X.K c Pt=true) (hBM:BMAt X.mg X.base)
  (hb:∀(base:Heap) (f:Addr) (cd:Value) (cl:List (Str×Addr)) (A:Around) (outer:List Env) (s:Shared) (H:Hp),Room kf (A.deeper (PySem.W.envX (X.env.qual ++ "<lambda>") scope s.heap.objs.size f cd cl))→PE (zoE X.prog X.w X.K X.mg base (ps++caps) (X.env.qual ++ "<lambda>") scope f cd cl A outer s H) body tb)
  (hjk:j≤k:=by decide) (hg:Gl X x:=by rfl) (hdb:(x == ("__debug__" : Str))=false:=by decide) (he:starEach [e1,.Lambda params body scope lpos] X.env=(false,eval e1 X.env)::starEach [.Lambda params body scope lpos] X.env:=by rfl)
  (he2:starEach [.Lambda params body scope lpos] X.env=[(false,eval (.Lambda params body scope lpos) X.env)]:=by rfl) (hpl:(backTo pos (starEach [.Lambda params body scope lpos] X.env)).any (·.1)=false:=by rfl) :
  PE X (.Call (.Name x p) [e1,.Lambda params body scope lpos] [] pos) (zny X caps.length (kf+1) ps cap Pt lpos tb te spH):=by
 intro pins s σ H Q I h;obtain ⟨g,fd,_,_,kp,m,oc,od,osl,lk⟩:=(F X.base).ex;refine wpAny_Call_Name_kw (zd8 I hg m ?_ hdb);refine PySem.W.callWith_K (h₀:=X.base) I.ok.mod.kin kp ?_ he hpl;rw[he];show wpAny _ _ (spliced ((false,eval e1 X.env)::backTo pos (starEach [.Lambda params body scope lpos] X.env))) _ _ s;refine Calls.spliced_cons (thn (h1 pins s σ H _ I h) fun u s1 zq0=>?_);obtain ⟨x1,H1,I1,r1,q1⟩:=zq0;obtain ⟨hT,vcs,hv,hvs,q⟩:=q1;rw[he2];show wpAny _ _ (spliced ((false,eval (.Lambda params body scope lpos) X.env)::[])) _ _ s1;refine Calls.spliced_cons (zom I1 L.dflt L.frees hcode hC hBM hT fun f c' cl pm ctv H2 s2 hcl I2 ho hn hge hgr hT2 hca=>?_);refine Calls.spliced_nil ⟨I2.kIn,?_⟩;have hF:=zsL (k:=kf) (n:=s1.heap.objs.size) I2 L hcl ho hn (fun b hb=>by
  obtain ⟨_,o,e,_⟩:=I1.stack.mem hb;exact yae e) hge hv hvs hb
 have hsp:=q (zeK X s2 H2) f c' H2 hgr hT2 hca hF;obtain ⟨g2,fd2,ok,bd,_,m2,_⟩:=(F (zeK X s2 H2)).ex;rw[m]at m2;cases m2
 have r2:Vals [x1,.ref f] [u,.ref f]:=.cons r1 (.cons rfl .nil);refine wpAny_call (codeAny_mono (ok.run X.A X.stack s2 H2 ⟨[u,.ref f],[]⟩ [u,.ref f] [x1,.ref f] Q E0 (hr.mono hjk) (zjq I2) (bd s2 [u,.ref f] I2.kIn rfl) r2 hsp) fun r s' hq=>?_);cases r with
 | error e=>exact False.elim hq
 | ok fl=>
  cases fl with
  | ret u=>exact I2.after hq
  | next=>exact False.elim hq
  | brk=>exact False.elim hq
  | cont=>exact False.elim hq
end
end L2
namespace L2
open PySem PySem.Spec PyProof.Rows
theorem zmx {P:Program}{w:World}{K:Frag}{mg mb:Str→Option Value}{CX:CXT}{k:Nat}{fa a:Addr}{fd:FuncData}{x:Str}{sp:Sp}{s₁:Shared}{vs:List Value}{ns:List Int}{tabs:List (Addr×Addr)}
  (KX:K.In s₁.heap) (hns:s₁.heap.Ns mainGlobals mg) (hb:s₁.heap.Ns builtinsNs mb) (hbb:∀ x:Str,x ≠ "__name__"→mb x=bootBuiltins x) (hlim:s₁.heap.NoLimit) (hg:s₁.gens=#[]) (hBM:BMAt mg s₁.heap)
  (hT:PySem.W.TabsAt tabs s₁.heap) (hKT:∀ q∈tabs,K.lookup q.2=none)
  (ha:s₁.heap.get? a=some { cls:=.type "list",data:=.seq vs.toArray }) (hi:IntsAre vs ns) (hl:ns.length≤sizeLine) (hr:Room k callerA)
  (F:∀ base:Heap,K.In base→base.Ns mainGlobals mg→BMAt mg base→FnOk P w K mg base CX k fa fd [x] sp) (hbind:∀(s:Shared) (u:Value),BindsTo s fd ⟨[u],[]⟩ [(x,u)])
  (hsp:∀ H:Hp,(∀ q∈tabs,H q.2=some (.tbl #[]))→SqL K H a (ns.map V.int)→sp [.ref a] H (fun v _=>v=.bl true) fun _ _ _=>False)
  (hCX:∀ H e s',CX [] H s₁ (fun _ _ _=>False) e s'→False) :
  codeAny (model P w) callerA (.call (.ref fa) ⟨[.ref a],[]⟩) (fun r s'=>r=.ok (.ret (.bool true))∧OldK s₁.heap s'.heap∧s'.os=s₁.os∧AllBare s'.gens) s₁:=by
 have rv:=zhP hi;have lenV:=hi.length;have tabO:∀ b,b∈tabs.map (·.2)→s₁.heap.get? b=some (PySem.W.tabObj #[])∧isCodeTable s₁.heap b∧K.lookup b=none:=fun b hm=>by
  obtain ⟨q,hq,rfl⟩:=yax.mp hm;exact ⟨(hT q hq).2,((hT q hq).1.tab (hT q hq).2).isCodeTable,hKT q hq⟩
 have nat:a∉tabs.map (·.2):=fun z=>by
  have:=(tabO a z).1;rw[ha]at this;cases this
 have core:∀ Hs:Hp,(∀ b,Hs b=none∨(b=a∧Hs b=some (.frz { cls:=.type "list",data:=.seq vs.toArray } (.lst (ns.map V.int)))))→(∀ H:Hp,(∀ b,b∉tabs.map (·.2)→H b=Hs b)→SqL K H a (ns.map V.int))→(Hs a≠none→K.lookup a=none)→
   codeAny (model P w) callerA (.call (.ref fa) ⟨[.ref a],[]⟩) (fun r s'=>r=.ok (.ret (.bool true))∧OldK s₁.heap s'.heap∧s'.os=s₁.os∧AllBare s'.gens) s₁:=by
  intro Hs hO hS hK;obtain ⟨H,hH⟩:∃ H:Hp,H=fun b=>if b∈tabs.map (·.2) then some (.tbl #[]) else Hs b:=⟨_,rfl⟩
  have H1:∀ b,b∈tabs.map (·.2)→H b=some (.tbl #[]):=fun b z=>by rw[hH];exact if_pos z
  have H2:∀ b,b∉tabs.map (·.2)→H b=Hs b:=fun b z=>by rw[hH];exact if_neg z
  have cases3:∀ b,H b=none∨(b=a∧H b=some (.frz { cls:=.type "list",data:=.seq vs.toArray } (.lst (ns.map V.int))))∨(b∈tabs.map (·.2)∧H b=some (.tbl #[])):=fun b=>by
   by_cases z:b∈tabs.map (·.2)
   ·exact .inr (.inr ⟨z,H1 b z⟩)
   ·rcases hO b with y | ⟨y1,y2⟩
    ·exact .inl ((H2 b z).trans y)
    ·exact .inr (.inl ⟨y1,(H2 b z).trans y2⟩)
  have hok:HOk P w H s₁.heap:=fun b u e=>by
   rcases cases3 b with y | ⟨y1,y2⟩ | ⟨y1,y2⟩
   ·rw[y]at e;cases e
   ·rw[y2]at e;cases e
    subst y1;exact ⟨ha,by rw[yab];exact hl,vs,_,rv,ha⟩
   ·rw[y2]at e;cases e
    exact (tabO b y1).1
  have base_of:∀{b:Addr} {o:Obj},s₁.heap.get? b=some o→H b=none→(hidT s₁.heap H).get? b=some o:=fun e n=>zos e n;have noD:∀{b:Addr} {o:Obj},s₁.heap.get? b=some o→(∀ xs n,o.data≠.seq xs n)→(∀ xs,o.data≠.fields xs)→H b=none:=fun {b o} e d1 d2=>by
   rcases cases3 b with y | ⟨y1,y2⟩ | ⟨y1,y2⟩
   ·exact y
   ·subst y1;rw[ha]at e;cases e
    exact absurd rfl (d1 _ _)
   ·rw[(tabO b y1).1]at e;cases e
    exact absurd rfl (d2 _)
  have nsK:∀{b:Addr} {m:Str→Option Value},s₁.heap.Ns b m→(hidT s₁.heap H).Ns b m:=fun {b m} ⟨o,es,ep,e,d,r⟩=>⟨o,es,ep,base_of e (noD e (fun _ _ z=>by rw[d]at z;cases z) (fun _ z=>by rw[d]at z;cases z)),d,r⟩
  have hKb:K.In (hidT s₁.heap H):=fun b o e=>base_of (KX b o e) (by
   rcases cases3 b with y | ⟨y1,y2⟩ | ⟨y1,y2⟩
   ·exact y
   ·subst y1;rw[hK (by rw[← H2 b nat,y2];exact fun z=>nomatch z)]at e;cases e
   ·rw[(tabO b y1).2.2]at e;cases e)
  have hM:Mod K mg (hidT s₁.heap H):=⟨hKb,nsK hns,⟨mb,nsK hb,hbb⟩,let ⟨mc,h1,h2⟩:=hlim;⟨mc,nsK h1,h2⟩⟩;have hBMb:BMAt mg (hidT s₁.heap H):=by
   obtain ⟨bm,o,b1,b2,b3,b4,b5,b6,b7⟩:=hBM;exact ⟨bm,o,b1,b2,b3,base_of b4 (noD b4 (fun _ _ z=>by rw[b7]at z;cases z) (fun _ z=>by rw[b7]at z;cases z)),b5,b6,b7⟩
  have e0:Env0 P w K mg (hidT s₁.heap H) callerA [] s₁ H:=⟨rfl,hM,fun b o e=>zqd e,Nat.le_of_eq (zmK _ _),trivial,fun b hb=>absurd (show b∈([]:List Addr) from hb) (by simp),hok,.of_eq hg⟩;refine codeAny_mono ((F _ hKb (nsK hns) hBMb).run callerA [] s₁ H ⟨[.ref a],[]⟩ [.ref a] [.ref a] _ _ hr e0 (hbind s₁ (.ref a)) (.cons rfl .nil) (hsp H (fun q hq=>H1 _ (List.mem_map_of_mem hq)) (hS H H2))) fun r s' h=>?_;cases r with
  | error e=>exact (hCX H e s' h).elim
  | ok fl=>
   cases fl with
   | next=>exact False.elim h
   | brk=>exact False.elim h
   | cont=>exact False.elim h
   | ret u=>
    obtain ⟨v,H',os,bare,un,hok',r',q⟩:=h;have q':v=.bl true:=q;subst q';obtain rfl:u=Value.bool true:=r';have keep:∀ b o,H b=none→s₁.heap.get? b=some o→s'.heap.get? b=some o:=fun b o n e=>un.keep b o e n (by intro z;exact absurd (show b∈([]:List Addr) from z) (by simp)) (by simp);have frz:∀ b o,b=a→H b=some (.frz { cls:=.type "list",data:=.seq vs.toArray } (.lst (ns.map V.int)))→s₁.heap.get? b=some o→s'.heap.get? b=some o:=fun b o y1 y2 e=>by
     obtain ⟨e1,_⟩:=hok b _ y2;obtain ⟨e2,_⟩:=hok' b _ (un.frzs b _ _ y2);rw[e]at e1;cases e1
     exact e2
    have tbl:∀ b,H b=some (.tbl #[])→∃ ps,s'.heap.get? b=some (PySem.W.tabObj ps):=fun b y=>by
     obtain ⟨more,e⟩:=un.tbls b _ y;exact ⟨_,hok' b _ e⟩
    refine ⟨rfl,⟨fun b o e=>?_,fun b o e=>?_⟩,os,bare⟩
    ·rcases cases3 b with y | ⟨y1,y2⟩ | ⟨y1,y2⟩
     ·exact .inl (keep b o y e)
     ·exact .inl (frz b o y1 y2 e)
     ·obtain ⟨ps,hp⟩:=tbl b y2;obtain ⟨t1,t2,_⟩:=tabO b y1;rw[e]at t1;cases t1
      exact .inr (.inl ⟨t2,rfl,#[],ps,rfl,by rw[Array.empty_append];exact hp⟩)
    ·rcases cases3 b with y | ⟨y1,y2⟩ | ⟨y1,y2⟩
     ·exact ⟨o,keep b o y e⟩
     ·exact ⟨o,frz b o y1 y2 e⟩
     ·obtain ⟨ps,hp⟩:=tbl b y2;exact ⟨_,hp⟩
 cases hk:K.lookup a with
 | some o=>
  have e:=KX a o hk;rw[ha]at e;cases e
  exact core (fun _=>none) (fun _=>.inl rfl) (fun H _=>.inr ⟨_,vs.toArray,_,hk,rfl,rfl,rfl,by rw[yat,lenV];exact hl,by simpa using rv⟩) fun z=>absurd rfl z
 | none=>
  refine core (fun b=>if b=a then some (.frz { cls:=.type "list",data:=.seq vs.toArray } (.lst (ns.map V.int))) else none) (fun b=>?_) (fun H h=>.inl (.inr ⟨{ cls:=.type "list",data:=.seq vs.toArray },by rw[h a nat];exact if_pos rfl⟩)) fun _=>hk
  by_cases z:b=a
  ·exact .inr ⟨z,if_pos z⟩
  ·exact .inl (if_neg z)
theorem zno {l:OpenLaw}{n k:Nat}{q:Program}{loose:List Str}{XP:(Str→Option Value)→Heap→Prop}{YP:World→Heap→Prop}{d:DefRec}{K:Params→Frag}{sp:World→Sp}{x:Str}{tabs:List (Addr×Addr)}
  (hn:l.most=some n) (hn2:n≤sizeLine) (hdf:d.params.defaults=[]) (hr:Room k callerA)
  (hY:∀(w:World) (h:Heap),YP w h→(K w.params).In h) (hYT:∀(w:World) (h:Heap),YP w h→∀ q∈tabs,h.get? q.2=some (PySem.W.tabObj #[]))
  (hC:∀(w:World),∀ q∈tabs,codeHdIn (K w.params) q.1 q.2=true∧(K w.params).lookup q.2=none)
  (F:∀(w:World) (mg:Str→Option Value) (fa:Addr) (h:Heap),(K w.params).In h→h.Ns mainGlobals mg→mg d.name=some (.ref fa)→
   ∃ fd:FuncData,(∀(s:Shared) (u:Value),BindsTo s fd ⟨[u],[]⟩ [(x,u)])∧
    ∀ base:Heap,(K w.params).In base→base.Ns mainGlobals mg→BMAt mg base→FnOk l.prog w (K w.params) mg base CX0 k fa fd [x] (sp w))
  (hsp:∀(w:World) (H:Hp) (a:Addr) (ns:List Int),ns.length≤n→(∀ q∈tabs,H q.2=some (.tbl #[]))→SqL (K w.params) H a (ns.map V.int)→sp w [.ref a] H (fun v _=>v=.bl true) fun _ _ _=>False) :
  PySem.W.WalkO q loose XP YP l.row.toRowW d [] (fun f vs=>PySem.call f vs):=by
 refine Att.attach_call hn hdf fun w s₀ s₁ mg mb fa o pm cd doc a vs ns G Y ho hd hcd hmg hobj hints hlen hg=>?_;have KX:=hY w _ Y;obtain ⟨fd,hb,hF⟩:=F w mg fa _ KX G.T.g hmg;have hBM:BMAt mg s₁.heap:=by
  obtain ⟨bm,ob,b1,b2,b3,b4,b5,b6⟩:=G.T.bmain;refine ⟨bm,ob,b1,b2,fun z=>?_,b3,b4,b5,b6⟩;obtain ⟨o,es,ep,e,hd,_⟩:=G.T.g;rw[z,e]at b3;cases b3
  rw[hd]at b6;cases b6
 exact zmx (tabs:=tabs) KX G.T.g G.T.b G.T.builtins G.T.nolimit hg hBM (fun q hq=>⟨PySem.W.codeHd_of_K KX (hC w q hq).1,hYT w _ Y q hq⟩) (fun q hq=>(hC w q hq).2) hobj hints (yaB hlen hn2) hr hF hb (fun H hO hS=>hsp w H a ns hlen hO hS) fun H e s' z=>z
structure DFT (K:Frag)(mg:Str→Option Value)(x:Str)(st:Stmt)(ps:List Str)(c Pt:Addr):Prop where
 ex:∃(f:Addr) (oc:Value) (od:Option Addr) (kV dc pm:Value) (an:Option Addr) (ct:Value) (osl:Array (Option Value)),K.lookup f=some ⟨oc,od,.func (fnOf x x (zbR st) (za3 st) (zah st) .none kV dc pm an (.ref c) ct),osl⟩∧
  codeIn K (.ref c) x=true∧keepIn K (.ref f)=true∧mg x=some (.ref f)∧zdc K (fnOf x x (zbR st) (za3 st) (zah st) .none kV dc pm an (.ref c) ct) ps []
 hd:codeHdIn K c Pt=true
theorem DFT.ok {P:Program}{w:World}{K:Frag}{mg:Str→Option Value}{base:Heap}{x:Str}{st:Stmt}{N ps:List Str}{k:Nat}{sp:Sp}{c Pt:Addr}(D:DFT K mg x st ps c Pt)(S:zap N ps (zah st))(len:∀ vs H Q E,sp vs H Q E→vs.length=ps.length)
  (hbody:∀(f:Addr) (A:Around) (outer:List Env) (s:Shared) (H:Hp) (vs:List V) (Q:VK) (E:XK),Room k (A.deeper (envOfC x (zah st) s.heap.objs.size f (.ref c)))→sp vs H Q E→
   ∃ t,PSs (cxOf CX0 P w K mg base N x (zah st) f (.ref c) A outer s H E).nox (za3 st) t∧t { nx:=fun _ H'=>Q .non H',rt:=Q } (zcX N vs) H):FC P w K mg base (k+1) x ps sp:=by
 obtain ⟨f,oc,od,kV,dc,pm,an,ct,osl,lk,hcd,kp,m,bd⟩:=D.ex;refine ⟨f,_,zoA lk hcd S len fun A outer s H vs Q E hr hsp=>?_,bd,kp,m,oc,od,osl,lk⟩;obtain ⟨t,h,q⟩:=hbody f A outer s H vs Q E hr hsp;exact ⟨t,h.nox,q⟩
theorem znw {K:Frag}{x:Str}{c Pt f:Addr}{oc:Value}{od:Option Addr}{fd:FuncData}{sl:Array (Option Value)}(a:nsIn K mainGlobals x=some (some (.ref f)))(l:K.lookup f=some ⟨oc,od,.func fd,sl⟩)(t:tabIn K x=some (c,Pt)):fd.code=.ref c:=by
 unfold tabIn at t;rw[a]at t;dsimp only at t;rw[l]at t;dsimp only at t;split at t
 ·rename_i c2 hc;split at t
  ·split at t
   ·cases t
    exact hc
   ·cases t
  ·cases t
 ·cases t
end L2
namespace L2
open PySem PySem.Spec PyProof.Rows
theorem zrU {X:Cx}{params:Arguments}{body:Expr}{scope osc:Scope}{N ps caps:List Str}{cap:List Nat}(sc:zhM scope ps caps)
  (h1:∀ p∈scope.names,p.2=NameKind.free→osc.names.lookup p.1=some NameKind.cell) (h2:∀ p∈caps.zip cap,N[p.2]?=some p.1∧osc.names.lookup p.1=some NameKind.cell) (hl:caps.length=cap.length)
  (ho:X.env.scope=osc) (hN:X.N=N) (d:defaultsOf params X.env=([],[]))
  (b:∀(cl:List (Str×Addr)) (pm cdv ct:Value) (us:List Value),us.length=ps.length→bindArgs (PySem.W.kla_fn "<lambda>" (X.env.qual ++ "<lambda>") params body scope cl pm cdv ct) ⟨us,[]⟩=pure (ps.zip us))
  (o:∀ x,X.fn x=true):zqP X params body scope ps caps cap:=by
 have hk:∀ x,X.env.kindOf x=osc.names.lookup x:=fun x=>by
  unfold Env.kindOf;rw[ho]
 refine ⟨sc,fun x hx=>.inl ?_,fun j x hj=>?_,d,b,o⟩
 ·rw[hk];exact h1 (x,.free) hx rfl
 ·have hj':=(yap.mp hj).1;have hc:cap[j]?=some (cap[j]'(by omega)):=yac _;have hz:(caps.zip cap)[j]?=some (x,cap[j]'(by omega)):=by
   rw[List.getElem?_zip_eq_some];exact ⟨hj,hc⟩
  obtain ⟨a1,a2⟩:=h2 _ (yaJ hz);refine ⟨_,hc,?_,.inl ?_⟩
  ·rw[hN];exact a1
  ·rw[hk];exact a2
end L2
namespace L2
open PySem PySem.Spec PyProof.Rows PySem.SeqAt
structure Tri (α β γ:Type) where
 a:α
 b:β
 c:γ
theorem Tri.ext' {α β γ:Type}:∀{p q:Tri α β γ},p.a=q.a→p.b=q.b→p.c=q.c→p=q
 | ⟨_,_,_⟩,⟨_,_,_⟩,rfl,rfl,rfl=>rfl
instance {α β γ:Type} [DecidableEq α] [DecidableEq β] [DecidableEq γ]:DecidableEq (Tri α β γ):=fun p q=>
 if h1:p.a=q.a then if h2:p.b=q.b then if h3:p.c=q.c then .isTrue (Tri.ext' h1 h2 h3) else .isFalse fun z=>h3 (by rw[z]) else .isFalse fun z=>h2 (by rw[z]) else .isFalse fun z=>h1 (by rw[z])
theorem znp {x y z:V}{us:List Value}(r:Vals [x,y,z] us):∃ u v w,us=[u,v,w]∧RelV x u∧RelV y v∧RelV z w:=by
 cases r with
 | cons r1 r=>
  cases r with
  | cons r2 r=>
   cases r with
   | cons r3 r=>
    cases r
    exact ⟨_,_,_,rfl,r1,r2,r3⟩
def has3 {α β γ:Type}[Rep α][Rep β][Rep γ](K:Frag)(H:Hp)(p:Tri α β γ)(v:V):Prop:=∃ a x y z,v=.ref a∧H a=some (.tup [x,y,z])∧Rep.has K H p.a x∧Rep.has K H p.b y∧Rep.has K H p.c z
section
variable {α β γ:Type}[ra:Rep α][rb:Rep β][rc:Rep γ]{X:Cx}{pins:List (Addr×Obj)}{σ:St}{H:Hp}{s:Shared}{A:Around}{p q:Tri α β γ}{x y:V}{u v:Value}
theorem zkg (I:Inv X pins σ H s)(h1:has3 X.K H p x)(h2:has3 X.K H q x):p=q:=by
 obtain ⟨a,x1,x2,x3,rfl,q1,e1,e2,e3⟩:=h1;obtain ⟨b,y1,y2,y3,e,q2,f1,f2,f3⟩:=h2;cases e
 have z:=I.tuple_inj (SqT.of q2) (SqT.of q1);cases z
 exact Tri.ext' (Rep.inj I e1 f1) (Rep.inj I e2 f2) (Rep.inj I e3 f3)
theorem zls {p q:Tri α β γ}:((List.range (min 3 3)).all (fun j=>if j=0 then (Rep.dec p.a q.a).decide else if j=1 then (Rep.dec p.b q.b).decide else (Rep.dec p.c q.c).decide) && (3 == 3))=decide (p=q):=by
 rw[show List.range (min 3 3)=[0,1,2] from rfl];simp only[ybM,List.all_nil,yci,if_true,beq_self_eq_true];rw[if_neg (by decide),if_neg (by decide),if_neg (by decide)];have e1:(Rep.dec p.a q.a).decide=decide (p.a=q.a):=rfl;have e2:(Rep.dec p.b q.b).decide=decide (p.b=q.b):=rfl;have e3:(Rep.dec p.c q.c).decide=decide (p.c=q.c):=rfl;rw[e1,e2,e3];by_cases z1:p.a=q.a
 ·by_cases z2:p.b=q.b
  ·by_cases z3:p.c=q.c
   ·rw[yaj z1,yaj z2,yaj z3,yaj (Tri.ext' z1 z2 z3)];rfl
   ·have n:¬ p=q:=fun z=>z3 (by rw[z]);rw[yaf z3,yaf n];simp
  ·have n:¬ p=q:=fun z=>z2 (by rw[z]);rw[yaf z2,yaf n];simp
 ·have n:¬ p=q:=fun z=>z1 (by rw[z]);rw[yaf z1,yaf n];simp
theorem zhT (I:Inv X pins σ H s){B:Around}{x1 x2 x3 y1 y2 y3:V}{u1 u2 u3 v1 v2 v3:Value}(hin:∀ n,n≤Rep.depth α+Rep.depth β+Rep.depth γ→B.units+n < cLine)
  (e1:Rep.has X.K H p.a x1) (e2:Rep.has X.K H p.b x2) (e3:Rep.has X.K H p.c x3) (f1:Rep.has X.K H q.a y1) (f2:Rep.has X.K H q.b y2) (f3:Rep.has X.K H q.c y3) (r1:RelV x1 u1) (r2:RelV x2 u2) (r3:RelV x3 u3) (t1:RelV y1 v1) (t2:RelV y2 v2) (t3:RelV y3 v3) :
  ∀ j (h1:j < (#[u1,u2,u3]:Array Value).size) (h2:j < (#[v1,v2,v3]:Array Value).size),EqAt B s (#[u1,u2,u3]:Array Value)[j] (#[v1,v2,v3]:Array Value)[j] (if j=0 then (Rep.dec p.a q.a).decide else if j=1 then (Rep.dec p.b q.b).decide else (Rep.dec p.c q.c).decide):=by
 have c1:=Rep.eq (A:=B) I (hin _ (by omega)) e1 f1 r1 t1;have c2:=Rep.eq (A:=B) I (hin _ (by omega)) e2 f2 r2 t2;have c3:=Rep.eq (A:=B) I (hin _ (by omega)) e3 f3 r3 t3;intro j h1 h2;have h1':j < 3:=h1;have z:j=0∨j=1∨j=2:=by omega
 rcases z with rfl | rfl | rfl
 ·exact c1
 ·exact c2
 ·exact c3
theorem zmO (I:Inv X pins σ H s)(hu:A.units+(Rep.depth α+Rep.depth β+Rep.depth γ+1) < cLine)(h1:has3 X.K H p x)(h2:has3 X.K H q y)(r1:RelV x u)(r2:RelV y v):RcAt A s u v (decide (p=q)):=by
 obtain ⟨a,x1,x2,x3,rfl,q1,e1,e2,e3⟩:=h1;obtain ⟨b,y1,y2,y3,rfl,q2,f1,f2,f3⟩:=h2;cases r1
 cases r2
 obtain ⟨us,ru,pu,_⟩:=I.tuple (SqT.of q1);obtain ⟨vs,rv,pv,_⟩:=I.tuple (SqT.of q2);obtain ⟨u1,u2,u3,rfl,ru1,ru2,ru3⟩:=znp ru;obtain ⟨v1,v2,v3,rfl,rv1,rv2,rv3⟩:=znp rv;have hin:∀ n,n≤Rep.depth α+Rep.depth β+Rep.depth γ→A.in1.units+n < cLine:=fun n hn=>yaW (ybf zbQ _) (by omega);have:=RcAt.tuples (A:=A) (s:=s) (l:=a) (b:=b) (items:=#[u1,u2,u3]) (items2:=#[v1,v2,v3]) pu pv (by omega) (zhT (p:=p) (q:=q) I hin e1 e2 e3 f1 f2 f3 ru1 ru2 ru3 rv1 rv2 rv3);rw[← zls];exact this
theorem zqu (I:Inv X pins σ H s)(hu:A.units+(Rep.depth α+Rep.depth β+Rep.depth γ+1) < cLine)(h1:has3 X.K H p x)(h2:has3 X.K H q y)(r1:RelV x u)(r2:RelV y v):RcNeAt A s u v (!decide (p=q)):=by
 obtain ⟨a,x1,x2,x3,rfl,q1,e1,e2,e3⟩:=h1;obtain ⟨b,y1,y2,y3,rfl,q2,f1,f2,f3⟩:=h2;cases r1
 cases r2
 obtain ⟨us,ru,pu,_⟩:=I.tuple (SqT.of q1);obtain ⟨vs,rv,pv,_⟩:=I.tuple (SqT.of q2);obtain ⟨u1,u2,u3,rfl,ru1,ru2,ru3⟩:=znp ru;obtain ⟨v1,v2,v3,rfl,rv1,rv2,rv3⟩:=znp rv;have hin:∀ n,n≤Rep.depth α+Rep.depth β+Rep.depth γ→A.in1.units+n < cLine:=fun n hn=>yaW (ybf zbQ _) (by omega);have:=RcNeAt.tuples (A:=A) (s:=s) (l:=a) (b:=b) (items:=#[u1,u2,u3]) (items2:=#[v1,v2,v3]) pu pv (by omega) (zhT (p:=p) (q:=q) I hin e1 e2 e3 f1 f2 f3 ru1 ru2 ru3 rv1 rv2 rv3);rw[← zls];exact this
theorem zqv (I:Inv X pins σ H s)(hu:A.units+(Rep.depth α+Rep.depth β+Rep.depth γ+1) < cLine)(h1:has3 X.K H p x)(h2:has3 X.K H q y)(r1:RelV x u)(r2:RelV y v):EqAt A s u v (decide (p=q)):=by
 have rc:=zmO (A:=A) I hu h1 h2 r1 r2;have h1':=id h1;have h2':=id h2;obtain ⟨a,x1,x2,x3,rfl,q1,e1,e2,e3⟩:=h1;obtain ⟨b,y1,y2,y3,rfl,q2,f1,f2,f3⟩:=h2;cases r1
 cases r2
 by_cases hab:a=b
 ·subst hab;rw[yaj (zkg I h1' h2')];exact EqAt.same _
 ·exact EqAt.of_refs hab rc
end
instance {α β γ:Type} [Rep α] [Rep β] [Rep γ]:Rep (Tri α β γ) where
 dec:=inferInstance
 depth:=Rep.depth α+Rep.depth β+Rep.depth γ+1
 has:=has3
 mono:=fun e ⟨a,x,y,z,h1,h2,h3,h4,h5⟩=>⟨a,x,y,z,h1,e _ _ h2 (fun _ z=>nomatch z),Rep.mono e h3,Rep.mono e h4,Rep.mono e h5⟩
 inj:=fun I h1 h2=>zkg I h1 h2
 rc:=fun I hu h1 h2 r1 r2=>zmO I hu h1 h2 r1 r2
 rn:=fun I hu h1 h2 r1 r2=>zqu I hu h1 h2 r1 r2
 eq:=fun I hu h1 h2 r1 r2=>zqv I hu h1 h2 r1 r2
end L2
namespace L2
open PySem PySem.Spec PyProof.Rows
structure DM (K:Frag)(C:Addr)(m q:Str)(st:Stmt)(ps:List Str):Prop where
 ex:∃ f fd,Fun K m q st f fd∧zdc K fd ps []∧Meth K C m f
structure FM (P:Program)(w:World)(K:Frag)(mg:Str→Option Value)(base:Heap)(C:Addr)(k:Nat)(m:Str)(ps:List Str)(sp:Sp):Prop where
 ex:∃ f fd,FnOk P w K mg base CX0 k f fd ps sp∧zdc K fd ps []∧Meth K C m f∧∃ oc od osl,K.lookup f=some ⟨oc,od,.func fd,osl⟩
structure DI (K:Frag)(C:Addr)(q:Str)(st:Stmt)(ps:List Str):Prop where
 ex:∃ f fd,Fun K "__init__" q st f fd∧zdc K fd ps []∧Mk K C f
structure FI (P:Program)(w:World)(K:Frag)(mg:Str→Option Value)(base:Heap)(C:Addr)(k:Nat)(ps:List Str)(sp:Sp):Prop where
 ex:∃ f fd,FnOk P w K mg base CX0 k f fd ps sp∧zdc K fd ps []∧Mk K C f
section
variable {P:Program}{w:World}{K:Frag}{mg:Str→Option Value}{base:Heap}{C:Addr}{m q:Str}{st:Stmt}{N ps:List Str}{k:Nat}{sp:Sp}
theorem DM.ok (D:DM K C m q st ps)(S:zap N ps (zah st))(len:∀ vs H Q E,sp vs H Q E→vs.length=ps.length)
  (hbody:∀(f:Addr) (cdv:Value) (A:Around) (outer:List Env) (s:Shared) (H:Hp) (vs:List V) (Q:VK) (E:XK),Room k (A.deeper (envOfC q (zah st) s.heap.objs.size f cdv))→sp vs H Q E→
   ∃ t,PSs (cxOf CX0 P w K mg base N q (zah st) f cdv A outer s H E).nox (za3 st) t∧t { nx:=fun _ H'=>Q .non H',rt:=Q } (zcX N vs) H):FM P w K mg base C (k+1) m ps sp:=by
 obtain ⟨f,fd,F,b,me⟩:=D.ex;exact ⟨f,fd,F.ok S len fun cdv A outer s H vs Q E hr h=>hbody f cdv A outer s H vs Q E hr h,b,me,by
  obtain ⟨oc,od,kV,doc,pm,an,cdv,ct,osl,rfl,lk,hcd⟩:=F.ex;exact ⟨oc,od,osl,lk⟩⟩
theorem DI.ok (D:DI K C q st ps)(S:zap N ps (zah st))(len:∀ vs H Q E,sp vs H Q E→vs.length=ps.length)
  (hbody:∀(f:Addr) (cdv:Value) (A:Around) (outer:List Env) (s:Shared) (H:Hp) (vs:List V) (Q:VK) (E:XK),Room k (A.deeper (envOfC q (zah st) s.heap.objs.size f cdv))→sp vs H Q E→
   ∃ t,PSs (cxOf CX0 P w K mg base N q (zah st) f cdv A outer s H E).nox (za3 st) t∧t { nx:=fun _ H'=>Q .non H',rt:=Q } (zcX N vs) H):FI P w K mg base C (k+1) ps sp:=by
 obtain ⟨f,fd,F,b,me⟩:=D.ex;exact ⟨f,fd,F.ok S len fun cdv A outer s H vs Q E hr h=>hbody f cdv A outer s H vs Q E hr h,b,me⟩
end
section
variable {X:Cx}{j k:Nat}{C:Addr}{m x:Str}{ps:List Str}{sp:Sp}{o e:Expr}{es:List Expr}{ta:TE}{t:TA}{p pos apos:Pos}
theorem zfj {pl:Sem Bool}(F:FM X.prog X.w X.K X.mg X.base C j m ps sp)(c:Cls X.K C)(hr:Room k X.A)(he:PE X o ta)(ha:PA X (e::es) t)(hjk:j≤k:=by decide)
  (hst:starEach (e::es) X.env=(false,eval e X.env)::starEach es X.env:=by rfl) (hpl:(backTo pos (starEach es X.env)).any (·.1)=false:=by rfl)
  (ht:eval (.Call (.Attribute o m apos) (e::es) [] pos) X.env=(do
   let ov ← eval o X.env
   standAt apos.atName
   let (f,first) ← holding [ov] (getMethod ov m pl)
   callWith pos f first (backTo pos (starEach (e::es) X.env)) (backToKw pos (keywordEach [] X.env))):=by rfl) :
  PE X (.Call (.Attribute o m apos) (e::es) [] pos) (znx C m sp [] E0 ta t):=by
 obtain ⟨f,fd,ok,b,me,_⟩:=F.ex;exact zpW he c me ok (hr.mono hjk) b .nil zlY ha hst hpl ht
theorem zlX {pl:Sem Bool}(F:FM X.prog X.w X.K X.mg X.base C j m ps sp)(c:Cls X.K C)(hr:Room k X.A)(he:PE X o ta)(hjk:j≤k:=by decide)
  (ht:eval (.Call (.Attribute o m apos) [] [] pos) X.env=(do
   let ov ← eval o X.env
   standAt apos.atName
   let (f,first) ← holding [ov] (getMethod ov m pl)
   callWith pos f first (backTo pos (starEach [] X.env)) (backToKw pos (keywordEach [] X.env))):=by rfl) :
  PE X (.Call (.Attribute o m apos) [] [] pos) (znx C m sp [] E0 ta tNil):=by
 obtain ⟨f,fd,ok,b,me,_⟩:=F.ex;exact znN he c me ok (hr.mono hjk) b .nil zlY ht
theorem zrs (F:FI X.prog X.w X.K X.mg X.base C j ps sp)(hr:Room k X.A)(hm:X.mg x=some (.ref C))(ha:PA X (e::es) t)(hjk:j+1≤k:=by decide)(hg:Gl X x:=by rfl)
  (hdb:(x == ("__debug__" : Str))=false:=by decide) (he:starEach (e::es) X.env=(false,eval e X.env)::starEach es X.env:=by rfl) (hpl:(backTo pos (starEach es X.env)).any (·.1)=false:=by rfl) :
  PE X (.Call (.Name x p) (e::es) [] pos) (zqY C sp [] E0 t):=by
 obtain ⟨f,fd,ok,b,me⟩:=F.ex;exact zpX me ok (hr.mono hjk) hg hm b .nil zlY ha hdb he hpl
end
end L2
namespace L2
open PySem PySem.Spec PyProof.Rows
section
variable {X:Cx}
theorem zl6 (hu:X.A.units+1 < cLine):OpR X (compareOp .NotIn) (fun x y H Q=>∃ a o,y=.ref a∧DGet H a x o∧Q (.bl (!o.isSome)) H):=by
 intro pins s σ H x y v u Q I rx ry h;obtain ⟨a,o,rfl,g,q⟩:=h;cases ry
 exact zqE hu I g rx fun s' I'=>⟨.bl _,H,I',rfl,q⟩
theorem zkH {A:Around}(hu:A.units+1 < cLine)(hA:X.A=A:=by rfl):OpR X (compareOp .NotIn) (fun x y H Q=>∃ a o,y=.ref a∧DGet H a x o∧Q (.bl (!o.isSome)) H):=by
 subst hA;exact zl6 hu
end
end L2
namespace L2
open PySem PySem.Spec PyProof.Rows
section
variable {X:Cx}
def zrl (K:Frag):R2:=fun x y H Q=>∃ a b xs ys,x=.ref a∧y=.ref b∧SqT K H a xs∧SqT K H b ys∧xs.length+ys.length≤sizeLine∧
 (xs=[]→Q (.ref b) H)∧(xs≠[]→(ys=[]→Q (.ref a) H)∧(ys≠[]→∀ p,H p=none→Q (.ref p) (upd H p (.tup (xs++ys)))))
theorem zl8:OpR X (binaryOp .Add) (zrl X.K):=by
 intro pins s σ H x y v u Q I rx ry h;obtain ⟨a,b,xs,ys,e1,e2,ha,hb,hz,q1,q2⟩:=h;by_cases hx:xs=[]
 ·subst e1 e2;cases rx
  cases ry
  obtain ⟨its,r1,p1,_⟩:=I.tuple ha;obtain ⟨its2,r2,p2,_⟩:=I.tuple hb;obtain ⟨⟨cls,dd,data,sl⟩,ho,hc,n,hd⟩:=id p1;obtain ⟨⟨cls2,dd2,data2,sl2⟩,ho2,hc2,n2,hd2⟩:=id p2;simp only at hc hd hc2 hd2;subst hc hd hc2 hd2;have hv:its=[]:=r1.nil_iff.mpr hx;exact concat_meets ⟨_,ho,rfl⟩ ⟨_,ho2,rfl⟩ noFill_tuple_add seq_tuple_add PySem.F.slot_tuple_add PySem.F.entry_tuple_add (PySem.F.args_tuple_add_2 _ _)
   (tuple_addW0 a b its.toArray its2.toArray n n2 dd dd2 sl sl2 (by simp[hv])) ⟨ho,ho2,.ref b,H,I,rfl,q1 hx⟩
 ·exact zf2 pins s σ H x y v u Q I rx ry ⟨a,b,xs,ys,e1,e2,ha,hb,hx,hz,fun z=>(q2 hx).1 z,fun z=>(q2 hx).2 z⟩
end
end L2
namespace L2
open PySem PySem.Spec PyProof.Rows
theorem zbe.there {P:Program}{w:World}{H:Hp}{h:Heap}{a:Addr}{o:HO}(x:zbe P w H h a o):∃ ob,h.get? a=some ob:=by
 cases o with
 | lst xs=>obtain ⟨_,_,_,_,e⟩:=x;exact ⟨_,e⟩
 | tup xs=>obtain ⟨_,_,_,o,e,_⟩:=x;exact ⟨_,e⟩
 | dK kvs=>obtain ⟨_,_,_,_,o,_,_,e,_⟩:=x;exact ⟨_,e⟩
 | dT kvs=>obtain ⟨_,_,_,_,o,_,_,e,_⟩:=x;exact ⟨_,e⟩
 | set S n=>obtain ⟨o,_,_,_,e,_⟩:=x;exact ⟨_,e⟩
 | ins C dx fs=>obtain ⟨_,_,_,e,_⟩:=x;exact ⟨_,e⟩
 | own y=>obtain ⟨o,e⟩:=x;exact ⟨o,e⟩
 | xd fs=>obtain ⟨_,⟨o,_,_,e,_⟩,_⟩:=x;exact ⟨_,e⟩
 | rng lo hi=>obtain ⟨_,_,_,e⟩:=x;exact ⟨_,e⟩
 | frz ob u=>obtain ⟨e,_⟩:=x;exact ⟨_,e⟩
 | tbl ps=>exact ⟨_,(show h.get? a=some _ from x)⟩
 | met f y=>exact ⟨_,(show h.get? a=some _ from x)⟩
 | ext φ=>obtain ⟨_,⟨o,e⟩,_⟩:=x;exact ⟨o,e⟩
structure Air (P:Program)(w:World)(l:List Env)(H:Hp)(old:Heap)(a:Addr)(cls fl:Value)(H':Hp)(h:Heap):Prop where
 un:Un (frs l) [] H H' old h
 hok:HOk P w H' h
 ua:H' a=none
 na:old.get? a=none
 uf:∀ b∈frs l,H' b=none
 nf:∀ b∈frs l,∃ o,h.get? b=some o∧∀ vs,o.data≠.fields vs
 tr:∃(a0:Value) (oe:Obj) (vs:Array Value) (T:Addr) (oT:Obj) (ts:Array Value),(h.get? a=some oe∧(oe.cls=cls∧vs[0]?=some a0)∧oe.data=.fields vs∧vs[1]?=some (.ref T)∧T≠a∧h.get? T=some oT∧oT.data=.fields ts∧ts[3]?=some fl)∧H' T=none∧old.get? T=none
section
variable {P:Program}{w:World}{l:List Env}{H H':Hp}{old h h':Heap}{a:Addr}{cls fl fl':Value}
theorem Air.step (x:Air P w l H old a cls fl H' h)(hl:∀ B:Heap,(∀ b,b∈frs l→B.get? b=none)→∀ h:Heap,(∀ b∈frs l,∃ o,h.get? b=some o∧∀ vs,o.data≠.fields vs)→h.FunFrames B l) :
  ∃(B:Heap) (a0:Value),B.StaysIn h∧B.get? a=none∧h.FunFrames B l∧h.TracedAtW B a cls a0 fl∧
   ∀(h':Heap) (fl':Value),B.StaysIn h'→h.UpToSlots h'→h'.TracedAtW B a cls a0 fl'→Air P w l H old a cls fl' H' h':=by
 obtain ⟨a0,oe,vs,T,oT,ts,⟨e1,e2,e3,e4,e5,e6,e7,e8⟩,u1,u2⟩:=x.tr;have hB:∀ b o,h.get? b=some o→b≠a→b≠T→b∉frs l→(PySem.W.hideAll h (a::T::frs l)).get? b=some o:=fun b o e n1 n2 n3=>PySem.W.hideAll_get _ e fun hm=>by
  rcases yah.mp hm with z | hm
  ·exact n1 z
  rcases yah.mp hm with z | hm
  ·exact n2 z
  ·exact n3 hm
 refine ⟨PySem.W.hideAll h (a::T::frs l),a0,fun b o q=>PySem.W.of_hideAll _ q,PySem.W.hideAll_none _ yaA,hl _ (fun b hb=>PySem.W.hideAll_none _ (yau _ (yau _ hb))) h x.nf,?_,?_⟩
 ·exact ⟨oe,vs,T,oT,ts,e1,e2,e3,e4,PySem.W.hideAll_none _ (yau _ yaA),e5,e6,e7,e8⟩
 intro h' fl' k1 k2 k3;have kT:∀ b o,h.get? b=some o→b≠a→b≠T→∃ sl,h'.get? b=some { o with slots:=sl }:=fun b o e n1 n2=>by
  by_cases hb:b∈frs l
  ·obtain ⟨o',q,nf⟩:=x.nf b hb;rw[e]at q;cases q
   exact k2 b o e nf
  ·exact ⟨o.slots,k1 b o (hB b o e n1 n2 hb)⟩
 have ne:∀ b u,H' b=some u→b≠a∧b≠T∧b∉frs l:=fun b u e=>⟨zad e x.ua,zad e u1,fun hb=>(by rw[x.uf b hb]at e;cases e)⟩
 have ne2:∀ b o,old.get? b=some o→b≠a∧b≠T:=fun b o e=>⟨fun z=>(by rw[z,x.na]at e;cases e),fun z=>(by rw[z,u2]at e;cases e)⟩
 refine ⟨⟨fun b o e n hb hx=>?_,fun b o e n hb hx=>?_,x.un.free,fun b o e hx=>?_,x.un.tups,x.un.frzs,x.un.tbls⟩,fun b u e=>?_,x.ua,x.na,x.uf,fun b hb=>?_,?_⟩
 ·exact k1 b o (hB b o (x.un.keep b o e n hb hx) (ne2 b o e).1 (ne2 b o e).2 hb)
 ·obtain ⟨sl,q⟩:=x.un.slot b o e n hb hx;obtain ⟨sl',q'⟩:=kT b _ q (ne2 b o e).1 (ne2 b o e).2;exact ⟨sl',q'⟩
 ·obtain ⟨o',q⟩:=x.un.there b o e hx;obtain ⟨sl',q'⟩:=kT b _ q (ne2 b o e).1 (ne2 b o e).2;exact ⟨_,q'⟩
 ·refine (x.hok b u e).stay (fun c v hc q=>?_) (fun _ q=>q) fun _ _ q=>q;have hc':∃ z,H' c=some z:=by
   rcases hc with rfl | z
   ·exact ⟨_,e⟩
   ·exact ⟨_,z⟩
  obtain ⟨z,ez⟩:=hc';exact k1 c v (hB c v q (ne c z ez).1 (ne c z ez).2.1 (ne c z ez).2.2)
 ·obtain ⟨o,q,nf⟩:=x.nf b hb;obtain ⟨sl,q'⟩:=k2 b o q nf;exact ⟨_,q',nf⟩
 ·obtain ⟨oe',vs',T',oT',ts',f1,f2,f3,f4,f5,f6,f7,f8,f9⟩:=k3;have hnT:T'∉frs l:=fun hb=>by
   obtain ⟨o,q,nf⟩:=x.nf T' hb;obtain ⟨sl,q'⟩:=k2 T' o q nf;rw[f7]at q';cases q'
   exact nf _ f8
  have hno:∀ o,h.get? T'=some o→T'=T:=fun o e=>Decidable.byContradiction fun z=>by
   rw[hB T' o e f6 z hnT]at f5;cases f5
  refine ⟨a0,oe',vs',T',oT',ts',⟨f1,f2,f3,f4,f6,f7,f8,f9⟩,?_,?_⟩
  ·cases e:H' T' with
   | none=>rfl
   | some u=>
    obtain ⟨o,q⟩:=(x.hok T' u e).there;rw[hno o q,u1]at e;cases e
  ·cases e:old.get? T' with
   | none=>rfl
   | some o=>
    obtain ⟨o',q⟩:=x.un.there T' o e (by simp);rw[hno o' q,u2]at e;cases e
end
theorem zeG {base h0:Heap}:∀{l:List Env},h0.FunFrames base l→∀ B h:Heap,(∀ b,b∈frs l→B.get? b=none)→(∀ b∈frs l,∃ o,h.get? b=some o∧∀ vs,o.data≠.fields vs)→h.FunFrames B l
 | [],_,_,_,_,_=>trivial
 | env::r,⟨hk,⟨L,o,hf,_,_,_⟩,hr⟩,B,h,hB,hh=>by
  have e:frs (env::r)=L::frs r:=by unfold frs;rw[ybx,hf]
  rw[e]at hB hh;obtain ⟨o',q,nf⟩:=hh L yaA;exact ⟨hk,⟨L,o',hf,hB L yaA,q,nf⟩,zeG hr B h (fun b hb=>hB b (yau _ hb)) fun b hb=>hh b (yau _ hb)⟩
def CXE (P:Program)(w:World):CXT:=fun outer H s E e s'=>∃(a:Addr) (cls:Value) (H':Hp),e=.ref a∧s'.os=s.os∧AllBare s'.gens∧Air P w outer H s.heap a cls .none H' s'.heap∧E cls none H'
section
variable {P:Program}{w:World}{K:Frag}{mg:Str→Option Value}{base:Heap}{N:List Str}{q:Str}{sc:Scope}{f:Addr}{cd:Value}{A:Around}{outer:List Env}{s0:Shared}{H0:Hp}{E:XK}
abbrev cxE (P:Program)(w:World)(K:Frag)(mg:Str→Option Value)(base:Heap)(N:List Str)(q:Str)(sc:Scope)(f:Addr)(cd:Value)(A:Around)(outer:List Env)(s0:Shared)(H0:Hp)(E:XK):Cx:=cxOf (CXE P w) P w K mg base N q sc f cd A outer s0 H0 E
theorem zsb {X:Cx}{pins:List (Addr×Obj)}{σ:St}{H:Hp}{s:Shared}(I:Inv X pins σ H s):∀ b∈frs X.stack,∃ o,s.heap.get? b=some o∧∀ vs,o.data≠.fields vs:=fun b hb=>(I.stack.mem hb).2
theorem Air.out {pins:List (Addr×Obj)}{σ:St}{H H':Hp}{s:Shared}{h:Heap}{a:Addr}{cls fl:Value}(I:Inv (cxE P w K mg base N q sc f cd A outer s0 H0 E) pins σ H s)(x:Air P w (envOfC q sc s0.heap.objs.size f cd::outer) H s.heap a cls fl H' h):Air P w outer H0 s0.heap a cls fl H' h:=by
 have ef:frs (envOfC q sc s0.heap.objs.size f cd::outer)=s0.heap.objs.size::frs outer:=rfl;have nl:∀ b o,s0.heap.get? b=some o→b≠s0.heap.objs.size:=fun b o e=>yam (yae e);have nx:∀ b:Addr,b∉(cxE P w K mg base N q sc f cd A outer s0 H0 E).ex:=fun b z=>absurd (show b∈([]:List Addr) from z) (by simp);obtain ⟨a0,oe,vs,T,oT,ts,tr,u1,u2⟩:=x.tr;have old:∀ b,s.heap.get? b=none→s0.heap.get? b=none:=fun b e=>by
  cases z:s0.heap.get? b with
  | none=>rfl
  | some o=>
   obtain ⟨o',e'⟩:=I.base.there b o z (nx b);rw[e]at e';cases e'
 refine ⟨⟨fun b o e n hb hx=>?_,fun b o e n hb hx=>?_,fun b o e n hx=>?_,fun b o e hx=>?_,fun b xs e=>x.un.tups b xs (I.base.tups b xs e),fun b o u e=>x.un.frzs b o u (I.base.frzs b o u e),fun b ps e=>?_⟩,x.hok,x.ua,old a x.na,fun b hb=>x.uf b (by rw[ef];exact yau _ hb),fun b hb=>x.nf b (by rw[ef];exact yau _ hb),a0,oe,vs,T,oT,ts,tr,u1,old T u2⟩
 ·exact x.un.keep b o (I.base.keep b o e n hb (nx b)) (I.base.free b o e n (nx b)) (by rw[ef];exact fun z=>(yah.mp z).elim (nl b o e) hb) hx
 ·obtain ⟨sl,e1⟩:=I.base.slot b o e n hb (nx b);obtain ⟨sl',e2⟩:=x.un.slot b _ e1 (I.base.free b o e n (nx b)) (by rw[ef];exact yau _ hb) hx;exact ⟨sl',e2⟩
 ·obtain ⟨o',e'⟩:=I.base.there b o e (nx b);exact x.un.free b o' e' (I.base.free b o e n (nx b)) hx
 ·obtain ⟨o',e'⟩:=I.base.there b o e (nx b);exact x.un.there b o' e' hx
 ·obtain ⟨m1,e1⟩:=I.base.tbls b ps e;obtain ⟨m2,e2⟩:=x.un.tbls b _ e1;exact ⟨m1++m2,by rw[e2,Array.append_assoc]⟩
theorem zkE:zd3 (CXE P w) (cxE P w K mg base N q sc f cd A outer s0 H0 E) E:=by
 intro pins σ H s e s' I h;obtain ⟨a,cls,H',rfl,ho,hb,x,hE⟩:=h;obtain ⟨B,a0,b1,b2,b3,b4,next⟩:=x.step fun B hB h hh=>zeG I.stack B h hB hh
 show wpAny _ _ (leaving _ _) _ _ _;refine wpAny_leaves_onW (base:=B) (cls:=cls) (a0:=a0) I.ok.frames rfl ⟨b1,b2,b3,b4⟩ fun h' k1 k2=>?_;exact ⟨a,cls,H',rfl,ho.trans I.os,hb,(next h' .none k1.1 k2 k1.2.2.2).out I,hE⟩
theorem zqT {pins:List (Addr×Obj)}{σ:St}{H:Hp}{s:Shared}{h':Heap}{a:Addr}{cls:Value}{vs:List Value}(I:Inv (cxE P w K mg base N q sc f cd A outer s0 H0 E) pins σ H s)(m:Heap.MadeExcOf s.heap h' a cls vs)(hE:E cls none H) :
  (cxE P w K mg base N q sc f cd A outer s0 H0 E).xe (.ref a) { s with heap:=h' }:=by
 have hin:=zsb I;have hB:∀ b o,s.heap.get? b=some o→b∉frs (envOfC q sc s0.heap.objs.size f cd::outer)→(PySem.W.hideAll s.heap (frs (envOfC q sc s0.heap.objs.size f cd::outer))).get? b=some o:=fun b o e n=>PySem.W.hideAll_get _ e n;show wpAny _ _ (leaving _ _) _ _ _;refine wpAny_leaves_madeW (base:=PySem.W.hideAll s.heap (frs (envOfC q sc s0.heap.objs.size f cd::outer))) I.ok.frames rfl (fun b o q=>PySem.W.of_hideAll _ q) (zeG I.stack _ _ (fun b hb=>PySem.W.hideAll_none _ hb) hin) m fun h2 t k1 k2 k3 k4=>?_;obtain ⟨k11,k12,k13,oe,ws,T,oT,ts,f1,f2,f3,f4,f5,f6,f7,f8,f9⟩:=k1;have kT:∀ b o,s.heap.get? b=some o→∃ sl,h2.get? b=some { o with slots:=sl }:=fun b o e=>by
  by_cases hb:b∈frs (envOfC q sc s0.heap.objs.size f cd::outer)
  ·obtain ⟨o',z,nf⟩:=hin b hb;rw[e]at z;cases z
   exact k4 b o (m.keeps b o e) nf
  ·exact ⟨o.slots,k11 b o (hB b o e hb)⟩
 have trk:∀ b u,H b=some u→∃ o,s.heap.get? b=some o∧b∉frs (envOfC q sc s0.heap.objs.size f cd::outer):=fun b u e=>by
  obtain ⟨o,z⟩:=(I.hok b u e).there;exact ⟨o,z,fun hb=>(by rw[I.stkFree b hb]at e;cases e)⟩
 have hnT:T∉frs (envOfC q sc s0.heap.objs.size f cd::outer):=fun hb=>by
  obtain ⟨o,z,nf⟩:=hin T hb;obtain ⟨sl,z'⟩:=kT T o z;rw[f7]at z';cases z'
  exact nf _ f8
 have x:Air P w (envOfC q sc s0.heap.objs.size f cd::outer) H s.heap a cls .none H h2:=by
  refine ⟨⟨fun b o e n hb hx=>k11 b o (hB b o e hb),fun b o e n hb hx=>kT b o e,fun b o e n hx=>n,fun b o e hx=>?_,fun b xs e=>e,fun b o u e=>e,fun b ps e=>⟨#[],by rw[e];simp⟩⟩,fun b u e=>?_,?_,m.new,I.stkFree,fun b hb=>?_,.ref t,oe,ws,T,oT,ts,⟨f1,f2,f3,f4,f6,f7,f8,f9⟩,?_,?_⟩
  ·obtain ⟨sl,z⟩:=kT b o e;exact ⟨_,z⟩
  ·refine (I.hok b u e).stay (fun c v hc z=>?_) (fun _ q=>q) fun _ _ q=>q;have hc':∃ y,H c=some y:=by
    rcases hc with rfl | y
    ·exact ⟨_,e⟩
    ·exact ⟨_,y⟩
   obtain ⟨y,ey⟩:=hc';obtain ⟨o,_,n⟩:=trk c y ey;exact k11 c v (hB c v z n)
  ·cases e:H a with
   | none=>rfl
   | some u=>
    obtain ⟨o,z,_⟩:=trk a u e;rw[m.new]at z;cases z
  ·obtain ⟨o,z,nf⟩:=hin b hb;obtain ⟨sl,z'⟩:=kT b o z;exact ⟨_,z',nf⟩
  ·cases e:H T with
   | none=>rfl
   | some u=>
    obtain ⟨o,z,n⟩:=trk T u e;rw[hB T o z n]at f5;cases f5
  ·cases e:s.heap.get? T with
   | none=>rfl
   | some o=>
    rw[hB T o e hnT]at f5;cases f5
 exact ⟨a,cls,H,rfl,I.os,I.bare,x.out I,hE⟩
end
end L2
namespace L2
open PySem PySem.Spec PyProof.Rows
abbrev zkt:List Value:=[.type "ValueError",.type "Exception",.type "BaseException",.type "object"]
theorem zqB {K:Frag}{h:Heap}{C:Addr}{bmB:List Value}{newId:String}(X:K.In h)(q:PySem.W.excIn K C bmB newId=true) :
  ∃ bm N nm qn bs hdct sn sub ab col dd k0 k1 k2 k3 k5,∃ mN:Str→Option Value,h.get? C=some (excClassObj nm qn C N bs bm hdct sn sub ab col dd k0 k1 k2 k3 k5 newId)∧h.Ns N mN∧mN "__init__" = none∧OwnTail h bmB bm:=by
 unfold PySem.W.excIn at q;split at q
 rotate_left
 ·exact absurd q (by decide)
 rename_i dct cdt slots hlook;split at q
 rotate_left
 ·exact absurd q (by decide)
 rename_i C2 tail s0 s1 s2 s3 nid s5 hmro hslots;simp only[ybo,beq_iff_eq,ybE]at q;obtain ⟨⟨⟨⟨⟨z1,z2⟩,z3⟩,z4⟩,z5⟩,z6⟩:=q;subst z1 z2;obtain ⟨cnm,cbs,cmro,cns,cqn,chd,csn,csub,cab,ccol,cdel⟩:=cdt;dsimp only at hmro z3 z5 z6;subst hmro z3;obtain ⟨ls⟩:=slots;dsimp only at hslots;subst hslots;exact ⟨tail,cns,cnm,cqn,cbs,chd,csn,csub,cab,ccol,dct,s0,s1,s2,s3,s5,_,X _ _ hlook,.of_isNs (PySem.W.isNs_of_in X z5),PySem.W.nsMap_none_of_in X z5 z6,PySem.W.tail_of_in X z4⟩
structure Exc (K:Frag)(mg:Str→Option Value)(x:Str)(C:Addr):Prop where
 nm:mg x=some (.ref C)
 ex:PySem.W.excIn K C zkt "ValueError.__new__" = true
def Thr (X:Cx)(E:XK):Prop:=∀(pins:List (Addr×Obj)) (σ:St) (H:Hp) (s:Shared) (h':Heap) (a:Addr) (cls:Value) (vs:List Value),Inv X pins σ H s→Heap.MadeExcOf s.heap h' a cls vs→E cls none H→X.xe (.ref a) { s with heap:=h' }
theorem thrX {P:Program}{w:World}{K:Frag}{mg:Str→Option Value}{base:Heap}{N:List Str}{q:Str}{sc:Scope}{f:Addr}{cd:Value}{A:Around}{outer:List Env}{s0:Shared}{H0:Hp}{E:XK}:Thr (cxE P w K mg base N q sc f cd A outer s0 H0 E) E:=fun _ _ _ _ _ _ _ _ I m hE=>zqT I m hE
def zqW (C:Addr)(E:XK)(t:TA):TS:=fun _ σ H=>t σ H fun vs H1=>vs.length≤sizeLine∧E (.ref C) none H1
section
variable {X:Cx}{x:Str}{C:Addr}{E:XK}{e:Expr}{es:List Expr}{t:TA}{np cpos pos:Pos}
theorem zdH (O:Exc X.K X.mg x C)(hT:Thr X E)(hc:X.calm=true)(hg:Gl X x)(ha:PA X (e::es) t)(hd:(x == ("__debug__" : Str))=false:=by decide)(he:starEach (e::es) X.env=(false,eval e X.env)::starEach es X.env:=by rfl)(hpl:(backTo cpos (starEach es X.env)).any (·.1)=false:=by rfl) :
  PS X (.Raise (some (.Call (.Name x np) (e::es) [] cpos)) none pos) (zqW C E t):=by
 intro pins s σ H D I h;obtain ⟨bm,Nn,nm,qn,bs,hdct,sn,sub,ab,col,dd,k0,k1,k2,k3,k5,mN,hC,hN,hni,T⟩:=zqB I.mod.kin O.ex;refine wpAny_Raise_call_subT (C:=C) (nm:=nm) (q:=qn) (N:=Nn) (bs:=bs) (bm:=bm) (hdct:=hdct) (sn:=sn) (sub:=sub) (ab:=ab) (col:=col) (dd:=dd) (k0:=k0) (k1:=k1) (k2:=k2) (k3:=k3) (k5:=k5)
  F.excBase_ValueError (mN:=mN) (T.hasType F.excBase_ValueError.hasBase) (I.ok.hd hc) (by rw[he];exact hpl) hni (zd8 I hg O.nm ⟨rfl,?_⟩ hd)
 have h1:=ha cpos pins s σ H _ I h;rw[he]at h1 ⊢;refine Calls.evalArgs_plain (thn h1 fun us s1 zq0=>?_);obtain ⟨vs,H1,I1,r,hl,hE⟩:=zq0;exact ⟨rfl,by rw[← r.length];exact hl,I1.bk _ _ hC,hN.keeps I1.bk,T.keeps I1.bk,fun h' a m=>hT pins σ H1 s1 h' a _ _ I1 m hE⟩
end
structure FX (P:Program)(w:World)(K:Frag)(mg:Str→Option Value)(base:Heap)(k:Nat)(x:Str)(ps:List Str)(sp:Sp):Prop where
 ex:∃ f fd,FnOk P w K mg base (CXE P w) k f fd ps sp∧zdc K fd ps []∧keepIn K (.ref f)=true∧mg x=some (.ref f)∧∃ oc od osl,K.lookup f=some ⟨oc,od,.func fd,osl⟩
theorem DF.okx {P:Program}{w:World}{K:Frag}{mg:Str→Option Value}{base:Heap}{x:Str}{st:Stmt}{N ps:List Str}{k:Nat}{sp:Sp}(D:DF K mg x st ps)(S:zap N ps (zah st))(len:∀ vs H Q E,sp vs H Q E→vs.length=ps.length)
  (hbody:∀(f:Addr) (cdv:Value) (A:Around) (outer:List Env) (s:Shared) (H:Hp) (vs:List V) (Q:VK) (E:XK),Room k (A.deeper (envOfC x (zah st) s.heap.objs.size f cdv))→sp vs H Q E→
   ∃ t,PSs (cxE P w K mg base N x (zah st) f cdv A outer s H E) (za3 st) t∧t { nx:=fun _ H'=>Q .non H',rt:=Q } (zcX N vs) H):FX P w K mg base (k+1) x ps sp:=by
 obtain ⟨f,fd,F,b,m⟩:=D.ex;obtain ⟨oc,od,kV,doc,pm,an,cdv,ct,osl,rfl,lk,hcd⟩:=F.ex;exact ⟨f,_,zoA lk hcd S len fun A outer s H vs Q E hr hsp=>hbody f cdv A outer s H vs Q E hr hsp,b,F.kp,m,oc,od,osl,lk⟩
section
variable {X:Cx}{j k:Nat}{x:Str}{ps:List Str}{sp:Sp}{e:Expr}{es:List Expr}{t:TA}{p pos:Pos}{E:XK}
theorem zsh (F:FX X.prog X.w X.K X.mg X.base j x ps sp)(hr:Room k X.A)(ha:PA X.nox (e::es) t){pins:List (Addr×Obj)}{s:Shared}{σ:St}{H:Hp}{Q:VK}(I:Inv X pins σ H s)(h:t σ H fun vs H1=>sp vs H1 Q E)(hjk:j≤k:=by decide)(hg:Gl X x:=by rfl)
  (hdb:(x == ("__debug__" : Str))=false:=by decide) (he:starEach (e::es) X.env=(false,eval e X.env)::starEach es X.env:=by rfl) (hpl:(backTo pos (starEach es X.env)).any (·.1)=false:=by rfl) :
  wpAny (model X.prog X.w) X.A (eval (.Call (.Name x p) (e::es) [] pos) X.env) (EP X pins σ Q) (fun er s'=>∃ H1 s1,Inv X pins σ H1 s1∧CXE X.prog X.w X.stack H1 s1 E er s') s:=by
 obtain ⟨f,fd,ok,b,kp,m,_⟩:=F.ex;refine wpAny_Call_Name_kw (zd8 I hg m ?_ hdb);refine PySem.W.callWith_K (h₀:=X.base) I.ok.mod.kin kp (wpAny_mono (ha pos pins s σ H _ (I.wish _) h) (fun us s1 zq0=>?_) fun _ _ z=>z.elim) he hpl;obtain ⟨vs,H1,I1,r,q⟩:=zq0;refine ⟨I1.kIn,?_⟩;have I1':Inv X pins σ H1 s1:=I1.unwish;have hl:(us++[]).length=ps.length:=by rw[yay,← r.length];exact ok.len _ _ _ _ q
 have hb:=b s1 us I1'.kIn hl;rw[yay]at hb;refine wpAny_call (codeAny_mono (ok.run X.A X.stack s1 H1 ⟨us,[]⟩ us vs Q E (hr.mono hjk) I1'.env0 hb r q) fun res s' hq=>?_);cases res with
 | error er=>exact ⟨H1,s1,I1',hq⟩
 | ok fl=>
  cases fl with
  | ret u=>exact I1'.after hq
  | next=>exact False.elim hq
  | brk=>exact False.elim hq
  | cont=>exact False.elim hq
theorem zjY (F:FX X.prog X.w X.K X.mg X.base j x ps sp)(hr:Room k X.A)(hP:zd3 (CXE X.prog X.w) X E)(ha:PA X.nox (e::es) t)(hjk:j≤k:=by decide)(hg:Gl X x:=by rfl)
  (hdb:(x == ("__debug__" : Str))=false:=by decide) (he:starEach (e::es) X.env=(false,eval e X.env)::starEach es X.env:=by rfl) (hpl:(backTo pos (starEach es X.env)).any (·.1)=false:=by rfl):PE X (.Call (.Name x p) (e::es) [] pos) (zpG sp [] E t):=by
 intro pins s σ H Q I h;refine wpAny_mono (zsh F hr ha I (Q:=Q) (E:=E) ?_ hjk hg hdb he hpl) (fun _ _ q=>q) fun er s' zq0=>(by obtain ⟨H1,s1,I1,q⟩:=zq0;exact hP pins σ H1 s1 er s' I1 q);have e1:(fun vs H1=>sp (vs++[]) H1 Q E)=fun vs H1=>sp vs H1 Q E:=by funext vs H1;rw[yay]
 have h':t σ H fun vs H1=>sp (vs++[]) H1 Q E:=h;rw[e1]at h';exact h'
end
end L2
namespace L2
open PySem PySem.Spec PyProof.Rows
def zis (a:Addr)(cls:Value):HO:=.ext fun h=>∃ oe vs,h.get? a=some oe∧oe.cls=cls∧oe.data=.fields vs
def Cx.inH (X:Cx)(a:Addr):Cx:={ X with A:=X.A.mark (some (.ref a)),calm:=false,xe:=fun _ _=>False }
section
variable {X:Cx}{pins:List (Addr×Obj)}{σ:St}{H H':Hp}{s:Shared}
theorem Inv.inH (I:Inv X pins σ H s)(a:Addr):Inv (X.inH a) pins σ H s:=
 ⟨⟨I.ok.mod,I.ok.kind,I.ok.glob,I.ok.blt,I.ok.above,I.ok.inj,I.ok.has,I.ok.cab,(fun z=>nomatch z),I.ok.frames,I.ok.stk,I.ok.exf,I.ok.bs,I.ok.bsz,I.ok.noex,I.ok.exfs,I.ok.funs,I.ok.frf⟩,I.os,I.bare,I.base,I.loc,I.cell,I.free,I.freeC,I.pin,I.hok,I.len⟩
theorem Inv.outH {a:Addr}(hh:X.calm=true→X.A.handled=none)(I:Inv (X.inH a) pins σ H s):Inv X pins σ H s:=
 ⟨⟨I.ok.mod,I.ok.kind,I.ok.glob,I.ok.blt,I.ok.above,I.ok.inj,I.ok.has,I.ok.cab,hh,I.ok.frames,I.ok.stk,I.ok.exf,I.ok.bs,I.ok.bsz,I.ok.noex,I.ok.exfs,I.ok.funs,I.ok.frf⟩,I.os,I.bare,I.base,I.loc,I.cell,I.free,I.freeC,I.pin,I.hok,I.len⟩
theorem Inv.unname {i:Nat}{x:Str}{m:Str→Option Value}{h':Heap}{v:Option Value}{tk:Nat}(I:Inv X pins σ H s)(hN:X.N.Nodup)(hi:X.N[i]?=some x)(hn:s.heap.Ns X.env.locals m)(hn':h'.Ns X.env.locals (fun y=>if y=x then v else m y))(hs:Heap.SameBut X.env.locals s.heap h') :
  Inv X pins (σ.set i none) H { s with heap:=h',toks:=tk }:=by
 obtain ⟨m0,hn0,hl⟩:=id I.loc;have em:m0=m:=by
  funext y
  obtain ⟨o,es,ep,a1,a2,a3,a4⟩:=hn0;obtain ⟨o',es',ep',b1,b2,b3,b4⟩:=hn;rw[a1]at b1;cases b1
  rw[a2]at b2;cases b2
  rw[← a4 y,← b4 y]
 subst em;have ab:∀ b o,X.s₀.heap.get? b=some o→b≠X.env.locals:=fun b o e=>yam (yaz (yae e) I.ok.above);have trk:∀ b u,H b=some u→b≠X.env.locals:=fun b u e=>zad e I.free;refine ⟨I.ok,I.os,I.bare,⟨fun b o e n hb hx=>(hs.2 b (ab b o e)).trans (I.base.keep b o e n hb hx),fun b o e n hb hx=>?_,I.base.free,fun b o e hx=>?_,I.base.tups,I.base.frzs,I.base.tbls⟩,⟨_,hn',fun j y u e1 e2 e3=>?_⟩,fun y c e=>?_,I.free,I.freeC,fun p hp=>?_,fun b u e=>?_,by simpa using I.len⟩
 ·obtain ⟨sl,e1⟩:=I.base.slot b o e n hb hx;exact ⟨sl,(hs.2 b (ab b o e)).trans e1⟩
 ·obtain ⟨o',e1⟩:=I.base.there b o e hx;exact ⟨o',(hs.2 b (ab b o e)).trans e1⟩
 ·have hj:j≠i:=fun z=>by
   subst z;rw[ybv]at e2;simp at e2
  rw[ycs (Ne.symm hj)]at e2;obtain ⟨u',r',q⟩:=hl j y u e1 e2 e3;have hyx:y≠x:=fun z=>hj (zhw hN e1 (z ▸ hi));refine ⟨u',r',?_⟩;rcases q with ⟨k,e⟩ | ⟨k,c,e,z⟩
  ·exact .inl ⟨k,by simp[hyx,e]⟩
  ·exact .inr ⟨k,c,e,z.sameBut hs (I.cne y c e)⟩
 ·obtain ⟨w',z⟩:=I.cell y c e;exact ⟨w',z.sameBut hs (I.cne y c e)⟩
 ·obtain ⟨e,n,ne,nf,d⟩:=I.pin p hp;exact ⟨(hs.2 p.1 ne).trans e,n,ne,nf,d⟩
 ·refine (I.hok b u e).stay (fun c w' hc q=>(hs.2 c ?_).trans q) (fun _ q=>q) fun _ _ q=>q;rcases hc with rfl | z
  ·exact trk _ _ e
  ·exact trk _ _ z
theorem Air.held {H1:Hp}{s1 s':Shared}{h:Heap}{a:Addr}{cls fl:Value}(I:Inv X pins σ H1 s1)(ho:s'.os=s1.os)(hg:AllBare s'.gens)(x:Air X.prog X.w X.stack H1 s1.heap a cls fl H' h)(tk:Nat):Inv X pins σ (upd H' a (zis a cls)) { s' with heap:=h,toks:=tk }:=by
 obtain ⟨a0,oe,vs,T,oT,ts,⟨e1,e2,e3,_⟩,_,_⟩:=x.tr;have nt:∀ b u,H' b=some u→b≠a:=fun b u e=>zad e x.ua;have un:Un (frs X.stack) [] H1 (upd H' a (zis a cls)) s1.heap h:=by
  refine ⟨x.un.keep,x.un.slot,fun b o e n hx=>?_,x.un.there,fun b xs e=>?_,fun b o u e=>?_,fun b ps e=>?_⟩
  ·rw[zaj (fun z=>by rw[z,x.na]at e;cases e)]
   exact x.un.free b o e n hx
  ·have:=x.un.tups b xs e;rw[zaj (nt b _ this)];exact this
  ·have:=x.un.frzs b o u e;rw[zaj (nt b _ this)];exact this
  ·obtain ⟨m,this⟩:=x.un.tbls b ps e;exact ⟨m,by rw[zaj (nt b _ this)];exact this⟩
 have hok:HOk X.prog X.w (upd H' a (zis a cls)) h:=fun b u e=>by
  by_cases hb:b=a
  ·subst hb;rw[zac]at e;cases e
   exact ⟨⟨oe,vs,e1,e2.1,e3⟩,⟨oe,e1⟩,fun h1 h2 zq0 k=>(by obtain ⟨o,ws,z1,z2,z3⟩:=zq0;exact ⟨o,ws,k o z1,z2,z3⟩)⟩
  ·rw[zaj hb]at e;refine (x.hok b u e).stay (fun c v _ q=>q) (fun c q=>by rw[zaj (nt c _ q)];exact q) fun c xs q=>by rw[zaj (nt c _ q)];exact q
 obtain ⟨hh,g,d,t,os⟩:=s';obtain rfl:os=s1.os:=ho;have J:=I.call (h':=h) (g':=g) (d':=d) (t':=tk) (ch:=[]) un hok hg (fun b z=>absurd z (by simp));exact J
theorem Air.inv {H1:Hp}{s1 s':Shared}{h:Heap}{a:Addr}{cls fl:Value}(I:Inv X pins σ H1 s1)(ho:s'.os=s1.os)(hg:AllBare s'.gens)(x:Air X.prog X.w X.stack H1 s1.heap a cls fl H' h)(tk:Nat):Inv X pins σ H' { s' with heap:=h,toks:=tk }:=by
 obtain ⟨hh,g,d,t,os⟩:=s';obtain rfl:os=s1.os:=ho;have J:=I.call (h':=h) (g':=g) (d':=d) (t':=tk) (ch:=[]) x.un x.hok hg (fun b z=>absurd z (by simp));exact J
end
structure zdx (K:Frag)(C D:Addr):Prop where
 sub:mroIn K C (.ref D)=some true
 cls:(PySem.W.clsIn K D).isSome=true
 ty:PySem.W.typeIn K (.ref D)=some (.type "type")
 exc:mroIn K D (.type "BaseException")=some true
theorem zmY {K:Frag}{prog:Program}{w:World}{A:Around}{E:Value→Shared→Prop}{s:Shared}{a C D:Addr}{oe:Obj}{Q:Bool→Shared→Prop}(X:K.In s.heap)(c:zdx K C D)(he:s.heap.get? a=some oe)(hc:oe.cls=.ref C)(q:Q true s):wpAny (model prog w) A (excMatches (.ref a) (.ref D)) Q E s:=by
 obtain ⟨hh,g,d,t,os⟩:=s;have L1:PySem.W.Looks (model prog w) hh (isInstance (.ref D) (.type "tuple")) false:=(PySem.W.looks_typeIn X c.ty).andThen (PySem.W.Looks.of_pure (by rw[isSubtype_type];kernel_rfl));have L2:PySem.W.Looks (model prog w) hh (isType (.ref D)) true:=by
  obtain ⟨cd,hcd⟩:=yb2.mp c.cls;unfold PySem.W.clsIn at hcd;split at hcd
  ·rename_i ho;intro A' Q' E' s' k z;unfold isType loadHead;exact wpAny_bind (wpAny_loadPart (k _ _ (X _ _ ho)) (wpAny_pure z))
  ·cases hcd
 have L3:=PySem.W.looks_mroIn (M:=model prog w) X c.exc;have L4:PySem.W.Looks (model prog w) hh (typeOf (.ref a)) (.ref C):=hc ▸ (PySem.W.Looks.ld he).andThen .now;have L5:=PySem.W.looks_mroIn (M:=model prog w) X c.sub;unfold excMatches;refine wpAny_bind (L1.at ?_);simp only[yaL,if_false];refine wpAny_bind (wpAny_pure ?_);simp only[List.forIn_cons,List.forIn_nil];refine wpAny_bind (wpAny_bind (wpAny_bind (m:=isExcClass _) ?_));unfold isExcClass;refine wpAny_bind (L2.at ?_);simp only[if_true];refine L3.at ?_;simp only[ybS,yaL,if_false];refine wpAny_pure (wpAny_pure ?_);refine wpAny_bind (L4.at ?_);refine wpAny_bind (wpAny_bind (wpAny_bind (L5.at ?_)));simp only[if_true];exact wpAny_pure (wpAny_pure (wpAny_pure q))
end L2
namespace L2
open PySem PySem.Spec PyProof.Rows
def PX (X:Cx)(e:Expr)(t:XK→TE):Prop:=∀(E:XK) (pins:List (Addr×Obj)) (s:Shared) (σ:St) (H:Hp) (Q:VK),Inv X pins σ H s→t E σ H Q→
 wpAny (model X.prog X.w) X.A (eval e X.env) (EP X pins σ Q) (fun er s'=>∃ H1 s1,Inv X pins σ H1 s1∧CXE X.prog X.w X.stack H1 s1 E er s') s
def hndE (K:Frag)(D:Addr)(i:Nat)(ts:TS)(De:Ends)(σ:St):XK:=fun cls _ H'=>∃ C,cls=.ref C∧zdx K C D∧
 ∀ a,H' a=none→ts { nx:=fun σ2 H2=>De.nx (σ2.set i none) H2,rt:=fun _ _=>False } (σ.set i (some (.ref a))) (upd H' a (zis a cls))
section
variable {X:Cx}{i:Nat}{n c:Str}{D:Addr}{b0:Stmt}{bs:List Stmt}{ts:TS}{np hpos:Pos}
theorem zoJ (hst:X.stack=X.env::X.outer)(hf:X.env.frame=some X.env.locals)(hN:X.N.Nodup)(hi:X.N[i]?=some n)(hx:X.env.scope.names.lookup n=some .local)(hm:X.mg c=some (.ref D))(hg:Gl X c)(suite:∀ a,PSs (X.inH a) (b0::bs) ts)(hdb:(c == ("__debug__" : Str))=false)
  {De:Ends} {pins:List (Addr×Obj)} {σ:St} {H1:Hp} {s1 s':Shared} {er:Value} (I1:Inv X pins σ H1 s1) (q:CXE X.prog X.w X.stack H1 s1 (hndE X.K D i ts De σ) er s') :
  wpAny (model X.prog X.w) X.A (noteFrame er X.env) (fun _ s2=>wpAny (model X.prog X.w) X.A (setFlight er none) (fun _ s3=>wpAny (model X.prog X.w) X.A (handleBy er X.env [.ExceptHandler (some (.Name c np)) (some n) (b0::bs) hpos]) (SP X pins De) X.xe s3) X.xe s2) X.xe s':=by
 obtain ⟨a,cls,H',rfl,ho,hb,x,C,rfl,cat,hq⟩:=q;have fo:=fun B h hB hh=>zeG I1.stack B h hB hh;obtain ⟨B,a0,b1,b2,b3,b4,next⟩:=x.step fun B hB h hh=>fo B h hB hh
 refine wpAny_looks_onW (base:=B) (cls:=.ref C) (a0:=a0) (env:=X.env) (outer:=X.outer) (by rw[I1.ok.frames,hst]) hf ⟨b1,b2,hst ▸ b3,b4⟩ fun h4 k1 k2=>?_;have x4:=next h4 _ k1.1 k2 k1.2.2.2
 obtain ⟨B',a1,c1,c2,c3,c4,next'⟩:=x4.step fun B hB h hh=>fo B h hB hh
 refine wpAny_landsW (base:=B') (l:=X.stack) (cls:=.ref C) (a0:=a1) (L:=X.env.locals) ⟨c1,c2,c3,c4⟩ fun h5 k3 k4=>?_;have x5:=next' h5 .none k3.1 k4 k3.2.2.2
 have J5:Inv (X.inH a) pins σ H' { s' with heap:=h5 }:=(x5.inv I1 ho hb s'.toks).inH a;refine wpAny_handleBy_cons (codeAny_handlers_test ?_) (by intro z;cases z)
 refine zd8 (X:=X.inH a) J5 hg hm ?_ hdb;obtain ⟨_,oe,vs,T,oT,tt,⟨e1,e2,_⟩,_,_⟩:=x5.tr;refine zmY (K:=X.K) J5.kIn cat e1 e2.1 ?_;refine codeAny_handlers_suite_as ?_;obtain ⟨B2,a2,d1,d2,d3,d4,next2⟩:=x5.step fun B hB h hh=>fo B h hB hh;refine lands_againW (base:=B2) (l:=X.stack) (cls:=.ref C) (a0:=a2) ⟨d1,d2,d3,d4⟩ fun h6 k5 k6=>?_;have x6:=next2 h6 .none k5.1 k6 k5.2.2.2;have J6:Inv (X.inH a) pins σ (upd H' a (zis a (.ref C))) { s' with heap:=h6 }:=(x6.held I1 ho hb s'.toks).inH a;refine zg2 (X:=X.inH a) J6 hN hi (.inl hx) (v:=.ref a) rfl (fun s7 J7=>?_) (.inr hx);refine wpAny_mono (suite a pins s7 _ _ _ J7 (hq a x.ua)) (fun fl s8 hf8=>?_) fun _ _ z=>z.elim;cases fl with
 | next=>
  obtain ⟨σ2,H2,J8,q2⟩:=hf8;obtain ⟨m,hn,_⟩:=id J8.loc;refine wpAny_nameGoes_keeps hx hn (by rw[I1.ok.kind];rfl) fun h9 v hn9 hs9=>?_;exact ⟨σ2.set i none,H2,(J8.outH I1.ok.hd).unname hN hi hn hn9 hs9,q2⟩
 | ret u=>
  obtain ⟨_,_,_,_,_,z⟩:=hf8;exact z.elim
 | brk=>
  obtain ⟨_,_,_,z⟩:=hf8;exact z.elim
 | cont=>
  obtain ⟨_,_,_,z⟩:=hf8;exact z.elim
variable {ce:Expr}{tc:XK→TE}{epos tpos:Pos}
end
end L2
namespace L2
open PySem PySem.Spec PyProof.Rows PySem.W
structure ExcC (K:Frag)(C:Addr):Prop where
 ga:findIn K (.ref C) "__getattribute__" = some (some (.builtin "BaseException.__getattribute__"))
 gn:findIn K (.ref C) "__getattr__" = some none
 ca:findIn K (.ref C) "__class__" = some (some (.builtin "object.__class__"))
 gg:specialIn K (.builtin "object.__class__") "__get__" = some (some (.builtin "getset_descriptor.__get__"))
 gt:takesIn K (.builtin "object.__class__")=some true
 ob:mroIn K C (.type "object")=some true
 be:mroIn K C (.type "BaseException")=some true
 cl:(clsIn K C).isSome=true
section
variable {prog:Program}{w:World}{A:Around}{E:Value→Shared→Prop}{s:Shared}{K:Frag}{x C:Addr}{ox:Obj}{vs:Array Value}
theorem zqC {R:Result→Shared→Prop}{hh:Heap}{g:Array GenState}{d:Drawn}{t:Nat}{os:OsState}(L0:Looks (model prog w) hh (typeOf (.ref x)) (.ref C))(L6:Looks (model prog w) hh (isSubtype (.ref C) (.type "object")) true)(hq:R (.ok (.ret (.ref C))) ⟨hh,g,d,t,os⟩) :
  codeAny (model prog w) A (.call (.builtin "getset_descriptor.__get__") ⟨[.builtin "object.__class__",.ref x,.ref C],[]⟩) R ⟨hh,g,d,t,os⟩:=by
 have hT5:(⟨hh,g,d,t,os⟩:Shared).TypeIs (.builtin "object.__class__") "getset_descriptor":=F.typeOf_object_class;have eo:(".".intercalate ("object.__class__".cutAt '.').dropLast) = "object":=by
  rw[show "object.__class__".cutAt '.'=["object","__class__"] by first | rfl | decide +kernel]
  decide +kernel
 have L8:Looks (model prog w) hh (isSubtype (.ref C) (.type (".".intercalate ("object.__class__".cutAt '.').dropLast))) true:=by rw[eo];exact L6
 refine codeAny_call_builtin F.slot_gs_get.plain F.entry_gs_get ?_;refine F.slot_gs_get.check _ _ _ _ _ _ _ _ hT5 (F.args_gs_get _ _ _) ?_
 repeat (any_goals (first | assumption | (with_reducible refine L0.at ?_) | (with_reducible refine L8.at ?_) | wp_step))
 refine ⟨Code.quiet_builtin _ (by decide +kernel),?_⟩;refine codeAny_builtin F.entry_object_class ?_
 repeat (any_goals (first | assumption | (with_reducible refine L0.at ?_) | wp_step))
set_option maxHeartbeats 4000000 in
theorem zmZ {Q:Option Value→Shared→Prop}(X:K.In s.heap)(c:ExcC K C)(he:s.heap.get? x=some ox)(hc:ox.cls=.ref C)(hd:ox.data=.fields vs)(h:Q (some (.ref C)) { s with toks:=s.toks+1 }) :
  wpAny (model prog w) A (getAttr? (.ref x) "__class__") Q E s:=by
 obtain ⟨hh,g,d,t,os⟩:=s;have L0:Looks (model prog w) hh (typeOf (.ref x)) (.ref C):=hc ▸ (Looks.ld he).andThen .now;have L1:=looks_findIn (M:=model prog w) X c.ga;have f3:=F.excAttr_ValueError.ga.bind (.ref x);unfold getAttr? getAttrBy? getAttrBy;refine wpAny_bind (wpAny_mkText (wpAny_bind (wpAny_attempt (wpAny_holding (wpAny_bind (L0.at (wpAny_bind (L1.at ?_))))))));have hx2:(onTheHeap (Value.ref C) && Value.builtin "BaseException.__getattribute__" == Value.builtin "object.__getattribute__")=false:=by
  rw[show (Value.builtin "BaseException.__getattribute__" == Value.builtin "object.__getattribute__")=false by decide +kernel,yb4]
 show wpAny _ _ (if _ then _ else _) _ _ _
 rw[hx2];simp only[yaL,if_false];have L2:=looks_findIn (M:=model prog w) X c.gn;have hx0:(false && onTheHeap (Value.builtin "BaseException.__getattribute__"))=false:=rfl;unfold getAttrByItsOwn hookBefore callGetattribute;dsimp only at X he L1 L2
 repeat (any_goals (first | assumption | (with_reducible refine L0.at ?_) | (with_reducible refine L1.at ?_) | (with_reducible refine L2.at ?_) | wp_step))
 have L3:=looks_mroIn (M:=model prog w) X c.be;have L6:=looks_mroIn (M:=model prog w) X c.ob;have LI:Looks (model prog w) hh (isInstance (.ref x) (.type "BaseException")) true:=L0.andThen L3;have L4:=looks_findIn (M:=model prog w) X c.ca;have L5:=looks_specialIn (M:=model prog w) X c.gg;have L7:=looks_takesIn (M:=model prog w) X c.gt;have hk:builtinKind "BaseException.__getattribute__" = some .slot:=by decide +kernel
 have hsp:splitId "BaseException.__getattribute__" = some ("BaseException","__getattribute__"):=by decide +kernel
 refine codeAny_call_builtin F.excAttr_ValueError.ga.plain F.entry_bexc_ga ?_;have ha:=F.args_bexc_ga (.ref x) (.str "__class__" t);show wpAny _ _ (checkBuiltinCall _ _) _ _ _;simp only[checkBuiltinCall,hk,hsp];refine wpAny_bind (LI.at ?_)
 repeat (any_goals (first | assumption | (with_reducible refine L0.at ?_) | (with_reducible refine L4.at ?_) | (with_reducible refine L5.at ?_) | (with_reducible refine L7.at ?_) | wp_step))
 refine zqC L0 L6 ?_
 repeat (any_goals (first | assumption | wp_step))
end
theorem zhB {K:Frag}{a C:Addr}(c:ExcC K C):KitX K (.ref a) (.ref C) (fun h=>∃ oe vs,h.get? a=some oe∧oe.cls=.ref C∧oe.data=.fields vs) where
 ty:=fun M h _ ⟨oe,_,e1,e2,_⟩=>e2 ▸ (Looks.ld e1).andThen .now
 it:=fun M h X _=>by
  obtain ⟨cd,hcd⟩:=yb2.mp c.cl;unfold clsIn at hcd;split at hcd
  ·rename_i ho;intro A' Q' E' s' k z;unfold isType loadHead;exact wpAny_bind (wpAny_loadPart (k _ _ (X _ _ ho)) (wpAny_pure z))
  ·cases hcd
 ne:=fun h tp dd its n sl X htp=>by
  obtain ⟨cd,hcd⟩:=yb2.mp c.cl;refine ybT.mpr fun q=>?_;have e:C=tp:=Value.ref.inj (beq_iff_eq.mp q);subst e;unfold clsIn at hcd;split at hcd
  ·rename_i ho;rw[X _ _ ho]at htp;cases htp
  ·cases hcd
 ca:=fun X ⟨_,_,e1,e2,e3⟩ k=>zmZ X c e1 e2 e3 k
def zsC (K:Frag):List V→Hp→VK→Prop:=fun xs H Q=>∃ a C c b,xs=[.ref a,c]∧H a=some (zis a (.ref C))∧ExcC K C∧
 ((∃ D,c=.ref D∧kitOne K (.ref C) (.ref D)=some b)∨(∃ n,c=.ty n∧kitOne K (.ref C) (.type n)=some b)∨∃(tp:Addr) (Ds:List Addr),c=.ref tp∧H tp=some (.tup (Ds.map V.ref))∧kitAny K (.ref C) (Ds.map Value.ref)=some b)∧Q (.bl b) H
theorem zjy:∀{Ds:List Addr} {us:List Value},Vals (Ds.map V.ref) us→us=Ds.map Value.ref
 | [],_,.nil=>rfl
 | d::ds,_,.cons r t=>by
  cases r
  rw[zjy t];rfl
theorem zcT {X:Cx}:zdj X (.builtin "isinstance") (zsC X.K):=by
 intro pins s σ H xs us Q I r h;obtain ⟨a,C,c,b,rfl,ea,cc,hk,q⟩:=h;obtain ⟨u,v,rfl,r1,r2⟩:=zgw r;cases r1
 obtain ⟨p,_,_⟩:=(show zbe X.prog X.w H s.heap a (zis a (.ref C)) from I.hok a _ ea);rcases hk with ⟨D,rfl,e⟩ | ⟨n,rfl,e⟩ | ⟨tp,Ds,rfl,ht,e⟩
 ·cases r2
  exact kia_one (zhB cc) I.kIn p e (fun z=>nomatch z) fun tk=>⟨.bl b,H,I.tok tk,rfl,q⟩
 ·cases r2
  exact kia_one (zhB cc) I.kIn p e (fun z=>nomatch z) fun tk=>⟨.bl b,H,I.tok tk,rfl,q⟩
 ·cases r2
  obtain ⟨_,its,rv,o,h1,h2,n,h3⟩:=(show zbe X.prog X.w H s.heap tp (.tup (Ds.map V.ref)) from I.hok tp _ ht);have ei:=zjy rv;subst ei;obtain ⟨oc,odc,oda,osl⟩:=o;dsimp only at h2 h3;subst h2 h3;exact kia_tup (zhB cc) I.kIn p h1 e (fun z=>nomatch z) fun tk=>⟨.bl b,H,I.tok tk,rfl,q⟩
end L2
namespace L2
open PySem PySem.Spec PyProof.Rows
section
variable {P:Program}{w:World}{K:Frag}{mg:Str→Option Value}{base:Heap}{k:Nat}{x:Str}{ps:List Str}{sp sp2:Sp}
theorem FC.fx (F:FC P w K mg base k x ps sp):FX P w K mg base k x ps sp:=by
 obtain ⟨f,fd,ok,b,kp,m,l⟩:=F.ex;refine ⟨f,fd,⟨ok.len,fun A outer s H args us vs Q E hr he hb hv hs=>?_⟩,b,kp,m,l⟩;refine codeAny_mono (ok.run A outer s H args us vs Q E hr he hb hv hs) fun r s' hq=>?_;cases r with
 | error e=>exact False.elim hq
 | ok fl=>
  cases fl with
  | ret u=>exact hq
  | next=>exact hq
  | brk=>exact hq
  | cont=>exact hq
theorem FX.or (F:FX P w K mg base k x ps sp)(G:FX P w K mg base k x ps sp2):FX P w K mg base k x ps (fun vs H Q E=>sp vs H Q E∨sp2 vs H Q E):=by
 obtain ⟨f,fd,ok,b,kp,m,oc,od,osl,l⟩:=F.ex;obtain ⟨f2,fd2,ok2,b2,kp2,m2,oc2,od2,osl2,l2⟩:=G.ex;rw[m]at m2;cases m2
 rw[l]at l2;cases l2
 refine ⟨f,fd,⟨fun vs H Q E h=>h.elim (ok.len _ _ _ _) (ok2.len _ _ _ _),fun A outer s H args us vs Q E hr he hb hv hs=>?_⟩,b,kp,m,oc,od,osl,l⟩;rcases hs with hs | hs
 ·exact ok.run A outer s H args us vs Q E hr he hb hv hs
 ·exact ok2.run A outer s H args us vs Q E hr he hb hv hs
end
end L2
namespace L2
open PySem PySem.Spec PyProof.Rows
structure FMX (P:Program)(w:World)(K:Frag)(mg:Str→Option Value)(base:Heap)(C:Addr)(k:Nat)(m:Str)(ps:List Str)(sp:Sp):Prop where
 ex:∃ f fd,FnOk P w K mg base (CXE P w) k f fd ps sp∧zdc K fd ps []∧Meth K C m f∧∃ oc od osl,K.lookup f=some ⟨oc,od,.func fd,osl⟩
theorem DM.okx {P:Program}{w:World}{K:Frag}{mg:Str→Option Value}{base:Heap}{C:Addr}{m q:Str}{st:Stmt}{N ps:List Str}{k:Nat}{sp:Sp}(D:DM K C m q st ps)(S:zap N ps (zah st))(len:∀ vs H Q E,sp vs H Q E→vs.length=ps.length)
  (hbody:∀(f:Addr) (cdv:Value) (A:Around) (outer:List Env) (s:Shared) (H:Hp) (vs:List V) (Q:VK) (E:XK),Room k (A.deeper (envOfC q (zah st) s.heap.objs.size f cdv))→sp vs H Q E→
   ∃ t,PSs (cxE P w K mg base N q (zah st) f cdv A outer s H E) (za3 st) t∧t { nx:=fun _ H'=>Q .non H',rt:=Q } (zcX N vs) H):FMX P w K mg base C (k+1) m ps sp:=by
 obtain ⟨f,fd,F,b,me⟩:=D.ex;obtain ⟨oc,od,kV,doc,pm,an,cdv,ct,osl,rfl,lk,hcd⟩:=F.ex;exact ⟨f,_,zoA lk hcd S len fun A outer s H vs Q E hr hsp=>hbody f cdv A outer s H vs Q E hr hsp,b,me,oc,od,osl,lk⟩
section
variable {P:Program}{w:World}{K:Frag}{mg:Str→Option Value}{base:Heap}{C:Addr}{k:Nat}{m:Str}{ps:List Str}{sp sp2:Sp}
theorem FM.fx (F:FM P w K mg base C k m ps sp):FMX P w K mg base C k m ps sp:=by
 obtain ⟨f,fd,ok,b,me,l⟩:=F.ex;refine ⟨f,fd,⟨ok.len,fun A outer s H args us vs Q E hr he hb hv hs=>?_⟩,b,me,l⟩;refine codeAny_mono (ok.run A outer s H args us vs Q E hr he hb hv hs) fun r s' hq=>?_;cases r with
 | error e=>exact False.elim hq
 | ok fl=>
  cases fl with
  | ret u=>exact hq
  | next=>exact hq
  | brk=>exact hq
  | cont=>exact hq
theorem FMX.or (F:FMX P w K mg base C k m ps sp)(G:FMX P w K mg base C k m ps sp2):FMX P w K mg base C k m ps (fun vs H Q E=>sp vs H Q E∨sp2 vs H Q E):=by
 obtain ⟨f,fd,ok,b,me,oc,od,osl,l⟩:=F.ex;obtain ⟨f2,fd2,ok2,b2,me2,oc2,od2,osl2,l2⟩:=G.ex;have e:=me.at_.symm.trans me2.at_;cases e
 rw[l]at l2;cases l2
 refine ⟨f,fd,⟨fun vs H Q E h=>h.elim (ok.len _ _ _ _) (ok2.len _ _ _ _),fun A outer s H args us vs Q E hr he hb hv hs=>?_⟩,b,me,oc,od,osl,l⟩;rcases hs with hs | hs
 ·exact ok.run A outer s H args us vs Q E hr he hb hv hs
 ·exact ok2.run A outer s H args us vs Q E hr he hb hv hs
end
def zoZ (C:Addr)(m:Str)(sp:Sp)(ta:TE)(t:TA)(E:XK):TE:=fun σ H Q=>ta σ H fun x H1=>∃ a dx fs,x=.ref a∧H1 a=some (.ins C dx fs)∧fs.lookup m=none∧t σ H1 fun vs H2=>sp (x::vs) H2 Q E
section
variable {X:Cx}{j k:Nat}{C:Addr}{m:Str}{ps:List Str}{sp:Sp}{o e:Expr}{es:List Expr}{ta:TE}{t:TA}{p pos apos:Pos}{E:XK}
theorem zfW {pl:Sem Bool}(F:FMX X.prog X.w X.K X.mg X.base C j m ps sp)(c:Cls X.K C)(hr:Room k X.A)(he:PE X.nox o ta)(ha:PA X.nox (e::es) t)(hjk:j≤k:=by decide)
  (hst:starEach (e::es) X.env=(false,eval e X.env)::starEach es X.env:=by rfl) (hpl:(backTo pos (starEach es X.env)).any (·.1)=false:=by rfl)
  (ht:eval (.Call (.Attribute o m apos) (e::es) [] pos) X.env=(do
   let ov ← eval o X.env
   standAt apos.atName
   let (f,first) ← holding [ov] (getMethod ov m pl)
   callWith pos f first (backTo pos (starEach (e::es) X.env)) (backToKw pos (keywordEach [] X.env))):=by rfl) :
  PX X (.Call (.Attribute o m apos) (e::es) [] pos) (zoZ C m sp ta t):=by
 intro E pins s σ H Q I h;obtain ⟨f,fd,ok,b,me,_⟩:=F.ex;refine PySem.W.methodCall_KW (pl:=pl) (wpAny_mono (he pins s σ H _ (I.wish _) h) (fun u s1 z=>?_) fun _ _ z=>z.elim) ht;obtain ⟨x,H1,I1,rx,a,dx,fs,ex,ea,l,q⟩:=z;subst ex;obtain rfl:u=Value.ref a:=rx;refine zeX I1.unwish ea c me l ?_;refine PySem.W.callWith_K (first:=[.ref a]) (h₀:=X.base) I.ok.mod.kin me.kp (wpAny_mono (ha pos pins s1 σ H1 _ I1 q) (fun us s2 z=>⟨?_,?_⟩) fun _ _ z=>z.elim) hst hpl
 ·obtain ⟨vs,H2,I2,r,q2⟩:=z;exact I2.kIn
 obtain ⟨vs,H2,I2,r,q2⟩:=z;have I2':Inv X pins σ H2 s2:=I2.unwish;have r2:Vals (.ref a::vs) (.ref a::us):=.cons rfl r;have hl:(Value.ref a::us++[]).length=ps.length:=by rw[yay,← r2.length];exact ok.len _ _ _ _ q2
 have hb:=b s2 (.ref a::us) I2'.kIn hl;rw[yay]at hb;refine wpAny_call (codeAny_mono (ok.run X.A X.stack s2 H2 ⟨.ref a::us,[]⟩ (.ref a::us) (.ref a::vs) Q E (hr.mono hjk) I2'.env0 hb r2 q2) fun res s' hq=>?_);cases res with
 | error er=>exact ⟨H2,s2,I2',hq⟩
 | ok fl=>
  cases fl with
  | ret u=>exact I2'.after hq
  | next=>exact False.elim hq
  | brk=>exact False.elim hq
  | cont=>exact False.elim hq
theorem zph {pl:Sem Bool}(F:FMX X.prog X.w X.K X.mg X.base C j m ps sp)(c:Cls X.K C)(hr:Room k X.A)(hP:zd3 (CXE X.prog X.w) X E)(he:PE X.nox o ta)(ha:PA X.nox (e::es) t)(hjk:j≤k:=by decide)
  (hst:starEach (e::es) X.env=(false,eval e X.env)::starEach es X.env:=by rfl) (hpl:(backTo pos (starEach es X.env)).any (·.1)=false:=by rfl)
  (ht:eval (.Call (.Attribute o m apos) (e::es) [] pos) X.env=(do
   let ov ← eval o X.env
   standAt apos.atName
   let (f,first) ← holding [ov] (getMethod ov m pl)
   callWith pos f first (backTo pos (starEach (e::es) X.env)) (backToKw pos (keywordEach [] X.env))):=by rfl) :
  PE X (.Call (.Attribute o m apos) (e::es) [] pos) (zoZ C m sp ta t E):=by
 intro pins s σ H Q I h;exact wpAny_mono (zfW F c hr he ha hjk hst hpl ht E pins s σ H Q I h) (fun _ _ q=>q) fun er s' z=>by
  obtain ⟨H1,s1,I1,q⟩:=z;exact hP pins σ H1 s1 er s' I1 q
end
end L2
namespace L2
open PySem PySem.Spec PyProof.Rows
def PXS (X:Cx)(bs:List Stmt)(t:XK→TS):Prop:=∀(E:XK) (pins:List (Addr×Obj)) (s:Shared) (σ:St) (H:Hp) (De:Ends),Inv X pins σ H s→t E De σ H→
 wpAny (model X.prog X.w) X.A (execs bs X.env) (SP X pins De) (fun er s'=>∃ H1 s1,Inv X pins σ H1 s1∧CXE X.prog X.w X.stack H1 s1 E er s') s
def zqZ (tc:XK→TE)(E:XK):TS:=fun De σ H=>tc E σ H fun _ H'=>De.nx σ H'
def tIfX (tt:TT)(ta tb:XK→TS)(E:XK):TS:=tIfS tt (ta E) (tb E)
def zso (K:Frag)(D:Addr)(i:Nat)(ts:TS)(tb:XK→TS):TS:=fun De σ H=>tb (hndE K D i ts De σ) De σ H
section
variable {X:Cx}{i:Nat}{n c:Str}{D:Addr}{b0:Stmt}{bs body:List Stmt}{ts:TS}{np hpos epos tpos:Pos}{ce:Expr}{tc:XK→TE}{tb:XK→TS}
theorem zfC (hc:PX X ce tc)(hs:swapsWith ce none epos.line X.env=pure false:=by rfl):PXS X [.Expr ce epos] (zqZ tc):=by
 intro E pins s σ H De I h;refine wpAny_execs_cons (wpAny_Expr_any (wpAny_mono (hc E pins s σ H _ I h) (fun v s1 zq0=>?_) fun er s' z=>z) I.quiet hs);obtain ⟨y,H1,I1,r1,q1⟩:=zq0;exact wpAny_execs_nil ⟨σ,H1,I1,q1⟩
theorem zlT {c:Expr}{a b:List Stmt}{tt:TT}{ta tb:XK→TS}{pos:Pos}(hc:PT X.nox c tt)(ha:PXS X a ta)(hb:PXS X b tb):PXS X [.If c a b pos] (tIfX tt ta tb):=by
 intro E pins s σ H De I h;have nx:∀{bs:List Stmt} {s1:Shared},wpAny (model X.prog X.w) X.A (execs bs X.env) (SP X pins De) (fun er s'=>∃ H1 s1,Inv X pins σ H1 s1∧CXE X.prog X.w X.stack H1 s1 E er s') s1→
   wpAny (model X.prog X.w) X.A (execs bs X.env) (fun f s'=>match f with | .next=>wpAny (model X.prog X.w) X.A (execs [] X.env) (SP X pins De) (fun er s'=>∃ H1 s1,Inv X pins σ H1 s1∧CXE X.prog X.w X.stack H1 s1 E er s') s' | f=>SP X pins De f s') (fun er s'=>∃ H1 s1,Inv X pins σ H1 s1∧CXE X.prog X.w X.stack H1 s1 E er s') s1:=fun h=>wpAny_mono h (fun f s' q=>by
  cases f with
  | next=>exact wpAny_execs_nil q
  | _=>exact q) fun _ _ z=>z
 refine wpAny_execs_cons (wpAny_If (wpAny_mono (hc pins s σ H _ (I.wish _) h) (fun d s1 z=>?_) fun _ _ z=>z.elim));obtain ⟨H1,I1,q1⟩:=z;cases d with
 | true=>exact nx (ha E pins s1 σ H1 De I1.unwish q1)
 | false=>exact nx (hb E pins s1 σ H1 De I1.unwish q1)
theorem zpT (hb:PXS X body tb)(hst:X.stack=X.env::X.outer)(hf:X.env.frame=some X.env.locals)(hN:X.N.Nodup)(hi:X.N[i]?=some n)(hx:X.env.scope.names.lookup n=some .local)(hm:X.mg c=some (.ref D))(hg:Gl X c)(suite:∀ a,PSs (X.inH a) (b0::bs) ts)
  (hdb:(c == ("__debug__" : Str))=false:=by decide):PS X (.Try body [.ExceptHandler (some (.Name c np)) (some n) (b0::bs) hpos] [] [] tpos) (zso X.K D i ts tb):=by
 intro pins s σ H De I h;refine wpAny_Try_except (wpAny_mono (hb _ pins s σ H De I h) (fun f s' q=>?_) fun er s' ⟨H1,s1,I1,q⟩=>?_)
 ·cases f with
  | next=>exact wpAny_execs_nil q
  | _=>exact q
 ·exact zoJ hst hf hN hi hx hm hg suite hdb I1 q
end
end L2
set_option maxHeartbeats 4000000
namespace My
open PySem PySem.Spec PyProof.Rows L2
local macro_rules | `(tactic| walk_at "sc") => `(tactic| exact ⟨rfl,rfl,rfl,by decide +kernel,rfl,by decide +kernel,by decide +kernel⟩)
local macro_rules | `(tactic| walk_at "side")=>`(tactic| first | omega | (dsimp only;omega) | (simp only[CDiv,zsO,CPow,CMul];omega) | decide)
local macro_rules | `(tactic| walk_at "rd")=>`(tactic| repeat (first | (refine ⟨_,rfl,?_⟩) | (refine ⟨_,_,rfl,rfl,?_⟩) | (refine ⟨rfl,?_⟩) | (refine ⟨(by walk_at "side"),?_⟩)))
def top (i:Nat):Stmt:=PySem.Challenge.pw_bridgefind_k46_shelves_refuse.main.body.getD i (.Pass ⟨0,0,0,0⟩)
abbrev zdC:Stmt:=top 16
abbrev zfz:Stmt:=top 17
abbrev zcK:Stmt:=top 18
abbrev zjQ:Stmt:=top 19
abbrev zbx:Stmt:=top 20
abbrev zeQ:Stmt:=top 21
abbrev zc0:Stmt:=top 22
abbrev zbI:Stmt:=top 25
abbrev zfr:Stmt:=top 26
abbrev zft:Stmt:=top 27
abbrev zcu:Stmt:=top 29
abbrev zcv:Stmt:=top 30
abbrev zel:Stmt:=top 31
abbrev zhb:Stmt:=top 32
abbrev zfA:Stmt:=top 33
abbrev za7:Stmt:=top 36
abbrev zei:Stmt:=top 37
abbrev zci:Stmt:=top 38
abbrev zdD:Stmt:=top 39
abbrev zem:Stmt:=top 40
abbrev zfs:Stmt:=top 43
abbrev zbJ:Stmt:=top 44
abbrev zdA:Stmt:=top 45
abbrev zdz:Stmt:=top 46
abbrev zb9:Stmt:=top 47
abbrev za8:Stmt:=top 48
abbrev zc1:Stmt:=top 49
abbrev zeh:Stmt:=top 51
abbrev zek:Stmt:=top 54
abbrev zej:Stmt:=top 55
abbrev zfv:Stmt:=top 56
abbrev zhd:Stmt:=top 57
abbrev zfu:Stmt:=top 58
abbrev zhc:Stmt:=top 59
abbrev zfy:Stmt:=top 60
abbrev zfw:Stmt:=top 61
abbrev zdB:Stmt:=top 62
abbrev zcZ:Stmt:=top 63
abbrev zhe:Stmt:=top 64
abbrev zfx:Stmt:=top 65
abbrev znF:Stmt:=top 66
abbrev zbz:Stmt:=zds (top 52) 0
abbrev zbi:Stmt:=zds (top 52) 1
abbrev zby:Stmt:=zds (top 52) 2
abbrev zcj:Stmt:=zds (top 52) 3
abbrev zck:Stmt:=zds (top 52) 4
abbrev zcw:Stmt:=zds (top 52) 5
abbrev zca:Stmt:=zds (top 52) 6
abbrev zbY:Stmt:=zds (top 52) 7
theorem qel:zap ["thing"] ["thing"] (zah zdC):=by walk_at "sc"
theorem qfc:zap ["thing"] ["thing"] (zah zfz):=by walk_at "sc"
theorem qcv:zap ["thing"] ["thing"] (zah zcK):=by walk_at "sc"
theorem qem:zap ["entry","key","z"] ["entry"] (zah zjQ):=by walk_at "sc"
theorem qas:zap ["length","is_below","low","high","middle"] ["length","is_below"] (zah zbx):=by walk_at "sc"
theorem qfZ:zap ["row","key"] ["row","key"] (zah zeQ):=by walk_at "sc"
theorem qa6:zap ["lists","together","entries"] ["lists"] (zah zc0):=by walk_at "sc"
theorem qa3:zap ["one","other","unlike"] ["one","other"] (zah zbI):=by walk_at "sc"
theorem qa7:zap ["numbers","told","at","number","figure"] ["numbers"] (zah zfr):=by walk_at "sc"
theorem qbo:zap ["entries","numbers","turn"] ["entries"] (zah zft):=by walk_at "sc"
theorem qdH:zap ["things","at"] ["things","at"] (zah zcu):=by walk_at "sc"
theorem qdI:zap ["taken"] ["taken"] (zah zcv):=by walk_at "sc"
theorem qbe:zap ["numbers","told","label","at"] ["numbers"] (zah zel):=by walk_at "sc"
theorem qbp:zap ["entries","tints","told","colour","at"] ["entries"] (zah zhb):=by walk_at "sc"
theorem qfd:zap ["entries"] ["entries"] (zah zfA):=by walk_at "sc"
theorem qaU:zap ["many","thing"] ["many","thing"] (zah za7):=by walk_at "sc"
theorem qdF:zap ["parents","knot"] ["parents"] (zah zei):=by walk_at "sc"
theorem qbV:zap ["tree","thing"] ["tree","thing"] (zah zci):=by walk_at "sc"
theorem qen:zap ["tree","knot"] ["tree","knot"] (zah zdD):=by walk_at "sc"
theorem qby:zap ["tree","knot","told","other"] ["tree","knot"] (zah zem):=by walk_at "sc"
theorem qd7:zap ["things","thing"] ["things"] (zah zfs):=by walk_at "sc"
theorem qbZ:zap ["lists"] ["lists"] (zah zbJ):=by walk_at "sc"
theorem qcw:zap ["tree","rows","told"] ["tree","rows"] (zah zdA):=by walk_at "sc"
theorem qcx:zap ["stand","knot","row","rows"] ["stand","knot","row"] (zah zdz):=by walk_at "sc"
theorem qdf:zap ["stand","knot"] ["stand","knot"] (zah zb9):=by walk_at "sc"
theorem qar:zap ["stand","knot","tree","told","at","parts"] ["stand","knot"] (zah za8):=by walk_at "sc"
theorem qbW:zap ["stand","told"] ["stand"] (zah zc1):=by walk_at "sc"
theorem qbz:zap ["entries","others","away","entry"] ["entries","others"] (zah zeh):=by walk_at "sc"
theorem qeN:zap ["_law_script"] ["_law_script"] (zah zek):=by walk_at "sc"
theorem qbA:zap ["_law_cell","_law_k","_law_one","_law_two"] ["_law_cell","_law_k"] (zah zej):=by walk_at "sc"
theorem qaX:zap ["_law_state","_law_most","_law_k","_law_script","_law_cell","_law_found"] ["_law_state","_law_most"] (zah zfv):=by walk_at "sc"
theorem qeJ:zap ["_law_state","_law_way"] ["_law_state"] (zah zhd):=by walk_at "sc"
theorem qbq:zap ["_law_state","_law_most","_law_way","_law_parents","_law_k"] ["_law_state","_law_most"] (zah zfu):=by walk_at "sc"
theorem qdJ:zap ["_law_state","_law_most","_law_found","_law_k"] ["_law_state","_law_most"] (zah zhc):=by walk_at "sc"
theorem qaY:zap ["_law_state","_law_many","_law_most","_law_rows_here","_law_k","_law_row_here"] ["_law_state","_law_many","_law_most"] (zah zfy):=by walk_at "sc"
theorem qbr:zap ["_law_state","_law_tree_here","_law_rows_here","_law_knot","_law_key_here"] ["_law_state","_law_tree_here","_law_rows_here"] (zah zfw):=by walk_at "sc"
theorem qcy:zap ["_law_rows_here","_law_knot","_law_key_here","_law_is_put","_law_found"] ["_law_rows_here","_law_knot","_law_key_here","_law_is_put"] (zah zdB):=by walk_at "sc"
theorem qaB:zap ["_law_shelf","_law_word","_law_knot","_law_key_here","_law_caught","e","_law_some"] ["_law_shelf","_law_word","_law_knot","_law_key_here"] (zah zcZ):=by walk_at "sc"
theorem qaV:zap ["_law_state","_law_tree_here","_law_rows_here","_law_knots","_law_keys","_law_way","_law_knot","_law_key_here","_law_word"] ["_law_state","_law_tree_here","_law_rows_here"] (zah zhe):=by walk_at "sc"
theorem qfe:zap ["_law_one","_law_other","_law_tree_here"] ["_law_one","_law_other","_law_tree_here"] (zah zfx):=by walk_at "sc"
theorem qaO:zap ["_law_script","_law_state","_law_tree_here","_law_rows_here","_law_one","_law_other","_law_k","_law_knot","_law_key_here","_law_is_put","_law_word","_law_due"] ["_law_script"] (zah znF):=by walk_at "sc"
theorem qbB:zap ["self","stand"] ["self","stand"] (zah zbz):=by walk_at "sc"
theorem qa4:zap ["self","knot","key"] ["self","knot","key"] (zah zbi):=by walk_at "sc"
theorem qao:zap ["self","knot","gone","come","told","before","after"] ["self","knot","gone","come"] (zah zby):=by walk_at "sc"
theorem qaC:zap ["self","knot","key","row","at"] ["self","knot","key"] (zah zcj):=by walk_at "sc"
theorem qaD:zap ["self","knot","key","row","at"] ["self","knot","key"] (zah zck):=by walk_at "sc"
theorem qbs:zap ["self","parent","tree"] ["self","parent"] (zah zcw):=by walk_at "sc"
theorem qdg:zap ["self"] ["self"] (zah zca):=by walk_at "sc"
theorem qbt:zap ["self","knot"] ["self","knot"] (zah zbY):=by walk_at "sc"
abbrev zbU:List Str:=["thing"]
abbrev zcL:List Str:=["thing"]
abbrev zbE:List Str:=["thing"]
abbrev zhk:List Str:=["entry"]
abbrev zbm:List Str:=["length","is_below"]
abbrev zc4:List Str:=["row","key"]
abbrev zb0:List Str:=["lists"]
abbrev zbA:List Str:=["one","other"]
abbrev zep:List Str:=["numbers"]
abbrev zer:List Str:=["entries"]
abbrev zbK:List Str:=["things","at"]
abbrev zcb:List Str:=["taken"]
abbrev zdL:List Str:=["numbers"]
abbrev zfD:List Str:=["entries"]
abbrev zdn:List Str:=["entries"]
abbrev zaE:List Str:=["many","thing"]
abbrev zdG:List Str:=["parents"]
abbrev zaT:List Str:=["tree","thing"]
abbrev zc6:List Str:=["tree","knot"]
abbrev zdM:List Str:=["tree","knot"]
abbrev zeq:List Str:=["things"]
abbrev zaY:List Str:=["lists"]
abbrev zc3:List Str:=["tree","rows"]
abbrev zbD:List Str:=["stand","knot","row"]
abbrev zbV:List Str:=["stand","knot"]
abbrev za6:List Str:=["stand","knot"]
abbrev zcy:List Str:=["stand"]
abbrev zdF:List Str:=["entries","others"]
abbrev zdK:List Str:=["_law_script"]
abbrev zdI:List Str:=["_law_cell","_law_k"]
abbrev zbq:List Str:=["_law_state","_law_most"]
abbrev zdJ:List Str:=["_law_state"]
abbrev zes:List Str:=["_law_state","_law_most"]
abbrev zfE:List Str:=["_law_state","_law_most"]
abbrev zev:List Str:=["_law_state","_law_many","_law_most"]
abbrev zet:List Str:=["_law_state","_law_tree_here","_law_rows_here"]
abbrev zc5:List Str:=["_law_rows_here","_law_knot","_law_key_here","_law_is_put"]
abbrev zcx:List Str:=["_law_shelf","_law_word","_law_knot","_law_key_here"]
abbrev zfF:List Str:=["_law_state","_law_tree_here","_law_rows_here"]
abbrev zeu:List Str:=["_law_one","_law_other","_law_tree_here"]
abbrev zjV:List Str:=["_law_script"]
abbrev zbn:List Str:=["self","stand"]
abbrev zaH:List Str:=["self","knot","key"]
abbrev zaL:List Str:=["self","knot","gone","come"]
abbrev zbj:List Str:=["self","knot","key"]
abbrev zbk:List Str:=["self","knot","key"]
abbrev zcc:List Str:=["self","parent"]
abbrev zbr:List Str:=["self"]
abbrev zbb:List Str:=["self","knot"]
structure Txt (K:Frag)(mg:Str→Option Value):Prop where
 qd8:mg "ValueError" = none
 qgn:mg "abs" = none
 qgM:mg "bool" = none
 qeo:mg "enumerate" = none
 qgU:mg "int" = none
 qap:mg "isinstance" = none
 qaz:mg "len" = none
 qbX:mg "list" = none
 qgN:mg "max" = none
 qgV:mg "min" = none
 qaF:mg "range" = none
 qeO:mg "reversed" = none
 qgW:mg "set" = none
 qct:mg "sorted" = none
 qgX:mg "sum" = none
 qaK:mg "tuple" = none
 qgY:mg "zip" = none
 qdh:∃ t,mg "KNOT_NUMBERS" = some (.int 64 t)
 qgo:∃ t,mg "TURNS" = some (.int 5 t)
 qbY:∃ t,mg "MOST_KNOTS" = some (.int 40 t)
 qbh:∃ t,mg "MOST_KEYS" = some (.int 300 t)
structure OwnC (K:Frag)(mg:Str→Option Value)(C:Addr):Prop where
 cl:L2.Cls K C
 mgC:mg "Shelf" = some (.ref C)
 n_kept:zfh K C "kept"
 n_fulls:zfh K C "fulls"
structure Cls (K:Frag)(mg:Str→Option Value)(qaa qai qal qag qaf qab qad qac qae qah qam qaj qan:Addr):Prop where
 qdK:mg "BridgeError" = some (.ref qaa)
 qf0:mg "NoTree" = some (.ref qai)
 qgp:mg "NoWay" = some (.ref qal)
 qff:mg "NoStand" = some (.ref qag)
 qgq:mg "Twice" = some (.ref qaf)
 qfg:mg "Missing" = some (.ref qab)
 qf1:mg "NoRoom" = some (.ref qad)
 qf2:mg "NoKnot" = some (.ref qac)
 qgr:mg "NoKey" = some (.ref qae)
 qfh:mg "NoOrder" = some (.ref qah)
 qgs:mg "NoRow" = some (.ref qam)
 qf3:mg "NoText" = some (.ref qaj)
 qgZ:mg "Shelf" = some (.ref qan)
 qf4:Exc K mg "NoKnot" qac
 qf5:ExcC K qac
 qf6:zdx K qac qaa
 qf7:kitOne K (.ref qac) (.type "ValueError")=some true
 qej:kitOne K (.ref qac) (.ref qaa)=some true
 qcz:kitOne K (.ref qac) (.ref qai)=some false
 qdi:kitOne K (.ref qac) (.ref qal)=some false
 qb0:kitOne K (.ref qac) (.ref qag)=some false
 qdj:kitOne K (.ref qac) (.ref qaf)=some false
 qb1:kitOne K (.ref qac) (.ref qab)=some false
 qcA:kitOne K (.ref qac) (.ref qad)=some false
 qcB:kitOne K (.ref qac) (.ref qac)=some true
 qdk:kitOne K (.ref qac) (.ref qae)=some false
 qb2:kitOne K (.ref qac) (.ref qah)=some false
 qdl:kitOne K (.ref qac) (.ref qam)=some false
 qcC:kitOne K (.ref qac) (.ref qaj)=some false
 qfT:kitOne K (.ref qac) (.ref qan)=some false
 qgt:Exc K mg "NoKey" qae
 qgu:ExcC K qae
 qgv:zdx K qae qaa
 qgw:kitOne K (.ref qae) (.type "ValueError")=some true
 qep:kitOne K (.ref qae) (.ref qaa)=some true
 qdm:kitOne K (.ref qae) (.ref qai)=some false
 qdL:kitOne K (.ref qae) (.ref qal)=some false
 qcD:kitOne K (.ref qae) (.ref qag)=some false
 qdM:kitOne K (.ref qae) (.ref qaf)=some false
 qcE:kitOne K (.ref qae) (.ref qab)=some false
 qdn:kitOne K (.ref qae) (.ref qad)=some false
 qdo:kitOne K (.ref qae) (.ref qac)=some false
 qdN:kitOne K (.ref qae) (.ref qae)=some true
 qcF:kitOne K (.ref qae) (.ref qah)=some false
 qdO:kitOne K (.ref qae) (.ref qam)=some false
 qdp:kitOne K (.ref qae) (.ref qaj)=some false
 qf8:kitOne K (.ref qae) (.ref qan)=some false
 qgx:Exc K mg "Twice" qaf
 qgy:ExcC K qaf
 qgz:zdx K qaf qaa
 qgA:kitOne K (.ref qaf) (.type "ValueError")=some true
 qeq:kitOne K (.ref qaf) (.ref qaa)=some true
 qdq:kitOne K (.ref qaf) (.ref qai)=some false
 qdP:kitOne K (.ref qaf) (.ref qal)=some false
 qcG:kitOne K (.ref qaf) (.ref qag)=some false
 qdQ:kitOne K (.ref qaf) (.ref qaf)=some true
 qcH:kitOne K (.ref qaf) (.ref qab)=some false
 qdr:kitOne K (.ref qaf) (.ref qad)=some false
 qds:kitOne K (.ref qaf) (.ref qac)=some false
 qdR:kitOne K (.ref qaf) (.ref qae)=some false
 qcI:kitOne K (.ref qaf) (.ref qah)=some false
 qdS:kitOne K (.ref qaf) (.ref qam)=some false
 qdt:kitOne K (.ref qaf) (.ref qaj)=some false
 qf9:kitOne K (.ref qaf) (.ref qan)=some false
 qeK:Exc K mg "NoRoom" qad
 qgR:ExcC K qad
 qgS:zdx K qad qaa
 qgT:kitOne K (.ref qad) (.type "ValueError")=some true
 qek:kitOne K (.ref qad) (.ref qaa)=some true
 qfi:kitOne K (.ref qad) (.ref qai)=some false
 qfU:kitOne K (.ref qad) (.ref qal)=some false
 qe9:kitOne K (.ref qad) (.ref qag)=some false
 qfV:kitOne K (.ref qad) (.ref qaf)=some false
 qfa:kitOne K (.ref qad) (.ref qab)=some false
 qfj:kitOne K (.ref qad) (.ref qad)=some true
 qfk:kitOne K (.ref qad) (.ref qac)=some false
 qfW:kitOne K (.ref qad) (.ref qae)=some false
 qfb:kitOne K (.ref qad) (.ref qah)=some false
 qfX:kitOne K (.ref qad) (.ref qam)=some false
 qfl:kitOne K (.ref qad) (.ref qaj)=some false
 qfY:kitOne K (.ref qad) (.ref qan)=some false
 qfm:Exc K mg "Missing" qab
 qfn:ExcC K qab
 qfo:zdx K qab qaa
 qfp:kitOne K (.ref qab) (.type "ValueError")=some true
 qd9:kitOne K (.ref qab) (.ref qaa)=some true
 qb3:kitOne K (.ref qab) (.ref qai)=some false
 qcJ:kitOne K (.ref qab) (.ref qal)=some false
 qbC:kitOne K (.ref qab) (.ref qag)=some false
 qcK:kitOne K (.ref qab) (.ref qaf)=some false
 qbD:kitOne K (.ref qab) (.ref qab)=some true
 qb4:kitOne K (.ref qab) (.ref qad)=some false
 qb5:kitOne K (.ref qab) (.ref qac)=some false
 qcL:kitOne K (.ref qab) (.ref qae)=some false
 qbE:kitOne K (.ref qab) (.ref qah)=some false
 qcM:kitOne K (.ref qab) (.ref qam)=some false
 qb6:kitOne K (.ref qab) (.ref qaj)=some false
 qfq:kitOne K (.ref qab) (.ref qan)=some false
theorem zi4 (m n i j:Nat)(hi:i < 2)(hj:j < 2):(2*m+i) &&& (2*n+j)=2*(m &&& n)+(i &&& j):=by
 apply Nat.eq_of_testBit_eq;intro k;cases k with
 | zero=>
  have h1:i=0∨i=1:=by omega
  have h2:j=0∨j=1:=by omega
  rcases h1 with rfl | rfl <;> rcases h2 with rfl | rfl <;> simp[Nat.testBit_zero] <;> omega
 | succ k=>
  have h1:i=0∨i=1:=by omega
  have h2:j=0∨j=1:=by omega
  have e1:(2*m+i)/2=m:=by omega
  have e2:(2*n+j)/2=n:=by omega
  have e3:(2*(m &&& n)+(i &&& j))/2=m &&& n:=by
   rcases h1 with rfl | rfl <;> rcases h2 with rfl | rfl <;> simp <;> omega
  rw[Nat.testBit_and,ybF,ybF,ybF,e1,e2,e3,Nat.testBit_and]
theorem zrS (m n i j:Nat)(hi:i < 2)(hj:j < 2):(2*m+i) ||| (2*n+j)=2*(m ||| n)+(i ||| j):=by
 apply Nat.eq_of_testBit_eq;intro k;cases k with
 | zero=>
  have h1:i=0∨i=1:=by omega
  have h2:j=0∨j=1:=by omega
  rcases h1 with rfl | rfl <;> rcases h2 with rfl | rfl <;> simp[Nat.testBit_zero] <;> omega
 | succ k=>
  have h1:i=0∨i=1:=by omega
  have h2:j=0∨j=1:=by omega
  have e1:(2*m+i)/2=m:=by omega
  have e2:(2*n+j)/2=n:=by omega
  have e3:(2*(m ||| n)+(i ||| j))/2=m ||| n:=by
   rcases h1 with rfl | rfl <;> rcases h2 with rfl | rfl <;> simp <;> omega
  rw[Nat.testBit_or,ybF,ybF,ybF,e1,e2,e3,Nat.testBit_or]
def lu (a b:Nat):Nat:=if a=b then 0 else if a % 2=b % 2 then lu (a / 2) (b / 2)+1 else 0
termination_by a+b
decreasing_by omega
theorem zi3 {a b:Nat}(hab:a≠b)(h:a % 2=b % 2):lu a b=lu (a / 2) (b / 2)+1:=by
 rw[lu,if_neg hab,if_pos h]
theorem zms {a b:Nat}(h:a % 2≠b % 2):lu a b=0:=by
 rw[lu];split
 ·rfl
 ·rfl
def xr (a b:Nat):Nat:=(a ||| b) - (a &&& b)
def zfd (n:Nat):Nat:=n - (n &&& (n - 1))
theorem ziE (a b:Nat):a &&& b≤a ||| b:=yaB Nat.and_le_left Nat.left_le_or
theorem zsm (m n i j:Nat)(hi:i < 2)(hj:j < 2):xr (2*m+i) (2*n+j)=2 * xr m n+(if i=j then 0 else 1):=by
 unfold xr;rw[zrS m n i j hi hj,zi4 m n i j hi hj];have q:=ziE m n;have h1:i=0∨i=1:=by omega
 have h2:j=0∨j=1:=by omega
 rcases h1 with rfl | rfl <;> rcases h2 with rfl | rfl <;> simp <;> omega
theorem zld (a b:Nat):xr a b=2 * xr (a / 2) (b / 2)+(if a % 2=b % 2 then 0 else 1):=by
 have e1:2 * (a / 2)+a % 2=a:=by omega
 have e2:2 * (b / 2)+b % 2=b:=by omega
 have q:=zsm (a / 2) (b / 2) (a % 2) (b % 2) (by omega) (by omega);rw[e1,e2]at q;exact q
theorem zoS:∀(n a b:Nat),a+b≤n→a≠b→0 < xr a b:=by
 intro n
 induction n with
 | zero=>intro a b h1 h2;omega
 | succ n ih=>
  intro a b h1 h2;rw[zld];by_cases h:a % 2=b % 2
  ·have:=ih (a / 2) (b / 2) (by omega) (by omega);omega
  ·rw[if_neg h];omega
theorem zqg (m:Nat):zfd (2 * m+1)=1:=by
 unfold zfd;have q:=zi4 m m 1 0 (by omega) (by omega);have e:2 * m+1 - 1=2 * m+0:=by omega
 rw[e,q];simp
theorem zol (m:Nat)(h:0 < m):zfd (2 * m)=2 * zfd m:=by
 unfold zfd;have q:=zi4 m (m - 1) 0 1 (by omega) (by omega);have e:2 * m - 1=2 * (m - 1)+1:=by omega
 have e':2 * m=2 * m+0:=by omega
 rw[e];have:(2 * m &&& 2 * (m - 1)+1)=2 * (m &&& m - 1)+(0 &&& 1):=q;rw[this];have z:m &&& (m - 1)≤m:=Nat.and_le_left;simp;omega
theorem zrQ:∀(n a b:Nat),a+b≤n→a≠b→zfd (xr a b)=2 ^ lu a b:=by
 intro n
 induction n with
 | zero=>intro a b h1 h2;omega
 | succ n ih=>
  intro a b h1 h2;rw[zld];by_cases h:a % 2=b % 2
  ·rw[if_pos h,zi3 h2 h,ybr,zol _ (zoS n _ _ (by omega) (by omega)),ih _ _ (by omega) (by omega),ybV];omega
  ·rw[if_neg h,zms h,zqg,Nat.pow_zero]
theorem zqf:∀(n a b:Nat),a+b≤n→a≠b→a % 2 ^ lu a b=b % 2 ^ lu a b∧a % 2 ^ (lu a b+1)≠b % 2 ^ (lu a b+1):=by
 intro n
 induction n with
 | zero=>intro a b h1 h2;omega
 | succ n ih=>
  intro a b h1 h2;by_cases h:a % 2=b % 2
  ·rw[zi3 h2 h];obtain ⟨q1,q2⟩:=ih (a / 2) (b / 2) (by omega) (by omega);have s:∀ x k:Nat,x % 2 ^ (k+1)=2 * (x / 2 % 2 ^ k)+x % 2:=by
    intro x k;rw[ybV,Nat.mul_comm,Nat.mod_mul];omega
   rw[s a,s b,s a,s b];constructor
   ·omega
   ·omega
  ·rw[zms h];simp[Nat.mod_one];omega
theorem zsD:∀(k a b:Nat),a≠b→a < 2 ^ k→b < 2 ^ k→lu a b < k:=by
 intro k
 induction k with
 | zero=>intro a b h1 h2 h3;simp at h2 h3;omega
 | succ k ih=>
  intro a b h1 h2 h3;by_cases h:a % 2=b % 2
  ·rw[zi3 h1 h];have:=ih (a / 2) (b / 2) (by omega) (by rw[ybV]at h2;omega) (by rw[ybV]at h3;omega);omega
  ·rw[zms h];omega
def fig (a b:Nat):Nat:=2 * lu a b+b / 2 ^ lu a b % 2
theorem zhH (a b:Nat):fig a b / 2=lu a b:=by
 unfold fig;have:=Nat.mod_lt (b / 2 ^ lu a b) (by decide:0 < 2);omega
theorem zje (a b:Nat):fig a b % 2=b / 2 ^ lu a b % 2:=by
 unfold fig;have:=Nat.mod_lt (b / 2 ^ lu a b) (by decide:0 < 2);omega
theorem zfa (x k:Nat):x % 2 ^ (k+1)=x % 2 ^ k+2 ^ k * (x / 2 ^ k % 2):=by
 rw[ybV,Nat.mod_mul]
theorem zpl {a b:Nat}(h:a≠b):a / 2 ^ lu a b % 2≠b / 2 ^ lu a b % 2:=by
 obtain ⟨h1,h2⟩:=zqf _ a b (yaa _) h;intro e;apply h2;rw[zfa,zfa,h1,e]
theorem zsc {a b c:Nat}(h2:b≠c):fig a b≠fig b c:=by
 intro e;have e1:lu a b=lu b c:=by rw[← zhH,e,zhH]
 have e2:b / 2 ^ lu a b % 2=c / 2 ^ lu b c % 2:=by rw[← zje,e,zje]
 rw[e1]at e2;exact zpl h2 e2
theorem zqA {a b:Nat}(h:a≠b):a % 2≠fig a b:=by
 intro e;have l:a % 2 < 2:=Nat.mod_lt _ (by decide);have e1:lu a b=0:=by
  have:=zhH a b;omega
 have e2:=zje a b;have e3:=zpl h;rw[e1]at e2 e3;simp at e2 e3;omega
theorem zsd {a b k:Nat}(h:a≠b)(ha:a < 2 ^ k)(hb:b < 2 ^ k):fig a b < 2 * k:=by
 have:=zsD k a b h ha hb;have:=Nat.mod_lt (b / 2 ^ lu a b) (by decide:0 < 2);unfold fig;omega
def zeb (xs:List Nat)(i:Nat):Nat:=if i=0 then xs.getD 0 0 % 2 else fig (xs.getD (i - 1) 0) (xs.getD i 0)
def zdh (xs:List Nat):List Nat:=(List.range xs.length).map (zeb xs)
theorem zbG (xs:List Nat):(zdh xs).length=xs.length:=by unfold zdh;rw[yab,ya4]
theorem zhS {xs:List Nat}{i:Nat}(h:i < xs.length):(zdh xs)[i]?=some (zeb xs i):=by
 unfold zdh;rw[yaq,ycj h];rfl
theorem zeM {xs:List Nat}{i:Nat}(h:i < xs.length):(zdh xs).getD i 0=zeb xs i:=by
 rw[yag,zhS h];rfl
theorem zkw {xs:List Nat}{i:Nat}(h:i < xs.length):(zdh xs).take (i+1)=(zdh xs).take i++[zeb xs i]:=by
 have h':i < (zdh xs).length:=by rw[zbG];exact h
 rw[yaU h'];have:=zhS h;rw[yac h']at this;rw[yad this]
def Unl (xs:List Nat):Prop:=∀ i,i+1 < xs.length→xs.getD i 0≠xs.getD (i+1) 0
theorem zlp {xs:List Nat}(h:Unl xs):Unl (zdh xs):=by
 intro i hi;rw[zbG]at hi;rw[zeM (by omega),zeM hi];unfold zeb;rw[if_neg (by omega:¬ i+1=0),Nat.add_sub_cancel];by_cases h0:i=0
 ·subst h0;rw[if_pos rfl];exact zqA (h 0 hi)
 ·rw[if_neg h0];exact zsc (h i hi)
def zdy (m:Nat)(xs:List Nat):Prop:=∀ i,i < xs.length→xs.getD i 0 < m
theorem zch {xs:List Nat}{k:Nat}(hk:1≤k)(h:Unl xs)(hb:zdy (2 ^ k) xs):zdy (2 * k) (zdh xs):=by
 intro i hi;rw[zbG]at hi;rw[zeM hi];unfold zeb;split
 ·have:xs.getD 0 0 % 2 < 2:=Nat.mod_lt _ (by decide);omega
 ·have:=h (i - 1) (by omega);rw[show i - 1+1=i by omega]at this;exact zsd this (hb _ (by omega)) (hb _ hi)
theorem zpx (a b:Nat):Builtin.bitXor (a:Int) (b:Int)=((xr a b:Nat):Int):=by
 have h1:Builtin.bitAnd (a:Int) (b:Int)=((a &&& b:Nat):Int):=by
  unfold Builtin.bitAnd;rw[yaj (ybm a),yaj (ybm b)];rfl
 have n1:¬ (0:Int)≤Builtin.bitNot (a:Int):=by unfold Builtin.bitNot;omega
 have n2:¬ (0:Int)≤Builtin.bitNot (b:Int):=by unfold Builtin.bitNot;omega
 have h2:Builtin.bitOr (a:Int) (b:Int)=((a ||| b:Nat):Int):=by
  unfold Builtin.bitOr Builtin.bitAnd;rw[yaf n1,yaf n2];have e:∀ x:Int,Builtin.bitNot (Builtin.bitNot x)=x:=fun x=>by unfold Builtin.bitNot;omega
  show Builtin.bitNot (Builtin.bitNot _)=_;rw[e,e,e];rfl
 unfold Builtin.bitXor xr;rw[h1,h2];have:=ziE a b;omega
theorem zqL (n:Nat)(h:0 < n):Builtin.bitAnd (n:Int) (-(n:Int))=((zfd n:Nat):Int):=by
 have n2:¬ (0:Int)≤-(n:Int):=by omega
 have e:(Builtin.bitNot (-(n:Int))).toNat=n - 1:=by unfold Builtin.bitNot;omega
 unfold Builtin.bitAnd zfd;rw[yaj (ybm n),yaf n2];show (n:Int) - (((n:Int).toNat &&& (Builtin.bitNot (-(n:Int))).toNat:Nat):Int)=_;rw[e,ya6];have:n &&& (n - 1)≤n:=Nat.and_le_left;omega
theorem zrR (a b:Nat)(h:a≠b):((Builtin.Int.intBits (Builtin.bitAnd (Builtin.bitXor (a:Int) (b:Int)) (-(Builtin.bitXor (a:Int) (b:Int)))):Nat):Int) - 1=((lu a b:Nat):Int):=by
 rw[zpx,zqL _ (zoS _ a b (yaa _) h),zrQ _ a b (yaa _) h];unfold Builtin.Int.intBits;have p:0 < 2 ^ lu a b:=Nat.two_pow_pos _;rw[if_neg (by
  intro z;have z':=eq_of_beq z;omega),Int.natAbs_natCast,Nat.log2_two_pow]
 omega
def atZ {α:Type}(l:List α)(i:Int):Option α:=if 0≤i then l[i.toNat]? else none
theorem zdv {α:Type}(l:List α)(i:Nat):atZ l (i:Int)=l[i]?:=by
 unfold atZ;rw[if_pos (ybm i),ya6]
theorem zjs {α:Type}{l:List α}{i:Int}(h:i < 0):atZ l i=none:=by
 unfold atZ;rw[if_neg (by omega)]
theorem zko {α:Type}{l:List α}{i:Int}{x:α}(h:atZ l i=some x):0≤i∧i < l.length:=by
 unfold atZ at h;split at h
 ·have:=(yap.mp h).1;omega
 ·cases h
def zkS {α β:Type}(f:Option α→α→Option α→β):Option α→List α→List β
 | _,[]=>[]
 | p,x::l=>f p x l.head? :: zkS f (some x) l
def mapW {α β:Type}(f:Option α→α→Option α→β)(l:List α):List β:=zkS f none l
theorem zdp {α β:Type}(f:Option α→α→Option α→β):∀(l:List α) (p:Option α) (k:Nat),(zkS f p l)[k]?=l[k]?.map fun x=>f (if k=0 then p else l[k - 1]?) x l[k+1]?
 | [],_,_=>rfl
 | x::l,p,0=>by
  show some (f p x l.head?)=some (f p x l[0]?);rw[List.head?_eq_getElem?]
 | x::l,p,k+1=>by
  show (zkS f (some x) l)[k]?=l[k]?.map fun y=>f (x::l)[k]? y l[k+1]?;rw[zdp f l (some x) k];cases k with
  | zero=>rfl
  | succ k=>rfl
theorem zfc {α β:Type}(f:Option α→α→Option α→β):∀(l:List α) (p:Option α),(zkS f p l).length=l.length
 | [],_=>rfl
 | x::l,p=>by
  show (zkS f (some x) l).length+1=l.length+1;rw[zfc f l]
theorem zcm {α β:Type}(f:Option α→α→Option α→β)(l:List α):(mapW f l).length=l.length:=zfc f l none
theorem zqe {α β:Type}(f:Option α→α→Option α→β)(l:List α)(i:Int):atZ (mapW f l) i=(atZ l i).map fun x=>f (atZ l (i - 1)) x (atZ l (i+1)):=by
 by_cases h:0≤i
 ·obtain ⟨k,rfl⟩:∃ k:Nat,i=(k:Int):=⟨i.toNat,by omega⟩;rw[zdv,zdv,mapW,zdp,show ((k:Int)+1)=((k+1:Nat):Int) by omega,zdv];have e:atZ l ((k:Int) - 1)=if k=0 then none else l[k - 1]?:=by
   split
   ·rw[zjs (by omega)]
   ·rw[show ((k:Int) - 1)=((k - 1:Nat):Int) by omega,zdv]
  rw[e]
 ·rw[zjs (l:=mapW f l) (by omega),zjs (l:=l) (i:=i) (by omega)];rfl
def UnlZ (xs:List Nat):Prop:=∀(i:Int) (x y:Nat),atZ xs i=some x→atZ xs (i+1)=some y→x≠y
theorem unlZ {xs:List Nat}(h:Unl xs):UnlZ xs:=by
 intro i x y hx hy;obtain ⟨a,b⟩:=zko hx;obtain ⟨_,c⟩:=zko hy;obtain ⟨k,rfl⟩:∃ k:Nat,i=(k:Int):=⟨i.toNat,by omega⟩;rw[zdv]at hx;rw[show ((k:Int)+1)=((k+1:Nat):Int) by omega,zdv]at hy;have:=h k (by omega);rw[yag,yag,hx,hy]at this;exact this
theorem zoW {xs:List Nat}(h:UnlZ xs):Unl xs:=by
 intro k hk;have:=h k xs[k] xs[k+1] (by rw[zdv];exact yac (by omega)) (by rw[show ((k:Int)+1)=((k+1:Nat):Int) by omega,zdv];exact yac hk);rw[yag,yag,yac (show k < xs.length by omega),yac hk];exact this
def zfl (p n:Option Nat):Nat:=if p≠some 0∧n≠some 0 then 0 else if p≠some 1∧n≠some 1 then 1 else 2
theorem zoy (p n:Option Nat):zfl p n≤2:=by
 unfold zfl;split
 ·omega
 ·split <;> omega
theorem zeY {p n:Option Nat}{x:Nat}(h:p=some x):zfl p n≠x:=by
 subst h;unfold zfl;split
 ·rename_i c;intro z;exact c.1 (by rw[← z])
 ·split
  ·rename_i c;intro z;exact c.1 (by rw[← z])
  ·rename_i c d;intro z;subst z;have c1:n=some 0:=Decidable.byContradiction fun q=>c ⟨by decide,q⟩;have d1:n=some 1:=Decidable.byContradiction fun q=>d ⟨by decide,q⟩;rw[c1]at d1;cases d1
theorem zk1 (p n:Option Nat):zfl p n=zfl n p:=by
 unfold zfl;simp only[And.comm]
theorem zgP {p n:Option Nat}{x:Nat}(h:n=some x):zfl p n≠x:=by
 rw[zk1];exact zeY h
def recF (v:Nat)(p:Option Nat)(x:Nat)(n:Option Nat):Nat:=if x=v then zfl p n else x
def recL (v:Nat)(xs:List Nat):List Nat:=mapW (recF v) xs
theorem za9 (v:Nat)(xs:List Nat):(recL v xs).length=xs.length:=zcm _ _
theorem zfB {v:Nat}{xs:List Nat}(h:UnlZ xs):UnlZ (recL v xs):=by
 intro i x y hx hy;unfold recL at hx hy;rw[zqe]at hx hy;cases ex:atZ xs i with
 | none=>rw[ex]at hx;cases hx
 | some x0=>
  cases ey:atZ xs (i+1) with
  | none=>rw[ey]at hy;cases hy
  | some y0=>
   rw[ex]at hx;rw[ey]at hy;have hx:x=recF v (atZ xs (i - 1)) x0 (atZ xs (i+1)):=(yad hx).symm;have hy:y=recF v (atZ xs (i+1 - 1)) y0 (atZ xs (i+1+1)):=(yad hy).symm;have n0:=h i x0 y0 ex ey;have e1:i+1 - 1=i:=by omega
   unfold recF at hx hy;rw[e1,ex]at hy;rw[ey]at hx;split at hx
   ·rename_i c;split at hy
    ·rename_i c';omega
    ·rw[hx,hy];exact zgP rfl
   ·split at hy
    ·rw[hx,hy];exact (zeY rfl).symm
    ·omega
def colL (xs:List Nat):List Nat:=recL 5 (recL 4 (recL 3 xs))
theorem zgj (xs:List Nat):(colL xs).length=xs.length:=by
 unfold colL;rw[za9,za9,za9]
theorem zoH {xs:List Nat}(h:UnlZ xs):UnlZ (colL xs):=zfB (zfB (zfB h))
def zrM (sh:Nat)(p:Option (Nat×Bool))(x:Nat×Bool)(n:Option (Nat×Bool)):Nat×Bool:=
 (x.1,x.2 || (decide (x.1=sh) && p.isSome && !(p.map (·.2)).getD false && !(n.map (·.2)).getD false))
def zf5 (sh:Nat)(l:List (Nat×Bool)):List (Nat×Bool):=mapW (zrM sh) l
def zcX (c:List Nat):List (Nat×Bool):=c.map fun x=>(x,false)
def marked (c:List Nat):List (Nat×Bool):=zf5 0 (zf5 1 (zf5 2 (zcX c)))
def zgK (c:List Nat):List Bool:=(marked c).map (·.2)
theorem zhA (c:List Nat):(marked c).length=c.length:=by
 unfold marked zf5 zcX;rw[zcm,zcm,zcm,yab]
theorem zhz (c:List Nat):(zgK c).length=c.length:=by
 unfold zgK;rw[yab,zhA]
theorem zjc {p n:Option Nat}{y:Nat}(h:y < zfl p n):p=some y∨n=some y:=by
 unfold zfl at h;split at h
 ·omega
 ·rename_i c;have c0:p=some 0∨n=some 0:=Decidable.byContradiction fun q=>c ⟨fun z=>q (.inl z),fun z=>q (.inr z)⟩;split at h
  ·have:y=0:=by omega
   subst this;exact c0
  ·rename_i d;have d0:p=some 1∨n=some 1:=Decidable.byContradiction fun q=>d ⟨fun z=>q (.inl z),fun z=>q (.inr z)⟩;have:y=0∨y=1:=by omega
   rcases this with rfl | rfl
   ·exact c0
   ·exact d0
def za4 (xs:List Nat)(k:Nat):List Nat:=(if k=0 then none else xs[k - 1]?).toList++xs[k+1]?.toList
theorem zgo {xs:List Nat}{k y:Nat}:y∈za4 xs k↔(if k=0 then none else xs[k - 1]?)=some y∨xs[k+1]?=some y:=by
 unfold za4;rw[yak,Option.mem_toList,Option.mem_toList]
def zd1 (xs:List Nat)(k:Nat):Nat:=zfl (if k=0 then none else xs[k - 1]?) xs[k+1]?
theorem zk0 {xs:List Nat}{k:Nat}:zd1 xs k∉za4 xs k:=fun h=>by
 rcases zgo.mp h with q | q
 ·exact zeY q rfl
 ·exact zgP q rfl
theorem zio {xs:List Nat}{k y:Nat}(h:y < zd1 xs k):y∈za4 xs k:=zgo.mpr (zjc h)
theorem zmV (xs:List Nat)(k:Nat):zd1 xs k≤2:=zoy _ _
theorem zhh {v:Nat}{xs:List Nat}{k:Nat}(h:k < xs.length):(recL v xs)[k]?=some (if xs.getD k 0=v then zd1 xs k else xs.getD k 0):=by
 unfold recL mapW;rw[zdp,yag,yac h];rfl
def mixL (v:Nat)(xs:List Nat)(k:Nat):List Nat:=(recL v xs).take k++xs.drop k
theorem zoj {v:Nat}{xs:List Nat}{k:Nat}(h:xs.length≤k):mixL v xs k=recL v xs:=by
 unfold mixL;rw[yav (by rw[za9];exact h),ya0 h,yay]
theorem zf4 (v:Nat)(xs:List Nat)(k:Nat):(mixL v xs k).length=xs.length:=by
 unfold mixL;rw[yas,yao,yaN,za9];omega
theorem zdO (v:Nat)(xs:List Nat)(k j:Nat):(mixL v xs k)[j]?=if j < k then (recL v xs)[j]? else xs[j]?:=by
 unfold mixL;by_cases hk:k≤xs.length
 ·rw[List.getElem?_append,yao,za9,ybs hk];split
  ·rw[ybR];rw[if_pos (by assumption)]
  ·rw[yce];congr 1;omega
 ·rw[ya0 (by omega),yay,yav (by rw[za9];omega)];split
  ·rfl
  ·rw[yaY (by rw[za9];omega),yaY (by omega)]
theorem zmq {v:Nat}{xs:List Nat}{k j:Nat}(h:k≤j):(mixL v xs k)[j]?=xs[j]?:=by
 rw[zdO,if_neg (by omega)]
theorem zmo {v:Nat}{xs:List Nat}{k:Nat}(h:k < xs.length)(hv:xs.getD k 0≠v):mixL v xs (k+1)=mixL v xs k:=by
 apply ya7;intro j;rw[zdO,zdO];by_cases c:j < k
 ·rw[if_pos c,if_pos (by omega)]
 ·rw[if_neg c];split
  ·have:j=k:=by omega
   subst this;rw[zhh h,if_neg hv,yag,yac h];rfl
  ·rfl
theorem zmp {v:Nat}{xs:List Nat}{k:Nat}(hu:Unl xs)(h:k < xs.length)(hv:xs.getD k 0=v):(if k=0 then none else (mixL v xs k)[k - 1]?)=if k=0 then none else xs[k - 1]?:=by
 cases k with
 | zero=>rfl
 | succ k=>
  show (mixL v xs (k+1))[k]?=xs[k]?;rw[zdO,if_pos (by omega),zhh (by omega)];have:=hu k h;rw[hv]at this;rw[if_neg this,yag,yac (show k < xs.length by omega)];rfl
theorem ziZ {v:Nat}{xs:List Nat}{k:Nat}(hu:Unl xs)(h:k < xs.length)(hv:xs.getD k 0=v):za4 (mixL v xs k) k=za4 xs k:=by
 unfold za4;rw[zmp hu h hv,zmq (j:=k+1) (by omega)]
theorem zoi {v:Nat}{xs:List Nat}{k:Nat}(h:k < xs.length)(hv:xs.getD k 0=v):mixL v xs (k+1)=(mixL v xs k).set k (zd1 xs k):=by
 apply ya7;intro j;rw[ybv,zf4,zdO,zdO];by_cases c:k=j
 ·subst c;rw[if_pos rfl,if_pos h,if_pos (by omega),zhh h,if_pos hv]
 ·rw[if_neg c];by_cases c2:j < k
  ·rw[if_pos c2,if_pos (by omega)]
  ·rw[if_neg c2,if_neg (by omega)]
def zcl (sh:Nat)(cs:List Nat)(ms:List Bool):List Bool:=(zf5 sh (cs.zip ms)).map (·.2)
theorem zaZ {sh:Nat}{cs:List Nat}{ms:List Bool}(h:cs.length=ms.length):(zcl sh cs ms).length=ms.length:=by
 unfold zcl zf5;rw[yab,zcm,ycl];omega
theorem ziH {cs:List Nat}:∀{ms:List Bool},cs.length=ms.length→(cs.zip ms).map (·.1)=cs:=by
 induction cs with
 | nil=>intro ms _;rfl
 | cons c cs ih=>
  intro ms h;cases ms with
  | nil=>cases h
  | cons m ms=>
   show c::(cs.zip ms).map (·.1)=c::cs;rw[ih (Nat.succ.inj h)]
theorem zjv:∀(l:List (Nat×Bool)),(l.map (·.1)).zip (l.map (·.2))=l
 | []=>rfl
 | x::l=>by
  show x::(l.map (·.1)).zip (l.map (·.2))=x::l;rw[zjv l]
theorem zmr (sh:Nat)(l:List (Nat×Bool)):(zf5 sh l).map (·.1)=l.map (·.1):=by
 apply ya7;intro k;unfold zf5 mapW;rw[yaq,yaq,zdp];cases l[k]? <;> rfl
theorem zii {sh:Nat}{cs:List Nat}{ms:List Bool}(h:cs.length=ms.length):zf5 sh (cs.zip ms)=cs.zip (zcl sh cs ms):=by
 have e:=zjv (zf5 sh (cs.zip ms));rw[zmr,ziH h]at e;exact e.symm
theorem zlz (cs:List Nat):zcX cs=cs.zip (cs.map fun _=>false):=by
 unfold zcX
 induction cs with
 | nil=>rfl
 | cons c cs ih=>
  show (c,false)::cs.map (fun x=>(x,false))=(c,false)::cs.zip (cs.map fun _=>false);rw[ih]
theorem zih (cs:List Nat):zgK cs=zcl 0 cs (zcl 1 cs (zcl 2 cs (cs.map fun _=>false))):=by
 have l1:cs.length=(cs.map fun _=>false).length:=by rw[yab]
 have l2:cs.length=(zcl 2 cs (cs.map fun _=>false)).length:=by rw[zaZ l1,← l1]
 unfold zgK marked;rw[zlz,zii l1,zii l2];rfl
theorem zdN {sh:Nat}{cs:List Nat}{ms:List Bool}(hl:cs.length=ms.length){k:Nat}(h:k < cs.length):(zcl sh cs ms)[k]?=some (ms.getD k false || (decide (cs.getD k 0=sh) && decide (1≤k) && !ms.getD (k - 1) false && !ms.getD (k+1) false)):=by
 unfold zcl zf5 mapW;have gz:∀ j,(cs.zip ms)[j]?=if h:j < cs.length then some (cs[j],ms[j]'(by omega)) else none:=fun j=>by
  split
  ·rename_i q;rw[yac (by rw[ycl];omega),List.getElem_zip]
  ·exact yaY (by rw[ycl];omega)
 have gm:∀ j,ms.getD j false=(((cs.zip ms)[j]?).map (·.2)).getD false:=fun j=>by
  rw[gz];split
  ·rw[yag,yac (by omega)];rfl
  ·rw[yag,yaY (by omega)];rfl
 rw[yaq,zdp,gm k,gm (k+1),gm (k - 1),yag,yac h];have e:=gz k;rw[dif_pos h]at e;rw[e];show some _=some _;unfold zrM;cases k with
 | zero=>simp
 | succ k=>
  have e2:=gz k;rw[dif_pos (by omega)]at e2;simp[e2]
def mixM (sh:Nat)(cs:List Nat)(ms:List Bool)(k:Nat):List Bool:=(zcl sh cs ms).take k++ms.drop k
theorem zoh {sh:Nat}{cs:List Nat}{ms:List Bool}(hl:cs.length=ms.length){k:Nat}(h:cs.length≤k):mixM sh cs ms k=zcl sh cs ms:=by
 unfold mixM;rw[yav (by rw[zaZ hl];omega),ya0 (by omega),yay]
theorem zf3 {sh:Nat}{cs:List Nat}{ms:List Bool}(hl:cs.length=ms.length)(k:Nat):(mixM sh cs ms k).length=cs.length:=by
 unfold mixM;rw[yas,yao,yaN,zaZ hl];omega
theorem zcA {sh:Nat}{cs:List Nat}{ms:List Bool}(hl:cs.length=ms.length)(k j:Nat):(mixM sh cs ms k)[j]?=if j < k then (zcl sh cs ms)[j]? else ms[j]?:=by
 unfold mixM;by_cases hk:k≤ms.length
 ·rw[List.getElem?_append,yao,zaZ hl,ybs hk];split
  ·rw[ybR];rw[if_pos (by assumption)]
  ·rw[yce];congr 1;omega
 ·rw[ya0 (by omega),yay,yav (by rw[zaZ hl];omega)];split
  ·rfl
  ·rw[yaY (by rw[zaZ hl];omega),yaY (by omega)]
def zpw (ms:List Bool)(k:Nat):Bool:=!ms.getD (k - 1) false && !ms.getD k false && !ms.getD (k+1) false
theorem zmm {sh:Nat}{cs:List Nat}{ms:List Bool}(hl:cs.length=ms.length){k:Nat}(h:k < cs.length)(hn:¬ (1≤k∧cs.getD k 0=sh∧zpw ms k=true)):mixM sh cs ms (k+1)=mixM sh cs ms k:=by
 apply ya7;intro j;rw[zcA hl,zcA hl];by_cases c:j < k
 ·rw[if_pos c,if_pos (by omega)]
 ·rw[if_neg c];split
  ·have:j=k:=by omega
   subst this;rw[zdN hl h];unfold zpw at hn;rw[yac (by omega)];have e:ms.getD j false=ms[j]'(by omega):=by
    rw[yag,yac (by omega)];rfl
   rw[e]at hn ⊢;congr 1;generalize ms[j]=a at hn ⊢;generalize ms.getD (j - 1) false=b at hn ⊢;generalize ms.getD (j+1) false=d at hn ⊢;cases a <;> cases b <;> cases d <;> simp at hn ⊢
   intro q;omega
  ·rfl
structure zsl (ms:List Bool)(sp:List Nat):Prop where
 up:sp.Pairwise (· < ·)
 iff:∀ j,j∈sp↔ms.getD j false=true
theorem zsl.lt {ms:List Bool}{sp:List Nat}(S:zsl ms sp){j:Nat}(h:j∈sp):j < ms.length:=by
 have h:=(S.iff j).mp h;rw[yag]at h;cases e:ms[j]? with
 | none=>rw[e]at h;cases h
 | some x=>exact (yap.mp e).1
def zcP {α:Type}(es:List α)(ms:List Bool):List α:=((es.zip ms).filter (·.2)).map (·.1)
def colN (xs:List Nat):Nat→List Nat
 | 0=>xs
 | i+1=>recL (3+i) (colN xs i)
theorem zjl (xs:List Nat)(i:Nat):(colN xs i).length=xs.length:=by
 induction i with
 | zero=>rfl
 | succ i ih=>rw[colN,za9,ih]
theorem zoG {xs:List Nat}(h:Unl xs)(i:Nat):Unl (colN xs i):=by
 induction i with
 | zero=>exact h
 | succ i ih=>exact zoW (zfB (unlZ ih))
def mkN (cs:List Nat):Nat→List Bool
 | 0=>cs.map fun _=>false
 | i+1=>zcl (2 - i) cs (mkN cs i)
theorem zml (cs:List Nat):mkN cs 3=zgK cs:=(zih cs).symm
theorem zkP (cs:List Nat)(i:Nat):cs.length=(mkN cs i).length:=by
 induction i with
 | zero=>rw[mkN,yab]
 | succ i ih=>rw[mkN,zaZ ih,ih]
theorem zog {sh:Nat}{cs:List Nat}{ms:List Bool}(hl:cs.length=ms.length):mixM sh cs ms 1=ms:=by
 by_cases h:0 < cs.length
 ·rw[zmm hl h (fun z=>by omega)];rfl
 ·have:ms=[]:=ycz (by omega);subst this;unfold mixM;rw[ycz (show (zcl sh cs []).length=0 by rw[zaZ hl];rfl)];rfl
def zaD (ps:List Nat):Prop:=∀ i (h:i < ps.length),ps[i]≤i
def par (ps:List Nat):Nat→Option Nat
 | 0=>none
 | k+1=>ps[k]?
theorem zaU {ps:List Nat}(T:zaD ps){k p:Nat}(h:par ps k=some p):p < k∧k < ps.length+1:=by
 cases k with
 | zero=>cases h
 | succ k=>
  obtain ⟨h1,rfl⟩:=yap.mp (show ps[k]?=some p from h);have:=T k h1;omega
theorem zho {ps:List Nat}{k:Nat}(h1:1≤k)(h2:k < ps.length+1):∃ p,par ps k=some p:=by
 cases k with
 | zero=>omega
 | succ k=>exact ⟨_,yac (show k < ps.length by omega)⟩
theorem znR {ps:List Nat}{k:Nat}(h2:k < ps.length+1)(h:par ps k=none):k=0:=by
 cases k with
 | zero=>rfl
 | succ k=>
  have:=List.getElem?_eq_none_iff.mp (show ps[k]?=none from h);omega
def wayF (ps:List Nat)(one:Nat):Nat→Nat→Option (List Nat)
 | 0,_=>none
 | f+1,o=>if o=one then some [o] else match par ps o with
  | none=>none
  | some p=>(wayF ps one f p).map (· ++ [o])
theorem zhO {ps:List Nat}(T:zaD ps){one:Nat}:∀ f g o,o < f→o < g→wayF ps one f o=wayF ps one g o
 | 0,_,_,h,_=>absurd h (ybG _)
 | _,0,_,_,h=>absurd h (ybG _)
 | f+1,g+1,o,hf,hg=>by
  unfold wayF;split
  ·rfl
  ·cases e:par ps o with
   | none=>rfl
   | some p=>
    have:=(zaU T e).1;show (wayF ps one f p).map _=(wayF ps one g p).map _;rw[zhO T f g p (by omega) (by omega)]
def wayL (ps:List Nat)(one o:Nat):Option (List Nat):=wayF ps one (o+1) o
theorem zlh {ps:List Nat}{o:Nat}:wayL ps o o=some [o]:=by
 unfold wayL wayF;rw[if_pos rfl]
theorem zea {ps:List Nat}(T:zaD ps){one o:Nat}(h:o≠one):wayL ps one o=match par ps o with
  | none=>none
  | some p=>(wayL ps one p).map (· ++ [o]):=by
 unfold wayL;rw[wayF,if_neg h];cases e:par ps o with
 | none=>rfl
 | some p=>
  show (wayF ps one o p).map _=(wayF ps one (p+1) p).map _;rw[zhO T o (p+1) p (zaU T e).1 (by omega)]
theorem zli {ps:List Nat}(T:zaD ps){one:Nat}:∀ n o,o≤n→o < one→wayL ps one o=none
 | n,o,hn,h=>by
  rw[zea T (by omega)];cases e:par ps o with
  | none=>rfl
  | some p=>
   have hp:=(zaU T e).1;show (wayL ps one p).map _=none;cases n with
   | zero=>omega
   | succ n=>rw[zli T n p (by omega) (by omega)];rfl
def isB (ps:List Nat)(k j:Nat):Bool:=(wayL ps k j).isSome
def benL (ps:List Nat)(k n:Nat):List Nat:=(List.range n).filter (isB ps k)
theorem zcd {ps:List Nat}{k:Nat}:isB ps k k=true:=by
 unfold isB;rw[zlh];rfl
theorem zd0 {ps:List Nat}(T:zaD ps){k j:Nat}(h:j < k):isB ps k j=false:=by
 unfold isB;rw[zli T j j (yaa _) h];rfl
theorem zbW {ps:List Nat}(T:zaD ps){k j p:Nat}(h:j≠k)(e:par ps j=some p):isB ps k j=isB ps k p:=by
 unfold isB;rw[zea T h,e];show ((wayL ps k p).map _).isSome=_;cases wayL ps k p <;> rfl
theorem zoN {ps:List Nat}(T:zaD ps)(k:Nat):benL ps k (k+1)=[k]:=by
 unfold benL;rw[ycm,ybg];have e1:(List.range k).filter (isB ps k)=[]:=by
  rw[ybH];intro j hj z;rw[zd0 T (ya5.mp hj)]at z;cases z
 rw[e1,List.nil_append,ybw zcd];rfl
theorem zce {ps:List Nat}{k n j:Nat}:j∈benL ps k n↔j < n∧isB ps k j=true:=by
 unfold benL;rw[yba,ya5]
theorem ziD {ps:List Nat}{k n:Nat}:benL ps k (n+1)=benL ps k n++(if isB ps k n=true then [n] else []):=by
 unfold benL;rw[ycm,ybg];congr 1;by_cases h:isB ps k n=true
 ·rw[if_pos h,ybw h];rfl
 ·rw[if_neg h,ybW h];rfl
theorem zkn (ps:List Nat)(k n:Nat):(benL ps k n).length≤n:=by
 have:=ya9 (isB ps k) (List.range n);rw[ya4]at this;exact this
theorem zjp (ps:List Nat)(k n:Nat):(benL ps k n).Pairwise (· < ·):=List.Pairwise.filter _ List.pairwise_lt_range
theorem zkd {ps:List Nat}(T:zaD ps):∀ n j,j≤n→j < ps.length+1→isB ps 0 j=true
 | n,j,hn,h=>by
  by_cases c:j=0
  ·rw[c];exact zcd
  ·obtain ⟨p,e⟩:=zho (by omega) h;have:=(zaU T e).1;rw[zbW T c e];cases n with
   | zero=>omega
   | succ n=>exact zkd T n p (by omega) (by omega)
theorem zni {ps:List Nat}(T:zaD ps):benL ps 0 (ps.length+1)=List.range (ps.length+1):=by
 unfold benL;rw[List.filter_eq_self];exact fun j hj=>zkd T j j (yaa _) (ya5.mp hj)
def zb6 (ps:List Nat)(k n:Nat):List Nat:=(List.range n).filter fun j=>decide (par ps j=some k)
theorem zaI {ps:List Nat}{k n j:Nat}:j∈zb6 ps k n↔j < n∧par ps j=some k:=by
 unfold zb6;rw[yba,ya5,decide_eq_true_eq]
theorem zgn {ps:List Nat}{k n:Nat}:zb6 ps k (n+1)=zb6 ps k n++(if par ps n=some k then [n] else []):=by
 unfold zb6;rw[ycm,ybg];congr 1;by_cases h:par ps n=some k
 ·rw[if_pos h,ybw (by exact yaj h)];rfl
 ·rw[if_neg h,ybW (by rw[yaf h];decide)];rfl
theorem zgS (ps:List Nat)(k n:Nat):(zb6 ps k n).length≤n:=by
 have:=ya9 (fun j=>decide (par ps j=some k)) (List.range n);rw[ya4]at this;exact this
theorem zix (ps:List Nat)(k n:Nat):(zb6 ps k n).Pairwise (· < ·):=List.Pairwise.filter _ List.pairwise_lt_range
theorem zb3 {ps:List Nat}(T:zaD ps){k:Nat}:∀ n j,j≤n→j < ps.length+1→(isB ps k j=true↔j=k∨∃ c,par ps c=some k∧isB ps c j=true)
 | n,j,hn,h=>by
  by_cases c:j=k
  ·constructor
   ·exact fun _=>.inl c
   ·intro _;rw[c];exact zcd
  ·cases e:par ps j with
   | none=>
    have j0:=znR h e;have no:∀ m,j≠m→isB ps m j=false:=fun m hm=>by
     unfold isB;rw[zea T hm,e];rfl
    constructor
    ·intro z;rw[no k c]at z;cases z
    ·rintro (z | ⟨d,hd,z⟩)
     ·exact absurd z c
     ·by_cases y:j=d
      ·rw[← y,e]at hd;cases hd
      ·rw[no d y]at z;cases z
   | some p=>
    have hp:=(zaU T e).1;cases n with
    | zero=>omega
    | succ n=>
     have ih:=zb3 T (k:=k) n p (by omega) (by omega);rw[zbW T c e,ih];constructor
     ·rintro (z | ⟨d,hd,z⟩)
      ·refine .inr ⟨j,?_,zcd⟩;rw[e,z]
      ·by_cases y:j=d
       ·rw[← y]at z;rw[zd0 T hp]at z;cases z
       ·exact .inr ⟨d,hd,by rw[zbW T y e];exact z⟩
     ·rintro (z | ⟨d,hd,z⟩)
      ·exact absurd z c
      ·by_cases y:j=d
       ·subst y;rw[e]at hd;exact .inl (yad hd)
       ·rw[zbW T y e]at z;exact .inr ⟨d,hd,z⟩
theorem zdr {ps:List Nat}(T:zaD ps){k c d:Nat}(hc:par ps c=some k)(hd:par ps d=some k)(hcd:c≠d):∀ n j,j≤n→isB ps c j=true→isB ps d j=true→False
 | n,j,hn,h1,h2=>by
  by_cases e1:j=c
  ·subst e1;rw[zbW T hcd hc,zd0 T (zaU T hd).1]at h2;cases h2
  ·by_cases e2:j=d
   ·subst e2;rw[zbW T e1 hd,zd0 T (zaU T hc).1]at h1;cases h1
   ·cases e:par ps j with
    | none=>
     unfold isB at h1;rw[zea T e1,e]at h1;cases h1
    | some p=>
     have hp:=(zaU T e).1;rw[zbW T e1 e]at h1;rw[zbW T e2 e]at h2;cases n with
     | zero=>omega
     | succ n=>exact zdr T hc hd hcd n p (by omega) h1 h2
theorem zkF {ps:List Nat}(T:zaD ps){k:Nat}(hk:k < ps.length+1):(k::((zb6 ps k (ps.length+1)).map fun c=>benL ps c (ps.length+1)).flatten).Perm (benL ps k (ps.length+1)):=by
 have lt:∀{l:List Nat},l.Pairwise (· < ·)→l.Nodup:=fun h=>List.Pairwise.imp (fun {a b} (q:a < b)=>yam q) h;refine (ycA ?_ (lt (zjp ps k _))).mpr fun j=>?_
 ·rw[yaS];refine ⟨fun h=>?_,?_⟩
  ·obtain ⟨l,hl,hj⟩:=ycn.mp h;obtain ⟨c,hc,rfl⟩:=yax.mp hl;have h1:=(zaI.mp hc).2;have h2:=(zce.mp hj).2;rw[zd0 T (zaU T h1).1]at h2;cases h2
  ·show List.Pairwise _ _;rw[List.pairwise_flatten];refine ⟨fun l hl=>?_,?_⟩
   ·obtain ⟨c,hc,rfl⟩:=yax.mp hl;exact lt (zjp ps c _)
   ·rw[ybu];refine List.Pairwise.imp_of_mem (fun {c d} hc hd hcd=>?_) (zix ps k _);intro x hx y hy z;subst z;exact zdr T (zaI.mp hc).2 (zaI.mp hd).2 (yam hcd) x x (yaa _) (zce.mp hx).2 (zce.mp hy).2
 ·rw[yah,ycn,zce];constructor
  ·rintro (rfl | ⟨l,hl,hj⟩)
   ·exact ⟨hk,zcd⟩
   ·obtain ⟨c,hc,rfl⟩:=yax.mp hl;obtain ⟨h1,h2⟩:=zce.mp hj;exact ⟨h1,(zb3 T j j (yaa _) h1).mpr (.inr ⟨c,(zaI.mp hc).2,h2⟩)⟩
  ·rintro ⟨h1,h2⟩;rcases (zb3 T j j (yaa _) h1).mp h2 with q | ⟨c,hc,q⟩
   ·exact .inl q
   ·exact .inr ⟨_,yax.mpr ⟨c,zaI.mpr ⟨(zaU T hc).2,hc⟩,rfl⟩,zce.mpr ⟨h1,q⟩⟩
def zsq (t u:TS):TS:=fun D σ H=>∀ N:L2.St→Hp→Prop,(∀ σ' H',u D σ' H'→N σ' H')→t { D with nx:=N } σ H
theorem zaA {X:Cx}{st:Stmt}{rest:List Stmt}{t u:TS}(h1:PS X st t)(h2:PSs X rest u):PSs X (st::rest) (zsq t u):=fun pins s σ H D I h=>zai h1 h2 pins s σ H D I (h (u D) fun _ _ z=>z)
def zsp (t u:TS):TS:=fun D σ H=>∃ M:L2.St→Hp→Prop,(∀ N:L2.St→Hp→Prop,(∀ σ' H',M σ' H'→N σ' H')→t { D with nx:=N } σ H)∧∀ σ' H',M σ' H'→u D σ' H'
theorem zdm {X:Cx}{st:Stmt}{rest:List Stmt}{t u:TS}(h1:PS X st t)(h2:PSs X rest u):PSs X (st::rest) (zsp t u):=fun pins s σ H D I h=>by
 obtain ⟨M,h3,h4⟩:=h;exact zaz h1 h2 pins s σ H D I ⟨M,h3 M fun _ _ z=>z,h4⟩
theorem zr7 {tb:TS}{D:Ends}{Pn:L2.St→Hp→Prop}{i:Nat}{x:V}{σ:L2.St}{H:Hp}(h:∀(N B:L2.St→Hp→Prop) (R:VK),(∀ σ H,Pn σ H→N σ H)→(∀ σ H,D.nx σ H→B σ H)→(∀ v H,D.rt v H→R v H)→tb { nx:=N,rt:=R,bk:=B,ct:=N } (σ.set i (some x)) H):zkY i x σ H fun σ2 H2=>tb { D with nx:=Pn,ct:=Pn,bk:=D.nx } σ2 H2:=h Pn D.nx D.rt (fun _ _ z=>z) (fun _ _ z=>z) (fun _ _ z=>z)
theorem zsJ {tb:TS}{D:Ends}{Pn:L2.St→Hp→Prop}{σ:L2.St}{H:Hp}(h:∀(N B:L2.St→Hp→Prop) (R:VK),(∀ σ H,Pn σ H→N σ H)→(∀ σ H,D.nx σ H→B σ H)→(∀ v H,D.rt v H→R v H)→tb { nx:=N,rt:=R,bk:=B,ct:=N } σ H):tb { D with nx:=Pn,ct:=Pn,bk:=D.nx } σ H:=h Pn D.nx D.rt (fun _ _ z=>z) (fun _ _ z=>z) (fun _ _ z=>z)
seal PSs PS PE PT PW PA PI PG PO PX
section
variable {P:Program}{w:World}{K:Frag}{mg:Str→Option Value}{base:Heap}
theorem zn1 (T:Txt K mg)(qcN:DF K mg "_law_mixed" zej zdI):FC P w K mg base 1 "_law_mixed" zdI zlD:=by
 refine qcN.ok qbA (fun vs H Q E h=>?_) (fun f cdv A outer s H vs Q E hr h=>?_)
 ·obtain ⟨c,k,rfl,_⟩:=h;rfl
 obtain ⟨c,k,rfl,q⟩:=h;refine ⟨_,(zai (zaq (i:=2) qbA.nd rfl (Or.inl rfl) (zax zez (zax zcN (zax zbt (zax zbt (zax zez (pv 0) zag) (zax zcN zag (pv 1))) zag) zag) zag))
   (zai (zaq (i:=3) qbA.nd rfl (Or.inl rfl) (zax zez (zax zbt (zax zbt (zax zcN (pv 2) (pv 2)) (zax zcN zag (pv 2))) (pv 1)) zag))
   (zae (zas (zax ziW (zax zez (zax zbt (zax zbt (zax zcN (pv 3) (pv 3)) (zax zcN zag (pv 3))) (zax zcN zag (pv 1))) zag) zag))))),?_⟩
 walk_at "rd"
 exact q _
theorem zoe (T:Txt K mg)(qcO:DF K mg "_law_begin" zek zdK):FC P w K mg base 1 "_law_begin" zdK (zlK K):=by
 refine qcO.ok qeN (fun vs H Q E h=>?_) (fun f cdv A outer s H vs Q E hr h=>?_)
 ·obtain ⟨L,ns,rfl,_⟩:=h;rfl
 obtain ⟨L,ns,rfl,hS,q⟩:=h;refine ⟨_,(zae (zas (zpY (zhl zaF (pv 0) (zhl zaF zag (zhl zaF zag zpU))) rfl rfl (by simp) (by decide)))),?_⟩;intro p hp;refine ⟨_,rfl,zac,[(.inr "script",.ref L),(.inr "at",.int 0),(.inr "left",.int 0)],rfl,(by show 3≤15;decide),?_⟩;have e:upd (upd H p (.dK [])) p (.dK (zfb [] [(.inr "script",.ref L),(.inr "at",.int 0),(.inr "left",.int 0)]))=upd H p (zda L 0 0):=by
  rw[zpA];have:zfb [] [((.inr "script" : Key),V.ref L),(.inr "at",.int 0),(.inr "left",.int 0)]=[(.inr "script",.ref L),(.inr "at",.int 0),(.inr "left",.int 0)]:=by
   have a1:putK [] (.inr "script" : Key) (V.ref L)=[(.inr "script",.ref L)]:=zeo (kvs:=[]) _ rfl;have a2:putK [((.inr "script" : Key),V.ref L)] (.inr "at") (.int 0)=[(.inr "script",.ref L),(.inr "at",.int 0)]:=by
    rw[zeo _ (by rw[zbw (zdY (show ("script" : Str) ≠ "at" by decide +kernel))];rfl)];rfl
   have a3:putK [((.inr "script" : Key),V.ref L),(.inr "at",.int 0)] (.inr "left") (.int 0)=[(.inr "script",.ref L),(.inr "at",.int 0),(.inr "left",.int 0)]:=by
    rw[zeo _ (by rw[zbw (zdY (show ("script" : Str) ≠ "left" by decide +kernel)),zbw (zdY (show ("at" : Str) ≠ "left" by decide +kernel))];rfl)];rfl
   unfold zfb;simp only[List.foldl_cons,List.foldl_nil];rw[a1,a2,a3]
  rw[this];rfl
 rw[e];exact q p _ hp (zaf hp _) ⟨ns,0,0,zac,(zaf hp _).seq hS⟩
theorem zp1 (T:Txt K mg)(qdT:DF K mg "_law_take" zfv zbq)(qfr:FC P w K mg base 1 "_law_mixed" zdI zlD):FC P w K mg base 2 "_law_take" zbq (ze8 K):=by
 refine qdT.ok qaX (fun vs H Q E h=>?_) (fun f cdv A outer s H vs Q E hr h=>?_)
 ·obtain ⟨d,L,m,rfl,_⟩:=h;rfl
 obtain ⟨d,L,m,rfl,⟨hm,hm'⟩,⟨ns,a,l,hd,hS⟩,q⟩:=h;refine ⟨_,(zai (zaq (i:=2) qaX.nd rfl (Or.inl rfl) (zd7 (zeF hr) (pv 0) zaF (fun _ _=>rfl)))
   (zai (zaq (i:=3) qaX.nd rfl (Or.inl rfl) (zd7 (zeF hr) (pv 0) zaF (fun _ _=>rfl)))
   (zaz (zaP (zar zdV (zd7 (zeF hr) (pv 0) zaF (fun _ _=>rfl)) zag (zaB _)) (zai (zeS (zeF hr) (pv 0) zaF (zax zbt (pv 2) zag) rfl)
   (zai (zaq (i:=4) qaX.nd rfl (Or.inl rfl) zag)
   (zaz (zaP (zar zkI (zam zak rfl T.qaz boot_len (zaa (pv 3) zab)) zag (zaB _)) (zae (zaq (i:=4) qaX.nd rfl (Or.inl rfl) (zaK zaX (pv 3) (zax zez (pv 2) (zam zak rfl T.qaz boot_len (zaa (pv 3) zab))) (fun _ _=>rfl)))) zav)
   (zaz (zaP (PW.pt (zrm (zar zl7 (pv 2) (zam zak rfl T.qaz boot_len (zaa (pv 3) zab)) (zaB _)) (zpe (zar zhs (zam zhJ rfl T.qgn boot_abs (zaa (pv 4) zab)) (zax zey zag zag) (zaB _))))) (zae (zas (zax zez (zaw qfr hr (zaa (pv 4) (zaa (pv 2) zab))) (pv 1)))) zav)
   (zae (zeS (zeF hr) (pv 0) zaF (zam zhJ rfl T.qgn boot_abs (zaa (pv 4) zab)) rfl)))))) zav)
   (zai (zaq (i:=5) qaX.nd rfl (Or.inl rfl) (zax zez (zd7 (zeF hr) (pv 0) zaF (fun _ _=>rfl)) (pv 1)))
   (zai (zeS (zeF hr) (pv 0) zaF (zax ziW (zd7 (zeF hr) (pv 0) zaF (fun _ _=>rfl)) (pv 1)) rfl)
   (zae (zas (pv 5)))))))),?_⟩
 refine ⟨_,rfl,_,_,rfl,zsa hd,_,rfl,_,_,rfl,zkX hd,?_⟩;refine ⟨fun σ' H'=>∃(x2 x3 x4 x5:Option V) (a' l':Int),σ'=[some (.ref d),some (.int m),x2,x3,x4,x5]∧H' d=some (zda L a' l')∧Keep d H H',?_,?_⟩
 ·refine ⟨_,rfl,_,_,rfl,zhF hd,rfl,_,rfl,?_⟩;refine ite2 (fun _=>?_) (fun _=>?_)
  ·refine ⟨_,rfl,_,_,rfl,rfl,_,rfl,_,_,rfl,zrn hd,?_⟩;have hd1:upd H d (zda L (a+1) l) d=some (zda L (a+1) l):=zac;obtain ⟨-,k1⟩:=LS.set (a':=a+1) (l':=l) hd hS;have hS1:=zfq hd k1 hS;generalize upd H d (zda L (a+1) l)=H1 at hd1 k1 hS1 ⊢;refine ⟨fun σ' H'=>∃ c:Int,σ'=[some (.ref d),some (.int m),some (.int a),some (.ref L),some (.int c),none]∧H1=H',?_,?_⟩
   ·refine ⟨_,rfl,_,_,rfl,.inl hS1,_,_,rfl,rfl,_,rfl,?_⟩;refine ite2 (fun c=>?_) (fun c=>?_)
    ·have c':(0:Int) < (((ns.map V.int).length:Nat):Int):=yaK c;obtain ⟨v,hv⟩:=zsi (ns:=ns) (k:=a) (by rw[yab]at c';omega);refine ⟨_,rfl,_,rfl,_,rfl,_,_,rfl,.inl hS1,_,_,rfl,rfl,c',_,_,_,_,rfl,rfl,hS1,hv,?_⟩;exact ⟨v,rfl,rfl⟩
    ·exact ⟨0,rfl,rfl⟩
   rintro σ' H' ⟨c,rfl,rfl⟩;refine ⟨fun σ' H'=>σ'=[some (.ref d),some (.int m),some (.int a),some (.ref L),some (.int c),none]∧H1=H',?_,?_⟩
   ·refine ⟨_,rfl,_,rfl,_,_,rfl,.inl hS1,_,_,rfl,rfl,_,rfl,?_⟩;refine ite2 (fun _=>?_) (fun _=>?_)
    ·refine iteT ?_;refine ⟨_,rfl,_,rfl,c,a,rfl,fun v=>⟨_,rfl,_,_,rfl,rfl,hm,?_⟩⟩;exact q _ _ (ycg _ (by omega)) (ych _ hm) k1 ⟨ns,a+1,l,hd1,hS1⟩
    ·refine ⟨_,rfl,_,rfl,_,_,rfl,rfl,⟨by decide,by decide,by decide⟩,_,_,rfl,rfl,_,rfl,?_⟩;refine ite2 (fun _=>?_) (fun _=>?_)
     ·refine ⟨_,rfl,_,rfl,c,a,rfl,fun v=>⟨_,rfl,_,_,rfl,rfl,hm,?_⟩⟩;exact q _ _ (ycg _ (by omega)) (ych _ hm) k1 ⟨ns,a+1,l,hd1,hS1⟩
     ·exact ⟨rfl,rfl⟩
   rintro σ' H' ⟨rfl,rfl⟩;refine ⟨_,rfl,_,rfl,_,rfl,_,_,rfl,zjU hd1,?_⟩;obtain ⟨-,k2⟩:=LS.set (a':=a+1) (l':=if c < 0 then -c else c) hd1 hS1
   exact ⟨_,_,_,_,_,_,rfl,zac,k1.trans k2⟩
  ·exact ⟨_,_,_,_,a,l,rfl,hd,Keep.refl _ _⟩
 rintro σ' H' ⟨x2,x3,x4,x5,a',l',rfl,hd',k'⟩;have hS':=zfq hd k' hS;refine ⟨_,rfl,_,_,rfl,zhF hd',_,rfl,_,_,rfl,rfl,hm,?_⟩;refine ⟨_,rfl,_,_,rfl,zhF hd',_,rfl,_,_,rfl,rfl,⟨hm,hm'⟩,_,rfl,_,_,rfl,zjU hd',?_⟩;obtain ⟨s1,k1⟩:=LS.set (a':=a') (l':=l' / m) hd' hS';refine ⟨_,rfl,?_⟩;exact q _ _ (ycg _ (by omega)) (ych _ hm) (k'.trans k1) s1
def zra:Sp:=fun vs H Q _=>∃ a b:Nat,vs=[.int a,.int b]∧a≠b∧Q (.int (lu a b:Nat)) H
theorem zrC (T:Txt K mg)(qaS:DF K mg "lowest_unlike" zbI zbA):FC P w K mg base 1 "lowest_unlike" zbA zra:=by
 refine qaS.ok qa3 (fun vs H Q E h=>?_) (fun f cdv A outer s H vs Q E hr h=>?_)
 ·obtain ⟨a,b,rfl,_⟩:=h;rfl
 obtain ⟨a,b,rfl,hab,q⟩:=h;refine ⟨_,(zai (zaq (i:=2) qa3.nd rfl (Or.inl rfl) (zax zrv (pv 0) (pv 1)))
   (zae (zas (zax zcM (zrt F.plainAttrs_int F.slot_int_bit_length F.type_int_bit_length zhx (zax zpj (pv 2) (znM zjC (pv 2)))) zag)))),?_⟩
 refine ⟨_,rfl,_,rfl,_,_,rfl,rfl,_,rfl,_,rfl,_,rfl,_,_,rfl,rfl,rfl,_,rfl,rfl,_,_,rfl,rfl,?_⟩;rw[← zrR a b hab]at q;exact q
def znC (K:Frag):Sp:=fun vs H Q _=>∃ d L:Addr,vs=[.ref d]∧LS K L d H∧∀(v:Int) (H':Hp),-(10 ^ 60) < v→v < 10 ^ 60→Keep d H H'→LS K L d H'→Q (.int v) H'
theorem zon {x m:Int}(h1:-999≤x)(h2:x≤999)(h3:0 < m)(h4:m≤10 ^ 57):-(10 ^ 60) < x * m∧x * m < 10 ^ 60:=by
 have a:=Int.mul_le_mul_of_nonneg_right h2 (Int.le_of_lt h3);have b:=Int.mul_le_mul_of_nonneg_right h1 (Int.le_of_lt h3);omega
theorem zrE (T:Txt K mg)(qer:DF K mg "_law_key" zhd zdJ)(qak:FC P w K mg base 2 "_law_take" zbq (ze8 K)):FC P w K mg base 3 "_law_key" zdJ (znC K):=by
 refine qer.ok qeJ (fun vs H Q E h=>?_) (fun f cdv A outer s H vs Q E hr h=>?_)
 ·obtain ⟨d,L,rfl,_⟩:=h;rfl
 obtain ⟨d,L,rfl,hs,q⟩:=h;refine ⟨_,(zai (zaq (i:=1) qeJ.nd rfl (Or.inl rfl) (zaw qak hr (zaa (pv 0) (zaa zag zab))))
   (zaz (zaP (zar zhs (pv 1) zag (zaB _)) (zae (zas (zaw qak hr (zaa (pv 0) (zaa zag zab))))) zav)
   (zaz (zaP (zar zhs (pv 1) zag (zaB _)) (zae (zas (zax zcM (zaw qak hr (zaa (pv 0) (zaa zag zab))) zag))) zav)
   (zaz (zaP (zar zdV (pv 1) zag (zaB _)) (zae (zas (zax zcN (zax zcM (zaw qak hr (zaa (pv 0) (zaa zag zab))) zag) (zaK zaX (za5 (zaa zag (zaa (zax zey zag zag) (zaa (zax zey zag zag) (zaa (zax zey zag zag) zab))))) (zaw qak hr (zaa (pv 0) (zaa zag zab))) (fun _ _=>rfl))))) zav)
   (zae (zas (zax zcN (zaK zaX (za5 (zaa zag (zaa (znM zjC zag) zab))) (zaw qak hr (zaa (pv 0) (zaa zag zab))) (fun _ _=>rfl)) (zax zcM (zax zcM (zax zey zag zag) zag) (zaw qak hr (zaa (pv 0) (zaa zag zab))))))))))),?_⟩
 refine ⟨_,rfl,d,L,8,rfl,by decide,hs,fun w1 H1 w0 w8 k1 s1=>?_⟩;have nd:∀{H':Hp} {p:Addr},LS K L d H'→H' p=none→p≠d:=fun s hp z=>by
  obtain ⟨_,_,_,e,_⟩:=s.ex;rw[← z,hp]at e;cases e
 refine ⟨fun σ' H'=>σ'=[some (.ref d),some (.int w1)]∧H1=H',?_,?_⟩
 ·refine ⟨_,rfl,_,_,rfl,rfl,_,rfl,?_⟩;refine ite2 (fun c=>?_) (fun c=>?_)
  ·refine ⟨_,rfl,d,L,10,rfl,by decide,s1,fun u H2 u0 u1 k2 s2=>?_⟩;exact q u H2 (by omega) (by omega) (k1.trans k2) s2
  ·exact ⟨rfl,rfl⟩
 rintro σ' H' ⟨rfl,rfl⟩;refine ⟨fun σ' H'=>σ'=[some (.ref d),some (.int w1)]∧H1=H',?_,?_⟩
 ·refine ⟨_,rfl,_,_,rfl,rfl,_,rfl,?_⟩;refine ite2 (fun c=>?_) (fun c=>?_)
  ·refine ⟨_,rfl,d,L,60,rfl,by decide,s1,fun u H2 u0 u1 k2 s2=>⟨_,_,rfl,rfl,?_⟩⟩;exact q (u - 30) H2 (by omega) (by omega) (k1.trans k2) s2
  ·exact ⟨rfl,rfl⟩
 rintro σ' H' ⟨rfl,rfl⟩;refine ⟨fun σ' H'=>σ'=[some (.ref d),some (.int w1)]∧H1=H',?_,?_⟩
 ·refine ⟨_,rfl,rfl,_,rfl,?_⟩;refine ite2 (fun c=>?_) (fun c=>?_)
  ·refine ⟨_,rfl,d,L,1999,rfl,by decide,s1,fun u H2 u0 u1 k2 s2=>⟨_,_,rfl,rfl,?_⟩⟩;refine ⟨_,_,rfl,rfl,⟨by decide,by decide,by decide⟩,_,_,rfl,rfl,⟨by decide,by decide,by decide⟩,_,_,rfl,rfl,⟨by decide,by decide,by decide⟩,(by show 4≤sizeLine;decide),fun p hp=>?_⟩;refine ⟨_,rfl,d,L,4,rfl,by decide,s2.of_new hp _,fun b H3 b0 b1 k3 s3=>?_⟩;obtain ⟨m,hat,m0,m1⟩:∃ m:Int,atI [V.int 1,V.int (10 ^ (19:Int).toNat),V.int (10 ^ (38:Int).toNat),V.int (10 ^ (57:Int).toNat)] b=some (.int m)∧0 < m∧m≤10 ^ 57:=by
    have z:b=0∨b=1∨b=2∨b=3:=by omega
    rcases z with rfl | rfl | rfl | rfl
    ·exact ⟨_,rfl,by decide +kernel,by decide +kernel⟩
    ·exact ⟨_,rfl,by decide +kernel,by decide +kernel⟩
    ·exact ⟨_,rfl,by decide +kernel,by decide +kernel⟩
    ·exact ⟨_,rfl,by decide +kernel,by decide +kernel⟩
   refine ⟨_,_,_,_,rfl,rfl,SqL.of (k3 p _ (nd s2 hp) zac),hat,_,_,rfl,rfl,.inl ⟨by omega,by omega⟩,?_⟩;obtain ⟨f1,f2⟩:=zon (x:=u - 999) (m:=m) (by omega) (by omega) m0 m1;exact q _ H3 f1 f2 ((k1.trans k2).trans ((zaf hp _).keep.trans k3)) s3
  ·exact ⟨rfl,rfl⟩
 rintro σ' H' ⟨rfl,rfl⟩;refine ⟨_,rfl,(by show 2≤sizeLine;decide),fun p hp=>?_⟩;refine ⟨_,rfl,d,L,2,rfl,by decide,s1.of_new hp _,fun b H2 b0 b1 k2 s2=>?_⟩;obtain ⟨m,hat,hm⟩:∃ m:Int,atI [V.int 1,V.int (-1)] b=some (.int m)∧(m=1∨m = -1):=by
  have z:b=0∨b=1:=by omega
  rcases z with rfl | rfl
  ·exact ⟨_,rfl,.inl rfl⟩
  ·exact ⟨_,rfl,.inr rfl⟩
 refine ⟨_,_,_,_,rfl,rfl,SqL.of (k2 p _ (nd s1 hp) zac),hat,_,_,rfl,rfl,⟨by decide,by decide,by decide⟩,_,_,rfl,rfl,_,rfl,d,L,3,rfl,by decide,s2,fun u H3 u0 u1 k3 s3=>⟨_,_,rfl,rfl,_,_,rfl,rfl,.inl ⟨by omega,by omega⟩,?_⟩⟩;have e60:(10:Int) ^ (60:Int).toNat=10 ^ 60:=rfl;rw[e60];have kk:=k1.trans ((zaf hp _).keep.trans (k2.trans k3));rcases hm with rfl | rfl
 ·exact q _ H3 (by omega) (by omega) kk s3
 ·exact q _ H3 (by omega) (by omega) kk s3
def Rise (es:List (Int×Int)):Prop:=es.Pairwise fun a b=>pLt a b=true
def zfn (k:Int)(e:Int×Int):Prop:=-(10 ^ 60) < e.1∧e.1 < 10 ^ 60∧0≤e.2∧e.2 < k
theorem zlV {κ:Type}[DecidableEq κ](kvs:List (κ×V))(k:κ)(v:V):(putK kvs k v).map (·.1)=if (kvs.any fun kv=>decide (kv.1=k))=true then kvs.map (·.1) else kvs.map (·.1)++[k]:=by
 unfold putK;split
 ·rw[ybl];apply yco;intro a ha;show (if a.1=k then (a.1,v) else a).1=a.1
  split <;> rfl
 ·rw[yaw];rfl
def ziw (e:Int×Int):Int:=64 * (if 0≤e.1 then 2 * e.1 else -2 * e.1 - 1)+e.2
def zgA (e:Int×Int):Nat:=(ziw e).toNat
theorem zfO {e:Int×Int}(h:zfn 64 e):((zgA e:Nat):Int)=ziw e:=by
 obtain ⟨h1,h2,h3,h4⟩:=h;unfold zgA ziw;split <;> omega
theorem zoI {e:Int×Int}(h:zfn 64 e):zgA e < 2 ^ 207:=by
 have z:=zfO h;obtain ⟨h1,h2,h3,h4⟩:=h;unfold ziw at z;split at z <;> omega
theorem zm9 {e f:Int×Int}(h:zfn 64 e)(g:zfn 64 f)(z:zgA e=zgA f):e=f:=by
 have z1:=zfO h;have z2:=zfO g;obtain ⟨h1,h2,h3,h4⟩:=h;obtain ⟨g1,g2,g3,g4⟩:=g;obtain ⟨a,b⟩:=e;obtain ⟨c,d⟩:=f;rw[z,z2]at z1;unfold ziw at z1;dsimp only at *;have:a=c∧b=d:=by
  split at z1 <;> split at z1 <;> omega
 rw[this.1,this.2]
def zpa (K:Frag):Sp:=fun vs H Q _=>∃(v:V) (e:Int×Int),vs=[v]∧Rep.has K H e v∧Q (.int (ziw e)) H
theorem zqa (T:Txt K mg)(qfs:DF K mg "code" zjQ zhk):FC P w K mg base 1 "code" zhk (zpa K):=by
 refine qfs.ok qem (fun vs H Q E h=>?_) (fun f cdv A outer s H vs Q E hr h=>?_)
 ·obtain ⟨v,e,rfl,_⟩:=h;rfl
 obtain ⟨v,e,rfl,he,q⟩:=h;obtain ⟨p,x1,x2,rfl,hT,e1,e2⟩:=(show hasP K H e v from he);have hT:=SqT.of (K:=K) hT;have e1:x1=.int e.1:=e1;have e2:x2=.int e.2:=e2;subst e1 e2;refine ⟨_,(zai (zaq (i:=1) qem.nd rfl (Or.inl rfl) (zaK zaM (pv 0) zag (fun _ _=>rfl)))
   (zai (zaq (i:=2) qem.nd rfl (Or.inl rfl) (znO (zar zl7 (pv 1) zag (zaB _)) (zax zcN zag (pv 1)) (zax zcM (zax zcN (znM zjC zag) (pv 1)) zag)))
   (zae (zas (zax zbt (zax zcN (zc7 rfl T.qdh) (pv 2)) (zaK zaM (pv 0) zag (fun _ _=>rfl))))))),?_⟩
 refine ⟨_,rfl,_,_,_,_,rfl,rfl,hT,rfl,?_⟩;refine ⟨_,rfl,_,_,rfl,rfl,_,rfl,?_⟩;refine ite2 (fun c=>?_) (fun c=>?_)
 ·have c':0≤e.1:=yaK c;refine ⟨_,rfl,_,_,rfl,rfl,.inl ⟨by decide,by decide⟩,?_⟩;refine ⟨_,rfl,_,_,rfl,rfl,.inl ⟨by decide,by decide⟩,_,rfl,_,_,_,_,rfl,rfl,hT,rfl,_,_,rfl,rfl,?_⟩;unfold ziw at q;rw[if_pos c']at q;exact q
 ·have c':¬ 0≤e.1:=of_decide_eq_false (ybT.mpr c);refine ⟨_,rfl,_,rfl,_,_,rfl,rfl,.inl ⟨by decide,by decide⟩,_,_,rfl,rfl,?_⟩;refine ⟨_,rfl,_,_,rfl,rfl,.inl ⟨by decide,by decide⟩,_,rfl,_,_,_,_,rfl,rfl,hT,rfl,_,_,rfl,rfl,?_⟩;unfold ziw at q;rw[if_neg c']at q;exact q
abbrev nV (n:Nat):V:=.int (n:Int)
theorem zrK {v:Int}(h:0≤v):∃ n:Nat,v=(n:Int):=⟨v.toNat,by omega⟩
theorem znk {xs:List Nat}{i:Nat}(h:i < xs.length):atI (xs.map nV) (i:Int)=some (nV (xs.getD i 0)):=
 zdw (by rw[yaq,yac h,yag,yac h];rfl)
theorem zqJ {xs:List Nat}{i:Nat}(h0:i≠0)(h:i < xs.length):atI (xs.map nV) ((i:Int) - 1)=some (nV (xs.getD (i - 1) 0)):=by
 have e:(i:Int) - 1=((i - 1:Nat):Int):=by omega
 rw[e];exact znk (by omega)
theorem zmR {xs:List Nat}{i:Nat}{x:V}(h:(xs.map nV)[i]?=some x):i < xs.length∧x=nV (xs.getD i 0):=by
 rw[yaq]at h;cases e:xs[i]? with
 | none=>rw[e]at h;cases h
 | some y=>
  rw[e]at h;refine ⟨(yap.mp e).1,?_⟩;rw[yag,e];exact (yad h).symm
theorem zqK (n:Nat):Builtin.bitAnd (n:Int) 1=((n % 2:Nat):Int):=by
 unfold Builtin.bitAnd;rw[yaj (ybm n),yaj (by decide:(0:Int)≤1)];show ((n &&& 1:Nat):Int)=_;rw[Nat.and_one_is_mod]
theorem zse (a b:Nat):2 * ((lu a b:Nat):Int)+Builtin.bitAnd ((b:Int) / 2 ^ ((lu a b:Nat):Int).toNat) 1=((fig a b:Nat):Int):=by
 have e:(b:Int) / 2 ^ ((lu a b:Nat):Int).toNat=((b / 2 ^ lu a b:Nat):Int):=by
  rw[ya6,Int.natCast_ediv,Int.natCast_pow];rfl
 rw[e,zqK];unfold fig;omega
def But (p:Addr)(H H':Hp):Prop:=∀ b o,b≠p→H b=some o→H' b=some o
theorem But.sq {K:Frag}{p:Addr}{H H':Hp}{a:Addr}{xs:List V}(k:But p H H')(h:SqL K H a xs)(n:H p=none):SqL K H' a xs:=by
 rcases h with (h | ⟨o,h⟩) | h
 ·exact .inl (.inl (k _ _ (zad h n) h))
 ·exact .inl (.inr ⟨o,k _ _ (zad h n) h⟩)
 ·exact .inr h
theorem zmW (xs:List Nat):(xs.map nV).all zdW=true:=by
 rw[yaR];intro x hx;obtain ⟨n,_,rfl⟩:=yax.mp hx;rfl
theorem zpr (n:Nat)(xs:List Nat):inV (.int (n:Int)) (xs.map nV)=decide (n∈xs):=by
 unfold inV
 induction xs with
 | nil=>rfl
 | cons x xs ih=>
  rw[yan,ybc,ih];show ((x:Int) == (n:Int) || decide (n∈xs))=decide (n∈x::xs);by_cases h:x=n
  ·subst h;simp
  ·have:((x:Int) == (n:Int))=false:=by
    rw[beq_eq_false_iff_ne];omega
   rw[this,Bool.false_or];have e:(n∈x::xs)=(n∈xs):=propext (by simp[Ne.symm h]);simp[Ne.symm h]
def zjG (K:Frag):Sp:=fun vs H Q _=>∃(a:Addr) (xs:List Nat),vs=[.ref a]∧SqL K H a (xs.map nV)∧Unl xs∧xs.length≤1000∧
 ∀(p:Addr) (H':Hp),H p=none→Same H H'→H' p=some (.lst ((zdh xs).map nV))→Q (.ref p) H'
theorem zl9 (T:Txt K mg)(qdU:DF K mg "turned" zfr zep)(qcP:FC P w K mg base 1 "lowest_unlike" zbA zra):FC P w K mg base 2 "turned" zep (zjG K):=by
 refine qdU.ok qa7 (fun vs H Q E h=>?_) (fun f cdv A outer s H vs Q E hr h=>?_)
 ·obtain ⟨a,xs,rfl,_⟩:=h;rfl
 obtain ⟨a,xs,rfl,hS,hu,hz,q⟩:=h;refine ⟨_,(zai (zaq (i:=1) qa7.nd rfl (Or.inl rfl) (za5 zab))
   (zai (zb1 PassesOwn.never rfl (zic rfl T.qeo (zaa (pv 0) zab)) (zjW rfl (zbM (zay (i:=2) qa7.nd rfl (Or.inl rfl)) (zbM (zay (i:=3) qa7.nd rfl (Or.inl rfl)) zhm))) (zae (zaP (zar zdV (pv 2) zag (zaB _)) (zae (zbp (zgz F.plainAttrs_list F.slot_list_append F.type_list_append zbO (pv 1) (zaa (zax zez (pv 3) zag) zab)))) (zai (zaq (i:=4) qa7.nd rfl (Or.inl rfl) (zaw qcP hr (zaa (zaK zaX (pv 0) (zax zcM (pv 2) zag) (fun _ _=>rfl)) (zaa (pv 3) zab))))
   (zae (zbp (zgz F.plainAttrs_list F.slot_list_append F.type_list_append zbO (pv 1) (zaa (zax zbt (zax zcN zag (pv 4)) (zax zpj (zax zrw (pv 3) (pv 4)) zag)) zab))))))))
   (zae (zas (pv 1))))),?_⟩
 refine ⟨(by show 0≤sizeLine;decide),fun p hp=>?_⟩;have k0:But p H (upd H p (.lst [])):=fun b o n e=>by rw[zaj n];exact e
 refine ⟨_,rfl,a,rfl,⟨_,k0.sq hS hp⟩,?_⟩;refine zoz (xs:=xs.map nV) (fun i σ H2=>∃ x2 x3 x4:Option V,σ=[some (.ref a),some (.ref p),x2,x3,x4]∧H2 p=some (.lst (((zdh xs).take i).map nV))∧But p H H2) ?_ ?_ ?_ ?_
 ·exact ⟨_,_,_,rfl,zac,k0⟩
 ·rintro i σ H2 _ ⟨x2,x3,x4,rfl,_,k2⟩;exact k2.sq hS hp
 ·rintro i x σ H2 r hx ⟨x2,x3,x4,rfl,h2,k2⟩ hr;obtain ⟨hi,rfl⟩:=zmR hx;have hS2:=k2.sq hS hp;have np:p≠r:=zad h2 hr;have h3:upd H2 r (.tup [.int i,nV (xs.getD i 0)]) p=some (.lst (((zdh xs).take i).map nV)):=by rw[zaj np];exact h2
  have k3:But p H (upd H2 r (.tup [.int i,nV (xs.getD i 0)])):=fun b o n e=>(zaf hr _) b o (k2 b o n e);have hS3:=k3.sq hS hp;have hlen:(((zdh xs).take i).map nV).length < sizeLine:=zau (by rw[yab,yao,zbG];omega);refine ⟨r,_,rfl,SqT.of zac,rfl,_,_,rfl,_,_,rfl,rfl,?_⟩;generalize upd H2 r (.tup [.int i,nV (xs.getD i 0)])=H3 at h3 k3 hS3 ⊢;have fin:∀ v:V,v=nV (zeb xs i)→∃ y2 y3 y4:Option V,[some (V.ref a),some (V.ref p),y2,y3,y4]=[some (V.ref a),some (V.ref p),y2,y3,y4]∧upd H3 p (.lst (((zdh xs).take i).map nV++[v])) p=some (.lst (((zdh xs).take (i+1)).map nV))∧But p H (upd H3 p (.lst (((zdh xs).take i).map nV++[v]))):=by
   rintro v rfl;refine ⟨none,none,none,rfl,?_,fun b o n e=>by rw[zaj n];exact k3 b o n e⟩;rw[zac,zkw hi,yaw];rfl
  refine ⟨_,rfl,rfl,_,rfl,?_⟩;refine ite2 (fun c=>?_) (fun c=>?_)
  ·have c':i=0:=by
    have:=V.int.inj (yaK c);omega
   refine ⟨_,rfl,.inl ⟨rfl,_,SqL.of h3⟩,_,rfl,_,_,rfl,rfl,(by show (0:Int) < 2;decide),_,_,_,rfl,rfl,h3,hlen,?_⟩;obtain ⟨_,_,_,_,g2,g3⟩:=fin (.int (((xs.getD i 0:Nat):Int) % 2)) (by
    unfold zeb;rw[if_pos c',c'];show V.int _=V.int _;rw[Int.natCast_emod];rfl)
   exact ⟨_,_,_,rfl,g2,g3⟩
  ·have c':i≠0:=fun z=>c (by subst z;decide);have hne:xs.getD (i - 1) 0≠xs.getD i 0:=by
    have:=hu (i - 1) (by omega);rw[show i - 1+1=i by omega]at this;exact this
   refine ⟨_,rfl,_,rfl,_,_,rfl,rfl,_,_,_,_,rfl,rfl,hS3,zqJ c' hi,_,rfl,_,_,rfl,hne,?_⟩;refine ⟨_,rfl,.inl ⟨rfl,_,SqL.of h3⟩,_,rfl,_,_,rfl,rfl,.inl ⟨by decide,by decide⟩,_,rfl,_,rfl,_,_,rfl,rfl,ybm _,_,_,rfl,rfl,_,_,rfl,rfl,_,_,_,rfl,rfl,h3,hlen,?_⟩;obtain ⟨_,_,_,_,g2,g3⟩:=fin (.int (2 * ((lu (xs.getD (i - 1) 0) (xs.getD i 0):Nat):Int)+Builtin.bitAnd (((xs.getD i 0:Nat):Int) / 2 ^ ((lu (xs.getD (i - 1) 0) (xs.getD i 0):Nat):Int).toNat) 1)) (by
    unfold zeb;rw[if_neg c',zse])
   exact ⟨_,_,_,rfl,g2,g3⟩
 ·rintro σ H2 ⟨x2,x3,x4,rfl,h2,k2⟩;refine ⟨_,rfl,?_⟩;refine q p H2 hp (fun b o e=>k2 b o (zad e hp) e) ?_;rw[h2,yav (by rw[zbG,yab];exact yaa _)]
def zdg:Nat→List Nat→List Nat
 | 0,xs=>xs
 | n+1,xs=>zdh (zdg n xs)
theorem zct (n:Nat)(xs:List Nat):(zdg n xs).length=xs.length:=by
 induction n with
 | zero=>rfl
 | succ n ih=>rw[zdg,zbG,ih]
theorem zcJ {xs:List Nat}(h:Unl xs)(n:Nat):Unl (zdg n xs):=by
 induction n with
 | zero=>exact h
 | succ n ih=>exact zlp ih
theorem zdT {m k:Nat}{xs:List Nat}(h:zdy m xs)(hk:m≤k):zdy k xs:=fun i hi=>yaz (h i hi) hk
theorem zpF {xs:List Nat}(h:Unl xs)(hb:zdy (2 ^ 207) xs):zdy 414 (zdg 1 xs):=zch (k:=207) (by decide) h hb
theorem zpE {xs:List Nat}(h:Unl xs)(hb:zdy (2 ^ 207) xs):zdy 18 (zdg 2 xs):=zch (k:=9) (by decide) (zcJ h 1) (zdT (zpF h hb) (by decide))
theorem zpD {xs:List Nat}(h:Unl xs)(hb:zdy (2 ^ 207) xs):zdy 10 (zdg 3 xs):=zch (k:=5) (by decide) (zcJ h 2) (zdT (zpE h hb) (by decide))
theorem zpC {xs:List Nat}(h:Unl xs)(hb:zdy (2 ^ 207) xs):zdy 8 (zdg 4 xs):=zch (k:=4) (by decide) (zcJ h 3) (zdT (zpD h hb) (by decide))
theorem zpB {xs:List Nat}(h:Unl xs)(hb:zdy (2 ^ 207) xs):zdy 6 (zdg 5 xs):=zch (k:=3) (by decide) (zcJ h 4) (zdT (zpC h hb) (by decide))
def zcS (es:List (Int×Int)):List Nat:=es.map zgA
theorem za1 (es:List (Int×Int)):(zcS es).length=es.length:=yab _
theorem ze1 {es:List (Int×Int)}{i:Nat}(h:i < es.length):(zcS es).getD i 0=zgA es[i]:=by
 unfold zcS;rw[yag,yaq,yac h];rfl
theorem zjm {es:List (Int×Int)}(h:∀ e∈es,zfn 64 e):zdy (2 ^ 207) (zcS es):=fun i hi=>by
 rw[za1]at hi;rw[ze1 hi];exact zoI (h _ (yaT hi))
theorem zgk {es:List (Int×Int)}(h:∀ e∈es,zfn 64 e)(hr:Rise es):Unl (zcS es):=fun i hi=>by
 rw[za1]at hi;rw[ze1 (by omega),ze1 hi];intro z;have e:=zm9 (h _ (yaT (by omega))) (h _ (yaT hi)) z;have:=ybe.mp hr i (i+1) (by omega) hi (by omega);rw[e]at this;have q:=zcF.mp this;omega
theorem zk4 {es:List (Int×Int)}{i:Nat}(h:i < es.length):(zcS es).take (i+1)=(zcS es).take i++[zgA es[i]]:=by
 have h':i < (zcS es).length:=by rw[za1];exact h
 have z:(zcS es)[i]'h'=zgA es[i]:=List.getElem_map zgA;rw[yaU h',z]
def zjK (K:Frag):Sp:=fun vs H Q _=>∃(a:Addr) (ws:List V) (es:List (Int×Int)),vs=[.ref a]∧SqL K H a ws∧zan K H es ws∧es.length≤1000∧(∀ e∈es,zfn 64 e)∧Rise es∧
 ∀(p:Addr) (H':Hp),H p=none→Same H H'→H' p=some (.lst ((zdg 5 (zcS es)).map nV))→Q (.ref p) H'
theorem zk5 {K:Frag}{H0 H2:Hp}{D:Addr}{es:List (Int×Int)}{ws:List V}{i:Nat}{x:V}(hD:H0 D=none)(hw:zan K H0 es ws)(hx:ws[i]?=some x)(k:But D H0 H2):∃ h:i < es.length,Rep.has K H2 es[i] x:=by
 obtain ⟨e,h1,h2⟩:=hw.get hx;have hi:=(yap.mp h1).1;refine ⟨hi,?_⟩;have z:es[i]=e:=(yap.mp h1).2;rw[z];obtain ⟨a,x1,x2,rfl,q,e1,e2⟩:=(show hasP K H0 e x from h2);exact ⟨a,x1,x2,rfl,k _ _ (zad q hD) q,e1,e2⟩
theorem zmc (T:Txt K mg)(qdV:DF K mg "labels" zft zer)(qgO:FC P w K mg base 1 "code" zhk (zpa K))(qga:FC P w K mg base 2 "turned" zep (zjG K)):FC P w K mg base 3 "labels" zer (zjK K):=by
 refine qdV.ok qbo (fun vs H Q E h=>?_) (fun f cdv A outer s H vs Q E hr h=>?_)
 ·obtain ⟨a,ws,es,rfl,_⟩:=h;rfl
 obtain ⟨a,ws,es,rfl,hS,hw,hz,he,hri,q⟩:=h;have hlen:=hw.length;refine ⟨_,(zai (ziT (i:=1) (N:=["entry"]) (own:=1) (cap:=[]) qbo.nd rfl rfl rfl (zd6 (pv 0)) ⟨rfl,rfl,rfl,rfl,rfl,rfl⟩ (fun _ _ _ _ _=>(zay (i:=0) (show List.Nodup (["entry"]:List Str) by decide +kernel) rfl (Or.inl rfl))) (fun _ _ _ _ _=>zc2) (fun _ _ _ _ _=>(zaw qgO hr (zaa (pv 0) zab))))
   (zai (zb1 PassesOwn.never rfl (zbs rfl T.qaF (zaa (zc7 rfl T.qgo) zab)) (zay (i:=2) qbo.nd rfl (Or.inl rfl)) (zae (zaq (i:=1) qbo.nd rfl (Or.inl rfl) (zaw qga hr (zaa (pv 1) zab)))))
   (zae (zas (pv 1))))),?_⟩
 refine ⟨_,rfl,a,rfl,⟨_,hS⟩,fun D hD=>?_⟩;have k0:But D H (upd H D (.lst [])):=fun b o n e=>by rw[zaj n];exact e
 refine zcR (xs:=ws) (fun i σ H2=>∃ x0:Option V,σ=[x0]∧H2 D=some (.lst (((zcS es).take i).map nV))∧But D H H2) ?_ ?_ ?_ ?_
 ·exact ⟨_,rfl,zac,k0⟩
 ·rintro i σ H2 _ ⟨x0,rfl,_,k2⟩;exact k2.sq hS hD
 ·rintro i m x σ H2 hx hm ⟨x0,rfl,h2,k2⟩;obtain ⟨hi,hhas⟩:=zk5 hD hw hx k2;refine zdZ ?_;refine ⟨_,rfl,x,es[i],rfl,hhas,?_⟩;refine ⟨_,h2,zau (by rw[yab,yao,za1];omega),m - 1,by omega,by omega,_,rfl,?_,fun b o n e=>by rw[zaj n];exact k2 b o n e⟩;rw[zac,zk4 hi,yaw,← zfO (he _ (yaT hi))];rfl
 ·rintro σ H2 ⟨x0,rfl,h2,k2⟩;have e0:H2 D=some (.lst ((zcS es).map nV)):=by
   rw[h2,yav (by rw[za1];omega)]
  have same0:Same H H2:=fun b o e=>k2 b o (zad e hD) e;refine ⟨5,rfl,by decide,by decide,?_⟩;refine zbv (n:=5) (fun i σ H3=>∃(p:Addr) (x2 x3:Option V),σ=[some (.ref a),some (.ref p),x2]∧H p=none∧Same H H3∧H3 p=some (.lst ((zdg i (zcS es)).map nV))) ?_ ?_ ?_
  ·exact ⟨D,_,none,rfl,hD,same0,e0⟩
  ·rintro i σ H3 hi ⟨p,x2,x3,rfl,hp,s3,h3⟩;refine ⟨_,rfl,p,_,rfl,SqL.of h3,zcJ (zgk he hri) i,by rw[zct,za1];exact hz,fun p4 H4 hp4 s4 h4=>?_⟩;exact ⟨p4,_,none,rfl,s3.free hp4,s3.trans s4,h4⟩
  ·rintro σ H3 ⟨p,x2,x3,rfl,hp,s3,h3⟩;refine ⟨_,rfl,?_⟩;exact q p H3 hp s3 h3
theorem zcD {n d i:Nat}:HT.sIx n d (some (i:Int))=min i n:=by
 unfold HT.sIx;simp
 try omega
theorem zkj (xs:List V)(a b:Nat):cutV xs (some (a:Int)) (some (b:Int))=(xs.drop a).take (b - a):=by
 unfold cutV;rw[zcD,zcD];by_cases h:a≤xs.length
 ·rw[ybs h];by_cases h2:b≤xs.length
  ·rw[ybs h2]
  ·rw[ycp (by omega),yav (by rw[yaN];exact yaa _),yav (by rw[yaN];omega)]
 ·rw[ycp (show xs.length≤a by omega),ya0 (yaa _),ya0 (show xs.length≤a by omega)];simp
theorem zgD {α:Type}(xs:List α)(k:Nat):(xs.drop k).take 1=xs[k]?.toList:=by
 by_cases h:k < xs.length
 ·rw[yb6 h,yac h];rfl
 ·rw[ya0 (by omega),yaY (by omega)];rfl
theorem zm7 {xs:List V}{k:Nat}{i j:Int}(hi:i=if (k:Int) - 1 > 0 then (k:Int) - 1 else 0)(hj:j=(k:Int)):cutV xs (some i) (some j)=(if k=0 then none else xs[k - 1]?).toList:=by
 subst hj;have e:i=((k - 1:Nat):Int):=by
  rw[hi];split <;> omega
 subst e;rw[zkj];split
 ·rename_i h;subst h;simp
 ·rw[show k - (k - 1)=1 by omega,zgD]
theorem zk3 {xs:List V}{k:Nat}{i j:Int}(hi:i=(k:Int)+1)(hj:j=(k:Int)+2):cutV xs (some i) (some j)=xs[k+1]?.toList:=by
 subst hi hj;rw[show (k:Int)+1=((k+1:Nat):Int) by omega,show (k:Int)+2=((k+2:Nat):Int) by omega,zkj,show k+2 - (k+1)=1 by omega,zgD]
theorem znh (xs:List Nat)(k:Nat):(if k=0 then none else (xs.map nV)[k - 1]?).toList++(xs.map nV)[k+1]?.toList=(za4 xs k).map nV:=by
 unfold za4;rw[yaw,yaq,yaq];congr 1
 ·split
  ·rfl
  ·cases xs[k - 1]? <;> rfl
 ·cases xs[k+1]? <;> rfl
theorem But.new {p b:Addr}{H H2:Hp}(k:But p H H2)(hb:H2 b=none)(o:HO):But p H (upd H2 b o):=fun x o' n e=>(zaf hb o) x o' (k x o' n e)
def zh5 (K:Frag):Sp:=fun vs H Q _=>∃(a:Addr) (xs:List Nat),vs=[.ref a]∧SqL K H a (xs.map nV)∧Unl xs∧zdy 6 xs∧xs.length≤1000∧
 ∀(p:Addr) (H':Hp),H p=none→Same H H'→H' p=some (.lst ((colL xs).map nV))→Q (.ref p) H'
def zeC (es:List (Int×Int)):List Bool:=zgK (colL (zdg 5 (zcS es)))
theorem zhy (es:List (Int×Int)):(zeC es).length=es.length:=by
 unfold zeC;rw[zhz,zgj,zct,za1]
theorem zmy {es:List (Int×Int)}(he:∀ e∈es,zfn 64 e)(hri:Rise es):Unl (zdg 5 (zcS es)):=zcJ (zgk he hri) 5
theorem zmz {es:List (Int×Int)}(he:∀ e∈es,zfn 64 e)(hri:Rise es):zdy 6 (zdg 5 (zcS es)):=zpB (zgk he hri) (zjm he)
def zlE (K:Frag):Sp:=fun vs H Q _=>∃(a:Addr) (ws:List V) (es:List (Int×Int)),vs=[.ref a]∧H a=some (.lst ws)∧zan K H es ws∧es.length≤1000∧(∀ e∈es,zfn 64 e)∧Rise es∧
 ∀(p:Addr) (H':Hp),H p=none→Same H H'→H' p=some (.lst ((zeC es).map V.bl))→Q (.ref p) H'
def zg7 (K:Frag):Sp:=fun vs H Q _=>∃(a:Addr) (ws:List V) (es:List (Int×Int)),vs=[.ref a]∧H a=some (.lst ws)∧zan K H es ws∧es.length≤1000∧(∀ e∈es,zfn 64 e)∧Rise es∧
 ∀(p:Addr) (H':Hp),H p=none→Same H H'→H' p=some (.lst (zcP ws (zeC es)))→Q (.ref p) H'
theorem zgC (o:Option Bool):o.toList.any id=o.getD false:=by
 cases o with
 | none=>rfl
 | some b=>cases b <;> rfl
theorem zor (ms:List Bool):inV (.bl true) (ms.map V.bl)=ms.any id:=by
 unfold inV
 induction ms with
 | nil=>rfl
 | cons m ms ih=>
  rw[yan,ybc,ih,ybc];cases m <;> rfl
theorem zqz (ms:List Bool):(ms.map V.bl).all zdW=true:=by
 rw[yaR];intro x hx;obtain ⟨n,_,rfl⟩:=yax.mp hx;rfl
theorem zmQ {α:Type}{as:List α}{bs:List Bool}{a:α}{b:Bool}(h:as.length=bs.length):zcP (as++[a]) (bs++[b])=zcP as bs++(if b=true then [a] else []):=by
 unfold zcP;rw[List.zip_append h,ybg,yaw];congr 1;cases b <;> rfl
theorem zja {α:Type}(as:List α)(bs:List Bool):(zcP as bs).length≤as.length:=by
 unfold zcP;rw[yab];refine yaB (ya9 _ _) ?_;rw[ycl];omega
theorem zfK {α:Type}[Rep α]{K:Frag}{H:Hp}:∀{es:List α} {ws:List V} {ms:List Bool},zan K H es ws→zan K H (zcP es ms) (zcP ws ms)
 | _,_,_,.nil=>by
  unfold zcP;exact .nil
 | e::es,w::ws,[],.cons h t=>by
  unfold zcP;exact .nil
 | e::es,w::ws,m::ms,.cons h t=>by
  have:=zfK (ms:=ms) t;unfold zcP at this ⊢;cases m with
  | false=>exact this
  | true=>exact .cons h this
theorem zd2 (bs:List Nat)(c:Nat):((List.range (c+1)).filter fun c=>!decide (c∈bs))=((List.range c).filter fun c=>!decide (c∈bs))++(if c∈bs then [] else [c]):=by
 rw[ycm,ybg];congr 1;by_cases h:c∈bs
 ·rw[if_pos h];simp[List.filter,h]
 ·rw[if_neg h];simp[List.filter,h]
theorem zdX {H:Hp}{p t:Addr}{xs ys:List V}(h1:H p=some (.lst xs))(h2:H t=some (.tup ys)):p≠t:=fun z=>by
 rw[z,h2]at h1;cases h1
theorem zgb {n k:Nat}(h:k < n):ixN n (k:Int)=some k:=by
 unfold ixN;simp;omega
def besV (xs:List V)(k:Nat):List V:=(if k=0 then none else xs[k - 1]?).toList++xs[k+1]?.toList
theorem zjn (xs:List V)(k:Nat):(besV xs k).length≤2:=by
 have e:∀ o:Option V,o.toList.length≤1:=fun o=>by cases o <;> simp
 unfold besV;rw[yas];have:=e (if k=0 then none else xs[k - 1]?)
 have:=e xs[k+1]?;omega
def spNb (K:Frag):Sp:=fun vs H Q _=>∃(a:Addr) (xs:List V) (k:Nat),vs=[.ref a,.int k]∧H a=some (.lst xs)∧
 ∀(g:Addr) (H':Hp),H g=none→Same H H'→H' g=some (.lst (besV xs k))→Q (.ref g) H'
theorem zht (T:Txt K mg)(qa8:DF K mg "neighbours" zcu zbK):FC P w K mg base 1 "neighbours" zbK (spNb K):=by
 refine qa8.ok qdH (fun vs H Q E h=>?_) (fun f cdv A outer s H vs Q E hr h=>?_)
 ·obtain ⟨a,xs,k,rfl,_⟩:=h;rfl
 obtain ⟨a,xs,k,rfl,ha,q⟩:=h;refine ⟨_,(zae (zas (zax zpi (zbB zlL (pv 0) (zbL (zam (ziy rfl) rfl T.qgN boot_max (zaa (zax zcM (pv 1) zag) (zaa zag zab)))) (zbL (pv 1))) (zbB zlL (pv 0) (zbL (zax zbt (pv 1) zag)) (zbL (zax zbt (pv 1) zag)))))),?_⟩;refine ⟨_,rfl,_,rfl,_,_,rfl,rfl,_,_,rfl,_,rfl,_,rfl,_,rfl,_,_,rfl,SqL.of ha,fun b hb=>?_⟩;have kb:=zaf hb (.lst (cutV xs (some (if 0 > (k:Int) - 1 then 0 else (k:Int) - 1)) (some (k:Int))))
 have hbb:upd H b (.lst (cutV xs (some (if 0 > (k:Int) - 1 then 0 else (k:Int) - 1)) (some (k:Int)))) b=some (.lst (if k=0 then none else xs[k - 1]?).toList):=by
  rw[zac,zm7 (k:=k) (by split <;> split <;> omega) rfl]
 generalize upd H b (.lst (cutV xs (some (if 0 > (k:Int) - 1 then 0 else (k:Int) - 1)) (some (k:Int))))=H3 at kb hbb ⊢
 refine ⟨_,rfl,_,rfl,_,_,rfl,rfl,_,rfl,_,rfl,_,_,rfl,rfl,_,rfl,_,_,rfl,SqL.of (kb _ _ ha),fun c hc=>?_⟩;have kc:=zaf hc (.lst (cutV xs (some ((k:Int)+1)) (some ((k:Int)+2))));have hcb:=kc _ _ hbb;have hcc:upd H3 c (.lst (cutV xs (some ((k:Int)+1)) (some ((k:Int)+2)))) c=some (.lst xs[k+1]?.toList):=by
  rw[zac,zk3 (k:=k) rfl rfl]
 generalize upd H3 c (.lst (cutV xs (some ((k:Int)+1)) (some ((k:Int)+2))))=H4 at kc hcb hcc ⊢;refine ⟨b,c,_,_,rfl,rfl,hcb,hcc,?_,fun g hg=>?_⟩
 ·rw[← yas];exact yaB (zjn xs k) (by decide)
 exact q g _ (kb.free (kc.free hg)) (kb.trans (kc.trans (zaf hg _))) zac
def zo9 (K:Frag):Sp:=fun vs H Q _=>∃(a:Addr) (xs:List Nat) (k:Nat),vs=[.ref a]∧H a=some (.lst ((za4 xs k).map nV))∧
 ∀ H':Hp,Same H H'→Q (.int (zd1 xs k:Nat)) H'
theorem zhu (T:Txt K mg)(qa9:DF K mg "least_free" zcv zcb):FC P w K mg base 1 "least_free" zcb (zo9 K):=by
 refine qa9.ok qdI (fun vs H Q E h=>?_) (fun f cdv A outer s H vs Q E hr h=>?_)
 ·obtain ⟨a,xs,k,rfl,_⟩:=h;rfl
 obtain ⟨a,xs,k,rfl,ha,q⟩:=h;refine ⟨_,(zae (zas (zam (zne rfl) rfl T.qgV boot_min (zaa (zb5 (N:=["colour","taken"]) (own:=1) (cap:=[0]) rfl (zf0 (zaQ (zaa zag (zaa zag (zaa zag zab))))) ⟨rfl,rfl,rfl,rfl,rfl,rfl⟩ (fun _ _ _ _ _=>(zay (i:=0) (show List.Nodup (["colour","taken"]:List Str) by decide +kernel) rfl (Or.inl rfl))) (fun _ _ _ _ _=>(zeR (zar (zhr (K:=K)) (pv 0) (pv 1) (by with_unfolding_all rfl)))) (fun _ _ _ _ _=>(pv 0))) zab)))),?_⟩
 refine ⟨(by show 3≤sizeLine;decide),fun t ht=>?_⟩;have st:=zaf ht (.tup [V.int 0,V.int 1,V.int 2]);have ht1:upd H t (.tup [V.int 0,V.int 1,V.int 2]) t=some (.tup [V.int 0,V.int 1,V.int 2]):=zac;generalize upd H t (.tup [V.int 0,V.int 1,V.int 2])=H1 at st ht1 ⊢;have h1a:=st _ _ ha;refine ⟨t,rfl,⟨_,SqT.of ht1⟩,fun D hD=>?_⟩;refine zeI (xs:=[V.int 0,V.int 1,V.int 2]) (fun c σ H6=>∃ x0:Option V,σ=[x0,some (.ref a)]∧H6 D=some (.lst (((List.range c).filter fun c=>!decide (c∈za4 xs k)).map nV))∧But D H1 H6) ?_ ?_ ?_ ?_
 ·exact ⟨_,rfl,zac,fun b o n e=>by rw[zaj n];exact e⟩
 ·rintro i σ H6 _ ⟨x0,rfl,_,k6⟩;exact SqT.of (k6 _ _ (zad ht1 hD) ht1)
 ·rintro c m x σ H6 hx hm ⟨x0,rfl,h6,k6⟩;obtain ⟨hi,rfl⟩:c < 3∧x=V.int (c:Int):=by
   rcases c with _ | _ | _ | c
   ·exact ⟨by decide,(yad hx).symm⟩
   ·exact ⟨by decide,(yad hx).symm⟩
   ·exact ⟨by decide,(yad hx).symm⟩
   ·cases hx
  have h6g:=k6 _ _ (zad h1a hD) h1a;have hlen:=ya9 (fun c=>!decide (c∈za4 xs k)) (List.range c);rw[ya4]at hlen;refine ⟨_,rfl,_,rfl,_,_,rfl,.inl (SqL.of h6g),rfl,zmW _,_,rfl,?_⟩;show if (!inV (.int (c:Int)) ((za4 xs k).map nV))=true then _ else _
  rw[zpr];have hm3:c+m=3:=hm;refine ite2 (fun e=>?_) (fun e=>?_)
  ·have e':c∉za4 xs k:=fun z=>by
    rw[yaj z]at e;cases e
   refine ⟨_,rfl,_,h6,zau (by rw[yab];omega),m - 1,by omega,(by show c+1+(m - 1)=3;omega),_,rfl,?_,fun b o n e=>by rw[zaj n];exact k6 b o n e⟩;rw[zac,zd2,if_neg e',yaw];rfl
  ·have e':c∈za4 xs k:=Decidable.byContradiction fun z=>e (by rw[yaf z];rfl);refine ⟨m - 1,by omega,(by show c+1+(m - 1)=3;omega),_,rfl,?_,k6⟩;rw[h6,zd2,if_pos e',yay]
 ·rintro σ H6 ⟨x0,rfl,h6,k6⟩;have h6:H6 D=some (.lst (((List.range 3).filter fun c=>!decide (c∈za4 xs k)).map nV)):=h6;have s6:Same H1 H6:=fun b o e=>k6 b o (zad e hD) e;have mem:∀ c,c∈((List.range 3).filter fun c=>!decide (c∈za4 xs k))↔c < 3∧c∉za4 xs k:=fun c=>by
   rw[yba,ya5];constructor
   ·rintro ⟨h1,h2⟩;refine ⟨h1,fun z=>?_⟩;rw[yaj z]at h2;cases h2
   ·rintro ⟨h1,h2⟩;exact ⟨h1,by rw[yaf h2];rfl⟩
  have hf:zd1 xs k∈((List.range 3).filter fun c=>!decide (c∈za4 xs k)):=(mem _).mpr ⟨Nat.lt_succ_of_le (zmV xs k),zk0⟩;refine ⟨D,((List.range 3).filter fun c=>!decide (c∈za4 xs k)).map fun n:Nat=>(n:Int),rfl,?_,?_,fun M hM hL=>?_⟩
  ·rw[ybl];exact SqL.of h6
  ·rw[yab];exact List.length_pos_of_mem hf
  have eM:M=(zd1 xs k:Int):=by
   have h1:=hL _ (yax.mpr ⟨_,hf,rfl⟩);obtain ⟨c,hc,rfl⟩:=yax.mp hM;have h2:¬ c < zd1 xs k:=fun z=>((mem c).mp hc).2 (zio z);omega
  rw[eM];exact q _ (st.trans s6)
theorem zqG (xs:List Nat)(k:Nat):besV (xs.map nV) k=(za4 xs k).map nV:=znh xs k
theorem zkM (T:Txt K mg)(qcQ:DF K mg "colours" zel zdL)(qba:FC P w K mg base 1 "neighbours" zbK (spNb K))(qea:FC P w K mg base 1 "least_free" zcb (zo9 K)):FC P w K mg base 3 "colours" zdL (zh5 K):=by
 refine qcQ.ok qbe (fun vs H Q E h=>?_) (fun f cdv A outer s H vs Q E hr h=>?_)
 ·obtain ⟨a,xs,rfl,_⟩:=h;rfl
 obtain ⟨a,xs,rfl,hS,hu,hb,hz,q⟩:=h;refine ⟨_,(zai (zaq (i:=1) qbe.nd rfl (Or.inl rfl) (zaW zcB rfl T.qbX boot_list (zaa (pv 0) zab)))
   (zai (zb1 PassesOwn.never rfl (zf0 (zaQ (zaa zag (zaa zag (zaa zag zab))))) (zay (i:=2) qbe.nd rfl (Or.inl rfl)) (zae (zb1 PassesOwn.never rfl (zbs rfl T.qaF (zaa (zam zak rfl T.qaz boot_len (zaa (pv 0) zab)) zab)) (zay (i:=3) qbe.nd rfl (Or.inl rfl)) (zae (zaP (zar zdV (zaK zaX (pv 1) (pv 3) (fun _ _=>rfl)) (pv 2) (zaB _)) (zae (zfZ (zaw qea hr (zaa (zaw qba hr (zaa (pv 1) (zaa (pv 3) zab))) zab)) (zid (pv 1) (pv 3) zeg))) zav)))))
   (zae (zas (pv 1))))),?_⟩
 refine ⟨_,rfl,a,_,rfl,.inl hS,fun p hp=>?_⟩;have k0:But p H (upd H p (.lst (xs.map nV))):=fun b o n e=>by rw[zaj n];exact e
 refine ⟨(by show 3≤sizeLine;decide),fun t ht=>?_⟩;have npt:p≠t:=zad zac ht;refine ⟨t,rfl,⟨_,SqT.of zac⟩,?_⟩;refine zjd (xs:=[V.int 3,V.int 4,V.int 5]) (fun i σ H2=>∃ x2 x3:Option V,σ=[some (.ref a),some (.ref p),x2,x3]∧H2 p=some (.lst ((colN xs i).map nV))∧H2 t=some (.tup [V.int 3,V.int 4,V.int 5])∧But p H H2) ?_ ?_ ?_ ?_
 ·exact ⟨_,_,rfl,by rw[zaj npt];exact zac,zac,k0.new ht _⟩
 ·rintro i σ H2 _ ⟨x2,x3,rfl,_,h2t,_⟩;exact SqT.of h2t
 ·rintro i x σ H2 hx ⟨x2,x3,rfl,h2,h2t,k2⟩;obtain ⟨hi,rfl⟩:i < 3∧x=V.int ((3+i:Nat):Int):=by
   rcases i with _ | _ | _ | i
   ·exact ⟨by decide,(yad hx).symm⟩
   ·exact ⟨by decide,(yad hx).symm⟩
   ·exact ⟨by decide,(yad hx).symm⟩
   ·cases hx
  have hyl:=zjl xs i;have hyu:=zoG hu i;have hnx:colN xs (i+1)=recL (3+i) (colN xs i):=rfl;rw[hnx];generalize colN xs i=ys at h2 hyl hyu ⊢;generalize 3+i=v;have hSa:SqL K H2 a (xs.map nV):=k2.sq hS hp;refine ⟨_,rfl,_,_,rfl,.inl hSa,_,rfl,by rw[yab];omega,by rw[yab];omega,?_⟩;have el:((((xs.map nV).length:Nat):Int)).toNat=ys.length:=by rw[yab,ya6,hyl]
  rw[el];refine zbv (n:=ys.length) (fun k σ H3=>∃ x3:Option V,σ=[some (.ref a),some (.ref p),some (.int v),x3]∧H3 p=some (.lst ((mixL v ys k).map nV))∧H3 t=some (.tup [V.int 3,V.int 4,V.int 5])∧But p H H3) ?_ ?_ ?_
  ·exact ⟨_,rfl,h2,h2t,k2⟩
  ·rintro k σ H3 hk ⟨x3,rfl,h3,h3t,k3⟩;rw[ybI];have ml:=zf4 v ys k;have eg:(mixL v ys k).getD k 0=ys.getD k 0:=by
    rw[yag,zmq (yaa k),← yag]
   have hat:atI ((mixL v ys k).map nV) (k:Int)=some (nV (ys.getD k 0)):=by
    rw[← eg];exact znk (by omega)
   refine ⟨_,rfl,_,rfl,_,_,_,_,rfl,rfl,SqL.of h3,hat,_,rfl,rfl,_,rfl,?_⟩;refine ite2 (fun c=>?_) (fun c=>?_)
   ·have c':ys.getD k 0=v:=by
     have:=V.int.inj (yaK c);omega
    refine ⟨_,rfl,_,rfl,p,_,k,rfl,h3,fun g H4 hg s4 h4=>?_⟩;rw[zqG,ziZ hyu hk c']at h4;refine ⟨g,ys,k,rfl,h4,fun H5 s5=>?_⟩;have s35:=s4.trans s5;have same:∀ b o,b≠p→H3 b=some o→upd H5 p (.lst (((mixL v ys k).map nV).set k (nV (zd1 ys k)))) b=some o:=fun b o n e=>by
     rw[zaj n];exact s35 _ _ e
    refine ⟨_,rfl,_,rfl,_,_,_,k,rfl,rfl,s35 _ _ h3,zgb (by rw[yab,ml];exact hk),?_⟩;refine ⟨_,rfl,?_,same _ _ (Ne.symm (zdX h3 h3t)) h3t,fun b o n e=>same _ _ n (k3 b o n e)⟩;rw[zac,zoi hk c',ybX]
   ·have c':ys.getD k 0≠v:=fun z=>c (by rw[z];exact yaj rfl);exact ⟨_,rfl,by rw[zmo hk c'];exact h3,h3t,k3⟩
  ·rintro σ H3 ⟨x3,rfl,h3,h3t,k3⟩;rw[zoj (yaa _)]at h3;exact ⟨_,_,rfl,h3,h3t,k3⟩
 ·rintro σ H2 ⟨x2,x3,rfl,h2,_,k2⟩;refine ⟨_,rfl,?_⟩;exact q p H2 hp (fun b o e=>k2 b o (zad e hp) e) h2
def zdu (ms:List Bool)(k:Nat):Bool:=!ms.getD (k - 1) false && !ms.getD (k+1) false
def besB (ms:List Bool)(k:Nat):List Bool:=(if k=0 then none else ms[k - 1]?).toList++ms[k+1]?.toList
theorem zqH (ms:List Bool)(k:Nat):besV (ms.map V.bl) k=(besB ms k).map V.bl:=by
 unfold besV besB;rw[yaw,yaq,yaq];congr 1
 ·split
  ·rfl
  ·cases ms[k - 1]? <;> rfl
 ·cases ms[k+1]? <;> rfl
theorem zoM {ms:List Bool}{k:Nat}(h:1≤k):(besB ms k).any id=!zdu ms k:=by
 unfold besB zdu;rw[if_neg (by omega),List.any_append,zgC,zgC,yag,yag];generalize ms[k - 1]?.getD false=x;generalize ms[k+1]?.getD false=z;cases x <;> cases z <;> rfl
theorem ziY {sh:Nat}{cs:List Nat}{ms:List Bool}(hu:Unl cs)(hl:cs.length=ms.length){k:Nat}(h:k < cs.length)(h1:1≤k)(hs:cs.getD k 0=sh):zdu (mixM sh cs ms k) k=zdu ms k:=by
 unfold zdu;have e:∀ j,k≤j→(mixM sh cs ms k).getD j false=ms.getD j false:=fun j hj=>by
  rw[yag,yag,zcA hl,if_neg (by omega)]
 rw[e (k+1) (by omega)];have e2:(mixM sh cs ms k).getD (k - 1) false=ms.getD (k - 1) false:=by
  rw[yag,zcA hl,if_pos (by omega),zdN hl (by omega)];have:=hu (k - 1) (by omega);rw[show k - 1+1=k by omega,hs]at this;rw[yaf this];simp
 rw[e2]
theorem zgI {sh:Nat}{cs:List Nat}{ms:List Bool}(hl:cs.length=ms.length){k:Nat}(h:k < cs.length)(hn:¬ (cs.getD k 0=sh∧zdu ms k=true)):mixM sh cs ms (k+1)=mixM sh cs ms k:=by
 apply ya7;intro j;rw[zcA hl,zcA hl];by_cases c:j < k
 ·rw[if_pos c,if_pos (by omega)]
 ·rw[if_neg c];split
  ·have:j=k:=by omega
   subst this;rw[zdN hl h];unfold zdu at hn;rw[yac (by omega)];have e:ms.getD j false=ms[j]'(by omega):=by
    rw[yag,yac (by omega)];rfl
   rw[e];congr 1;generalize ms[j]=a;generalize ms.getD (j - 1) false=b at hn ⊢;generalize ms.getD (j+1) false=d at hn ⊢;by_cases z:cs.getD j 0=sh
   ·have hn':¬ ((!b && !d)=true):=fun y=>hn ⟨z,y⟩;cases b with
    | true=>simp
    | false=>
     cases d with
     | true=>simp
     | false=>exact absurd rfl hn'
   ·rw[yaf z];simp
  ·rfl
theorem zmn {sh:Nat}{cs:List Nat}{ms:List Bool}(hl:cs.length=ms.length){k:Nat}(h:k < cs.length)(hp:1≤k∧cs.getD k 0=sh∧zdu ms k=true):mixM sh cs ms (k+1)=(mixM sh cs ms k).set k true:=by
 apply ya7;intro j;rw[ybv,zf3 hl,zcA hl,zcA hl];by_cases c:k=j
 ·subst c;rw[if_pos rfl,if_pos h,if_pos (by omega),zdN hl h];obtain ⟨p1,p2,p3⟩:=hp;unfold zdu at p3;simp only[ybo,ybE]at p3;rw[p2,p3.1,p3.2,yaj p1];simp
 ·rw[if_neg c];by_cases c2:j < k
  ·rw[if_pos c2,if_pos (by omega)]
  ·rw[if_neg c2,if_neg (by omega)]
theorem zn2 (T:Txt K mg)(qes:DF K mg "marks" zhb zfD)(qgb:FC P w K mg base 3 "labels" zer (zjK K))(qft:FC P w K mg base 3 "colours" zdL (zh5 K))(qba:FC P w K mg base 1 "neighbours" zbK (spNb K)):FC P w K mg base 5 "marks" zfD (zlE K):=by
 refine qes.ok qbp (fun vs H Q E h=>?_) (fun f cdv A outer s H vs Q E hr h=>?_)
 ·obtain ⟨a,ws,es,rfl,_⟩:=h;rfl
 obtain ⟨a,ws,es,rfl,ha,hw,hz,he,hri,q⟩:=h;refine ⟨_,(zai (zaq (i:=1) qbp.nd rfl (Or.inl rfl) (zaw qft hr (zaa (zaw qgb hr (zaa (pv 0) zab)) zab)))
   (zai (ziT (i:=2) (N:=["tint"]) (own:=1) (cap:=[]) qbp.nd rfl rfl rfl (zd6 (pv 1)) ⟨rfl,rfl,rfl,rfl,rfl,rfl⟩ (fun _ _ _ _ _=>(zay (i:=0) (show List.Nodup (["tint"]:List Str) by decide +kernel) rfl (Or.inl rfl))) (fun _ _ _ _ _=>zc2) (fun _ _ _ _ _=>zdU))
   (zai (zb1 PassesOwn.never rfl (zf0 (zaQ (zaa zag (zaa zag (zaa zag zab))))) (zay (i:=3) qbp.nd rfl (Or.inl rfl)) (zae (zb1 PassesOwn.never rfl (zew rfl T.qaF (zaa zag (zaa (zam zak rfl T.qaz boot_len (zaa (pv 1) zab)) zab))) (zay (i:=4) qbp.nd rfl (Or.inl rfl)) (zae (zaP (PW.pt (zia (zar zdV (zaK zaX (pv 1) (pv 4) (fun _ _=>rfl)) (pv 3) (zaB _)) (zfX (zar zb2 zdU (zaw qba hr (zaa (pv 2) (zaa (pv 4) zab))) (by with_unfolding_all rfl))))) (zae (zfZ zdU (zid (pv 2) (pv 4) zeg))) zav)))))
   (zae (zas (pv 2)))))),?_⟩
 refine ⟨_,rfl,a,ws,es,rfl,SqL.of ha,hw,hz,he,hri,fun p H3 hp s3 h3=>?_⟩;refine ⟨p,_,rfl,SqL.of h3,zmy he hri,zmz he hri,by rw[zct,za1];exact hz,fun c H4 hc s4 h4=>?_⟩;have cu:Unl (colL (zdg 5 (zcS es))):=zoW (zoH (unlZ (zmy he hri)));have cl:(colL (zdg 5 (zcS es))).length=es.length:=by rw[zgj,zct,za1]
 have fin:zeC es=mkN (colL (zdg 5 (zcS es))) 3:=(zml _).symm;generalize colL (zdg 5 (zcS es))=cs at h4 cu cl fin;have s04:=s3.trans s4;refine ⟨_,rfl,c,rfl,⟨_,SqL.of h4⟩,fun F hF=>?_⟩;refine zcR (xs:=cs.map nV) (fun i σ H5=>∃ x0:Option V,σ=[x0]∧H5 F=some (.lst ((List.replicate i false).map V.bl))∧But F H4 H5) ?_ ?_ ?_ ?_
 ·exact ⟨_,rfl,zac,fun b o n e=>by rw[zaj n];exact e⟩
 ·rintro i σ H5 _ ⟨x0,rfl,_,k5⟩;exact k5.sq (SqL.of h4) hF
 ·rintro i m x σ H5 hx hm ⟨x0,rfl,h5,k5⟩;have hi:=(yap.mp hx).1;rw[yab]at hi hm;refine zdZ ?_;refine ⟨_,h5,zau (by rw[yab,yby];omega),m - 1,by omega,by rw[yab];omega,_,rfl,?_,fun b o n e=>by rw[zaj n];exact k5 b o n e⟩;rw[zac,List.replicate_succ',yaw];rfl
 rintro σ H5 ⟨x0,rfl,h5,k5⟩;have s45:Same H4 H5:=fun b o e=>k5 b o (zad e hF) e;have h5c:=s45 _ _ h4;have nFc:c≠F:=zad h4 hF;have hF0:H F=none:=s04.free hF;have k05:But F H H5:=fun b o _ e=>s45 _ _ (s04 _ _ e);have e5:H5 F=some (.lst ((mkN cs 0).map V.bl)):=by
  rw[h5,mkN,yab,show List.replicate cs.length false=cs.map (fun _=>false) from by rw[List.map_const']]
 refine ⟨(by show 3≤sizeLine;decide),fun t ht=>?_⟩;have st:=zaf ht (.tup [V.int 2,V.int 1,V.int 0]);refine ⟨t,rfl,⟨_,SqT.of zac⟩,?_⟩;refine zjd (xs:=[V.int 2,V.int 1,V.int 0]) (fun i σ H6=>∃(x3 x4:Option V),σ=[some (.ref a),some (.ref c),some (.ref F),x3,x4]∧H6 F=some (.lst ((mkN cs i).map V.bl))∧H6 c=some (.lst (cs.map nV))∧H6 t=some (.tup [V.int 2,V.int 1,V.int 0])∧But F H H6) ?_ ?_ ?_ ?_
 ·exact ⟨_,_,rfl,st _ _ e5,st _ _ h5c,zac,k05.new ht _⟩
 ·rintro i σ H6 _ ⟨x3,x4,rfl,_,_,h6t,_⟩;exact SqT.of h6t
 ·rintro i x σ H6 hx ⟨x3,x4,rfl,h6,h6c,h6t,k6⟩;obtain ⟨hi,rfl⟩:i < 3∧x=V.int ((2 - i:Nat):Int):=by
   rcases i with _ | _ | _ | i
   ·exact ⟨by decide,(yad hx).symm⟩
   ·exact ⟨by decide,(yad hx).symm⟩
   ·exact ⟨by decide,(yad hx).symm⟩
   ·cases hx
  have hml:=zkP cs i;have hnx:mkN cs (i+1)=zcl (2 - i) cs (mkN cs i):=rfl;rw[hnx];generalize mkN cs i=ms at h6 hml ⊢;generalize 2 - i=sh;refine ⟨_,rfl,_,_,rfl,.inl (SqL.of h6c),1,_,rfl,⟨by omega,by omega,by rw[yab];omega,by rw[yab];omega⟩,?_⟩;have en:((((cs.map nV).length:Nat):Int) - 1).toNat=cs.length - 1:=by rw[yab];omega
  rw[en];have km:∀ k,(mixM sh cs ms k).length=cs.length:=zf3 hml;refine zbv (n:=cs.length - 1) (fun j σ H7=>∃(x4:Option V),σ=[some (.ref a),some (.ref c),some (.ref F),some (.int sh),x4]∧H7 F=some (.lst ((mixM sh cs ms (1+j)).map V.bl))∧H7 c=some (.lst (cs.map nV))∧H7 t=some (.tup [V.int 2,V.int 1,V.int 0])∧But F H H7) ?_ ?_ ?_
  ·exact ⟨_,rfl,by rw[zog hml];exact h6,h6c,h6t,k6⟩
  ·rintro j σ H7 hj ⟨x4,rfl,h7,h7c,h7t,k7⟩;have ek:(1:Int)+(j:Int)=((1+j:Nat):Int):=by omega
   have hk1:1≤1+j:=by omega
   have hkl:1+j < cs.length:=by omega
   rw[ek];have es1:1+(j+1)=1+j+1:=by omega
   rw[es1];generalize 1+j=k at h7 hk1 hkl ⊢;have hat:=znk (xs:=cs) hkl;have mc:cs.getD k 0=sh→zdu (mixM sh cs ms k) k=zdu ms k:=fun z=>ziY cu hml hkl hk1 z;refine ⟨_,rfl,_,rfl,_,_,_,_,rfl,rfl,SqL.of h7c,hat,_,rfl,rfl,_,rfl,?_⟩;refine ite2 (fun e=>?_) (fun e=>?_)
   ·have e':cs.getD k 0=sh:=by
     have:=V.int.inj (yaK e);omega
    refine ⟨_,rfl,_,rfl,F,_,k,rfl,h7,fun b H8 hb sb hbb=>?_⟩;rw[zqH]at hbb;have kb:But F H H8:=fun x o n e=>sb _ _ (k7 x o n e);refine ⟨_,_,rfl,.inl (SqL.of hbb),rfl,zqz _,_,rfl,?_⟩;show if (!inV (.bl true) ((besB (mixM sh cs ms k) k).map V.bl))=true then _ else _
    rw[zor,zoM hk1,mc e',Bool.not_not];refine ite2 (fun y=>?_) (fun y=>?_)
    ·refine ⟨_,rfl,_,rfl,_,_,_,k,rfl,rfl,sb _ _ h7,zgb (by rw[yab,km];exact hkl),?_⟩;have same:∀ b o,b≠F→H8 b=some o→upd H8 F (.lst (((mixM sh cs ms k).map V.bl).set k (.bl true))) b=some o:=fun b o n e=>by
      rw[zaj n];exact e
     refine ⟨_,rfl,?_,same _ _ (fun z=>?_) (sb _ _ h7c),same _ _ (Ne.symm (zdX (sb _ _ h7) (sb _ _ h7t))) (sb _ _ h7t),fun b o n e=>same _ _ n (kb b o n e)⟩
     ·rw[zac,zmn hml hkl ⟨hk1,e',y⟩,ybX]
     ·exact nFc z
    ·exact ⟨_,rfl,by rw[zgI hml hkl (fun z=>y z.2)];exact sb _ _ h7,sb _ _ h7c,sb _ _ h7t,kb⟩
   ·have e':cs.getD k 0≠sh:=fun z=>e (by rw[z];exact yaj rfl);refine iteF ?_;exact ⟨_,rfl,by rw[zgI hml hkl (fun z=>e' z.1)];exact h7,h7c,h7t,k7⟩
  ·rintro σ H7 ⟨x4,rfl,h7,h7c,h7t,k7⟩;rw[zoh hml (by omega)]at h7;exact ⟨_,_,rfl,h7,h7c,h7t,k7⟩
 ·rintro σ H6 ⟨x3,x4,rfl,h6,_,_,k6⟩;refine ⟨_,rfl,?_⟩;refine q F H6 hF0 (fun b o e=>k6 b o (zad e hF0) e) ?_;rw[fin];exact h6
theorem zou {α:Type}:zcP ([]:List α) []=[]:=rfl
theorem zr9 {ms:List Bool}{i:Nat}{x:V}(h:(ms.map V.bl)[i]?=some x):∃ hi:i < ms.length,x=.bl ms[i]:=by
 rw[yaq]at h;cases e:ms[i]? with
 | none=>rw[e]at h;cases h
 | some y=>
  rw[e]at h;obtain ⟨hi,rfl⟩:=yap.mp e;exact ⟨hi,(yad h).symm⟩
theorem zhX {α:Type}{l:List α}{i:Nat}(h:i < l.length):l.take (i+1)=l.take i++[l[i]]:=yaU h
theorem zme (T:Txt K mg)(qdW:DF K mg "handed" zfA zdn)(qgB:FC P w K mg base 5 "marks" zfD (zlE K)):FC P w K mg base 6 "handed" zdn (zg7 K):=by
 refine qdW.ok qfd (fun vs H Q E h=>?_) (fun f cdv A outer s H vs Q E hr h=>?_)
 ·obtain ⟨a,ws,es,rfl,_⟩:=h;rfl
 obtain ⟨a,ws,es,rfl,ha,hw,hz,he,hri,q⟩:=h;have hwl:=hw.length;have hml:=zhy es;refine ⟨_,(zae (zas (zb5 (N:=["entry","mark"]) (own:=2) (cap:=[]) rfl (zro rfl T.qgY (zaa (pv 0) (zaa (zaw qgB hr (zaa (pv 0) zab)) zab))) ⟨rfl,rfl,rfl,rfl,rfl,rfl⟩ (fun _ _ _ _ _=>(zpV (K:=K) (n:=2) rfl (zbM (zay (i:=0) (show List.Nodup (["entry","mark"]:List Str) by decide +kernel) rfl (Or.inl rfl)) (zbM (zay (i:=1) (show List.Nodup (["entry","mark"]:List Str) by decide +kernel) rfl (Or.inl rfl)) zhm)))) (fun _ _ _ _ _=>(zeR (zbZ (pv 1)))) (fun _ _ _ _ _=>(pv 0))))),?_⟩;refine ⟨_,rfl,_,rfl,a,ws,es,rfl,ha,hw,hz,he,hri,fun u H6 hu g6 h6u=>?_⟩;have h6p:=g6 _ _ ha;generalize zeC es=ms at hml h6u q;refine ⟨a,u,rfl,⟨_,SqL.of h6p⟩,⟨_,SqL.of h6u⟩,fun D hD=>?_⟩;refine zoF (xs:=ws) (ys:=ms.map V.bl) (by rw[yab,hml];exact hwl.symm) (fun j σ H7=>∃ x0 x1:Option V,σ=[x0,x1]∧H7 D=some (.lst (zcP (ws.take j) (ms.take j)))∧But D H6 H7) ?_ ?_ ?_ ?_
 ·exact ⟨_,_,rfl,by rw[ycd,ycd,zou];exact zac,fun b o n e=>by rw[zaj n];exact e⟩
 ·rintro j σ H7 _ ⟨x0,x1,rfl,_,k7⟩;exact ⟨k7.sq (SqL.of h6p) hD,k7.sq (SqL.of h6u) hD⟩
 ·rintro j m' x y σ H7 r' hx hy hm' ⟨x0,x1,rfl,h7,k7⟩ hr';obtain ⟨hj,rfl⟩:=zr9 hy;obtain ⟨hjw,rfl⟩:=yap.mp hx;have hsn:=zmQ (a:=ws[j]) (b:=ms[j]) (show (ws.take j).length=(ms.take j).length by rw[yao,yao];omega);rw[← zhX hjw,← zhX hj]at hsn;refine ⟨r',_,rfl,SqT.of zac,rfl,_,_,rfl,_,_,rfl,rfl,?_⟩;have s7:=zaf hr' (.tup [ws[j],.bl ms[j]]);have h8:=s7 _ _ h7;have k8:=k7.new hr' (.tup [ws[j],.bl ms[j]]);generalize upd H7 r' (.tup [ws[j],.bl ms[j]])=H8 at h8 k8 ⊢;refine ⟨_,rfl,_,rfl,?_⟩;have hl8:=zja (ws.take j) (ms.take j);rw[yao]at hl8;refine ite2 (fun e=>?_) (fun e=>?_)
  ·refine ⟨_,rfl,_,h8,zau (by omega),m' - 1,by omega,by omega,_,_,rfl,?_,fun b o n e=>by rw[zaj n];exact k8 b o n e⟩;rw[zac,hsn,if_pos e]
  ·refine ⟨m' - 1,by omega,by omega,_,_,rfl,?_,k8⟩;rw[h8,hsn,if_neg e,yay]
 ·rintro σ H7 ⟨x0,x1,rfl,h7,k7⟩;rw[yav (yaa _),yav (by omega)]at h7;have s7:Same H6 H7:=fun b o e=>k7 b o (zad e hD) e;exact q D H7 (g6.free hD) (g6.trans s7) h7
theorem zbN {K:Frag}{H:Hp}{q:Addr}{zs:List V}{o:HO}(hq:H q=some (.lst zs)){es:List (Int×Int)}{ws:List V}(h:zan K H es ws):zan K (upd H q o) es ws:=pImp (fun _ _ h=>by
  obtain ⟨a,x1,x2,rfl,hT,e1,e2⟩:=(show hasP K H _ _ from h);exact ⟨a,x1,x2,rfl,by rw[zaj (zrJ hT hq (by intro z;cases z))];exact hT,e1,e2⟩) h
def Own (K:Frag)(H:Hp):List Addr→List (List (Int×Int))→Prop:=Paired fun q l=>∃ ws,H q=some (.lst ws)∧zan K H l ws
section
variable {K:Frag}{H H':Hp}
theorem Own.length {qs:List Addr}{ls:List (List (Int×Int))}(h:Own K H qs ls):qs.length=ls.length:=Paired.length h
theorem Own.ext (e:Ext H H'){qs:List Addr}{ls:List (List (Int×Int))}(h:Own K H qs ls):Own K H' qs ls:=pImp (fun _ _ h=>by
 obtain ⟨ws,h1,h2⟩:=h;exact ⟨ws,e _ _ h1 (fun _ z=>nomatch z),zan.mono e h2⟩) h
theorem Own.get:∀{qs:List Addr} {ls:List (List (Int×Int))} {i:Nat} {x:V},Own K H qs ls→(qs.map V.ref)[i]?=some x→∃ q l ws,qs[i]?=some q∧x=.ref q∧ls[i]?=some l∧H q=some (.lst ws)∧zan K H l ws
 | _,_,_,_,.nil,e=>by simp at e
 | _,_,0,_,.cons ⟨ws,h1,h2⟩ _,e=>by
  simp at e;exact ⟨_,_,ws,rfl,e.symm,rfl,h1,h2⟩
 | _,_,i+1,x,.cons _ t,e=>by
  obtain ⟨q,l,ws,h1,h2,h3,h4,h5⟩:=Own.get (i:=i) (x:=x) t (by simpa using e);exact ⟨q,l,ws,by simpa using h1,h2,by simpa using h3,h4,h5⟩
theorem Own.append {qs qs':List Addr}{ls ls':List (List (Int×Int))}(h:Own K H qs ls)(g:Own K H qs' ls'):Own K H (qs++qs') (ls++ls'):=pApp h g
theorem Own.other {q:Addr}{o:HO}{zs:List V}(hq:H q=some (.lst zs)){qs:List Addr}{ls:List (List (Int×Int))}(h:Own K H qs ls)(hn:q∉qs):Own K (upd H q o) qs ls:=by
 unfold Own at h
 induction h with
 | nil=>exact .nil
 | cons h _ ih=>
  obtain ⟨ws,h1,h2⟩:=h;rw[yah,not_or]at hn;exact .cons ⟨ws,by rw[zaj (Ne.symm hn.1)];exact h1,zbN hq h2⟩ (ih hn.2)
end
theorem ziq {ls:List (List (Int×Int))}{i:Nat}{l:List (Int×Int)}(h:ls[i]?=some l):(ls.take (i+1)).flatten=(ls.take i).flatten++l:=by
 have hi:=(yap.mp h).1;rw[yaU hi,ycq,(yap.mp h).2];simp
theorem zqy {ls:List (List (Int×Int))}(i:Nat):(ls.take i).flatten.length≤ls.flatten.length:=by
 have e:ls.flatten=(ls.take i).flatten++(ls.drop i).flatten:=by rw[← ycq,yaO]
 rw[e,yas];omega
def zlG (K:Frag):Sp:=fun vs H Q _=>∃(a:Addr) (qs:List Addr) (ls:List (List (Int×Int))),vs=[.ref a]∧H a=some (.lst (qs.map V.ref))∧Own K H qs ls∧ls.flatten.length≤1000∧
 ∀(p:Addr) (ws:List V) (H':Hp),H p=none→Same H H'→H' p=some (.lst ws)→zan K H' (zcY ls.flatten) ws→Q (.ref p) H'
theorem zmd (T:Txt K mg)(qbi:DF K mg "joined_up" zc0 zb0):FC P w K mg base 1 "joined_up" zb0 (zlG K):=by
 refine qbi.ok qa6 (fun vs H Q E h=>?_) (fun f cdv A outer s H vs Q E hr h=>?_)
 ·obtain ⟨a,qs,ls,rfl,_⟩:=h;rfl
 obtain ⟨a,qs,ls,rfl,ha,ho,hz,q⟩:=h;have hll:=ho.length;refine ⟨_,(zai (zaq (i:=1) qa6.nd rfl (Or.inl rfl) (za5 zab))
   (zai (zb1 PassesOwn.never rfl (zd6 (pv 0)) (zay (i:=2) qa6.nd rfl (Or.inl rfl)) (zae (zbp (zgz F.plainAttrs_list F.slot_list_extend F.type_list_extend zmk (pv 1) (zaa (pv 2) zab)))))
   (zae (zas (zam (zgV (Int×Int)) rfl T.qct boot_sorted (zaa (pv 1) zab)))))),?_⟩
 refine ⟨(by show 0≤sizeLine;decide),fun t ht=>?_⟩;have k0:But t H (upd H t (.lst [])):=fun b o n e=>by rw[zaj n];exact e
 refine ⟨_,rfl,a,rfl,⟨_,SqL.of (k0 _ _ (zad ha ht) ha)⟩,?_⟩;refine zkh (xs:=qs.map V.ref) (fun i σ H2=>∃(zs:List V) (x2:Option V),σ=[some (.ref a),some (.ref t),x2]∧H2 t=some (.lst zs)∧zan K H2 (ls.take i).flatten zs∧But t H H2∧Own K H2 qs ls) ?_ ?_ ?_ ?_
 ·exact ⟨[],_,rfl,zac,.nil,k0,ho.ext (zaf ht _).ext⟩
 ·rintro i σ H2 _ ⟨zs,x2,rfl,h2,_,k2,_⟩;exact SqL.of (k2 _ _ (zad ha ht) ha)
 ·rintro i x σ H2 hx ⟨zs,x2,rfl,h2,hw,k2,o2⟩;obtain ⟨g,l,ws,e1,rfl,e3,e4,e5⟩:=o2.get hx;have hlen:zs.length+ws.length≤1000:=by
   have z1:=hw.length;have z2:=e5.length;have z3:=zqy (ls:=ls) (i+1);rw[ziq e3,yas]at z3;omega
  have hgo:∀ b∈qs,b≠t:=fun b hb z=>by
   obtain ⟨j,hj,rfl⟩:=ya1 hb;obtain ⟨_,_,ws0,f1,f2,_,f4,_⟩:=ho.get (i:=j) (x:=.ref qs[j]) (by rw[yaq,yac hj];rfl);cases f2
   rw[z,ht]at f4;cases f4
  refine ⟨_,rfl,.inl ⟨rfl,_,SqL.of h2⟩,_,rfl,t,g,zs,ws,rfl,rfl,h2,e4,ya3 (zau hlen),?_⟩;refine ⟨_,_,rfl,zac,?_,fun b o n e=>by rw[zaj n];exact k2 b o n e,o2.other h2 (fun z=>hgo t z rfl)⟩;rw[ziq e3];exact (zbN h2 hw).append (zbN h2 e5)
 ·rintro σ H2 ⟨zs,x2,rfl,h2,hw,k2,o2⟩;rw[yav (by rw[yab];omega)]at hw;refine ⟨_,rfl,t,zs,_,rfl,SqL.of h2,hw,fun l ws hl hs=>?_⟩;have e2:=zaf hl (.lst ws);have s2:Same H H2:=fun b o e=>k2 b o (zad e ht) e;exact q l ws _ (s2.free hl) (s2.trans e2) zac (zan.mono e2.ext hs)
def zbT (ps:List Nat):List V:=.non::ps.map nV
def parV (ps:List Nat)(k:Nat):V:=match par ps k with
 | none=>.non
 | some p=>nV p
theorem zat (ps:List Nat):(zbT ps).length=ps.length+1:=by
 unfold zbT;rw[yaI,yab]
theorem zgp {ps:List Nat}{k:Nat}(h:k < ps.length+1):atI (zbT ps) (k:Int)=some (parV ps k):=by
 refine zdw ?_;unfold zbT parV;cases k with
 | zero=>rfl
 | succ k=>
  show (ps.map nV)[k]?=some (match ps[k]? with | none=>_ | some p=>nV p)
  rw[yaq,yac (show k < ps.length by omega)];rfl
theorem zex {ps:List Nat}{k p:Nat}(h:par ps k=some p):parV ps k=nV p:=by
 unfold parV;rw[h]
theorem zf1 {ps:List Nat}{k:Nat}(h:par ps k=none):parV ps k=.non:=by
 unfold parV;rw[h]
theorem zl0 {ps:List Nat}{k m:Nat}:parV ps k=.int (m:Int)↔par ps k=some m:=by
 cases e:par ps k with
 | none=>
  rw[zf1 e];exact ⟨(fun z=>nomatch z),(fun z=>nomatch z)⟩
 | some p=>
  rw[zex e];constructor
  ·intro z;have:=Int.ofNat.inj (V.int.inj z);rw[this]
  ·intro z;rw[yad z]
theorem zlP (ps:List Nat)(k:Nat)(i:Int):scal (parV ps k) (.int i)=true:=by
 cases e:par ps k with
 | none=>rw[zf1 e];rfl
 | some p=>rw[zex e];rfl
theorem But.new' {p b:Addr}{H H2:Hp}(k:But p H H2)(hb:H2 b=none)(o:HO):But p H (upd H2 b o):=fun x o' n e=>(zaf hb o) x o' (k x o' n e)
def zo2 (K:Frag):Sp:=fun vs H Q _=>∃(d L:Addr) (m:Int),vs=[.ref d,.int m]∧(0 < m∧m≤40)∧LS K L d H∧
 ∀(t:Addr) (ps:List Nat) (H':Hp),H t=none→zaD ps→(ps.length:Int) < m→H' t=some (.tup (zbT ps))→Keep d H H'→LS K L d H'→Q (.ref t) H'
theorem zlt {ps:List Nat}{u:Nat}(T:zaD ps)(h:u≤ps.length):zaD (ps++[u]):=by
 intro i hi;rw[yas,ybk]at hi;by_cases c:i < ps.length
 ·rw[List.getElem_append_left c];exact T i c
 ·have:i=ps.length:=by omega
  subst this;rw[List.getElem_append_right (yaa _)];simp;exact h
theorem zn3 (T:Txt K mg)(qdX:DF K mg "_law_tree" zfu zes)(qak:FC P w K mg base 2 "_law_take" zbq (ze8 K)):FC P w K mg base 3 "_law_tree" zes (zo2 K):=by
 refine qdX.ok qbq (fun vs H Q E h=>?_) (fun f cdv A outer s H vs Q E hr h=>?_)
 ·obtain ⟨d,L,m,rfl,_⟩:=h;rfl
 obtain ⟨d,L,m,rfl,⟨hm0,hm1⟩,hs,q⟩:=h;refine ⟨_,(zai (zaq (i:=2) qbq.nd rfl (Or.inl rfl) (zaw qak hr (zaa (pv 0) (zaa zag zab))))
   (zai (zaq (i:=3) qbq.nd rfl (Or.inl rfl) (za5 (zaa ze9 zab)))
   (zai (zb1 PassesOwn.never rfl (zew rfl T.qaF (zaa zag (zaa (zax zbt zag (zaw qak hr (zaa (pv 0) (zaa (pv 1) zab)))) zab))) (zay (i:=4) qbq.nd rfl (Or.inl rfl)) (zae (zbp (zgz F.plainAttrs_list F.slot_list_append F.type_list_append zbO (pv 3) (zaa (zaK zaX (za5 (zaa (zax zcM (pv 4) zag) (zaa zag (zaa (zaw qak hr (zaa (pv 0) (zaa (pv 4) zab))) (zaa (zam (ziy rfl) rfl T.qgN boot_max (zaa zag (zaa (zax zcM (zax zcM (pv 4) zag) (zaw qak hr (zaa (pv 0) (zaa zag zab)))) zab))) zab))))) (pv 2) (fun _ _=>rfl)) zab)))))
   (zae (zas (zaW zaS rfl T.qaK boot_tuple (zaa (pv 3) zab))))))),?_⟩
 refine ⟨_,rfl,d,L,4,rfl,by decide,hs,fun w1 H1 w0 w4 k1 s1=>?_⟩;refine ⟨(by show 1≤sizeLine;decide),fun p hp=>?_⟩;have g0:=zaf hp (.lst [V.non]);have hpd:p≠d:=by
  obtain ⟨ns,a,l,e,_⟩:=s1.ex;exact Ne.symm (zad e hp)
 have hp0:H p=none:=by
  cases e:H p with
  | none=>rfl
  | some o=>
   have:=k1 p o hpd e;rw[hp]at this;cases this
 refine ⟨_,rfl,_,rfl,d,L,m,rfl,⟨hm0,by omega⟩,s1.same g0,fun n H2 n0 n1 k2 s2=>⟨_,_,rfl,rfl,1,_,rfl,⟨by omega,by omega,by omega,by omega⟩,?_⟩⟩;have en:((1:Int)+n - 1).toNat=n.toNat:=by omega
 rw[en];refine zbv (n:=n.toNat) (fun i σ H3=>∃(ps:List Nat) (x4:Option V),σ=[some (.ref d),some (.int m),some (.int w1),some (.ref p),x4]∧H3 p=some (.lst (zbT ps))∧ps.length=i∧zaD ps∧(∀ b o,b≠d→b≠p→H b=some o→H3 b=some o)∧LS K L d H3) ?_ ?_ ?_
 ·exact ⟨[],_,rfl,k2 p _ hpd zac,rfl,fun i hi=>absurd hi (by simp),fun b o n1 n2 e=>k2 b o n1 (g0 b o (k1 b o n1 e)),s2⟩
 ·rintro i σ H3 hi ⟨ps,x4,rfl,h3,rfl,hT,k3,s3⟩;have ek:(1:Int)+((ps.length:Nat):Int)=((ps.length+1:Nat):Int):=by omega
  rw[ek];refine ⟨_,rfl,.inl ⟨rfl,_,SqL.of h3⟩,?_⟩;refine ⟨_,rfl,_,_,rfl,rfl,_,rfl,_,rfl,d,L,_,rfl,⟨by omega,by omega⟩,s3,fun v1 H4 v10 v11 k4 s4=>?_⟩;refine ⟨_,rfl,_,_,rfl,rfl,_,rfl,d,L,2,rfl,by decide,s4,fun v2 H5 v20 v21 k5 s5=>⟨_,_,rfl,rfl,_,_,rfl,(by show 4≤sizeLine;decide),fun l hl=>?_⟩⟩;have h4:=k4 p _ hpd h3;have h5:=k5 p _ hpd h4;obtain ⟨u,hat,hu⟩:∃ u:Nat,atI [V.int (((ps.length+1:Nat):Int) - 1),V.int 0,V.int v1,V.int (if ((ps.length+1:Nat):Int) - 1 - v2 > 0 then ((ps.length+1:Nat):Int) - 1 - v2 else 0)] w1=some (nV u)∧u≤ps.length:=by
   have z:w1=0∨w1=1∨w1=2∨w1=3:=by omega
   rcases z with rfl | rfl | rfl | rfl
   ·refine ⟨ps.length,?_,yaa _⟩;rw[show ((ps.length+1:Nat):Int) - 1=((ps.length:Nat):Int) by omega];rfl
   ·exact ⟨0,rfl,yaH _⟩
   ·obtain ⟨u,rfl⟩:=zrK v10;exact ⟨u,rfl,by omega⟩
   ·refine ⟨(if ((ps.length+1:Nat):Int) - 1 - v2 > 0 then ((ps.length+1:Nat):Int) - 1 - v2 else 0).toNat,?_,?_⟩
    ·show some (V.int _)=some (V.int _);rw[Int.toNat_of_nonneg (by split <;> omega)]
    ·split <;> omega
  refine ⟨_,rfl,_,_,_,_,rfl,rfl,SqL.of zac,hat,_,_,_,rfl,rfl,by rw[zaj (zad h5 hl)];exact h5,zau (by rw[zat];omega),?_⟩;refine ⟨ps++[u],_,rfl,?_,by rw[yas,ybk],zlt hT hu,fun b o n1 n2 e=>?_,?_⟩
  ·rw[zac];unfold zbT;rw[yaw];rfl
  ·rw[zaj n2];have e5:=k5 b o n1 (k4 b o n1 (k3 b o n1 n2 e));exact (zaf hl _) _ _ e5
  ·exact LS.put hs hp0 (fun b o n1 n2 e=>(zaf hl _) _ _ (k5 b o n1 (k4 b o n1 (k3 b o n1 n2 e)))) (s5.of_new hl _)
 ·rintro σ H3 ⟨ps,x4,rfl,h3,hl,hT,k3,s3⟩;refine ⟨_,rfl,p,_,rfl,.inl ⟨SqL.of h3,fun t ht=>?_⟩⟩;have sn:=zaf ht (.tup (zbT ps));have htp:t≠p:=Ne.symm (zad h3 ht);have ht0:H t=none:=by
   cases e:H t with
   | none=>rfl
   | some o=>
    have htd:t≠d:=by
     obtain ⟨ns,a,l,e,_⟩:=s3.ex;exact Ne.symm (zad e ht)
    have:=k3 t o htd htp e;rw[ht]at this;cases this
  exact q t ps _ ht0 hT (by omega) zac (fun b o n e=>sn _ _ (k3 b o n (zad e hp0) e)) (s3.of_new ht _)
def zgF (K:Frag):Sp:=fun vs H Q _=>∃(t:Addr) (ps:List Nat) (k:Nat),vs=[.ref t,.int k]∧H t=some (.tup (zbT ps))∧ps.length≤900∧
 ∀(p:Addr) (H':Hp),H p=none→Same H H'→H' p=some (.lst ((zb6 ps k (ps.length+1)).map nV))→Q (.ref p) H'
theorem ziX (T:Txt K mg)(qbF:DF K mg "children" zdD zc6):FC P w K mg base 1 "children" zc6 (zgF K):=by
 refine qbF.ok qen (fun vs H Q E h=>?_) (fun f cdv A outer s H vs Q E hr h=>?_)
 ·obtain ⟨t,ps,k,rfl,_⟩:=h;rfl
 obtain ⟨t,ps,k,rfl,ht,hz,q⟩:=h;refine ⟨_,(zae (zas (zb5 (N:=["other","tree","knot"]) (own:=1) (cap:=[0,1]) rfl (zbs rfl T.qaF (zaa (zam zak rfl T.qaz boot_len (zaa (pv 0) zab)) zab)) ⟨rfl,rfl,rfl,rfl,rfl,rfl⟩ (fun _ _ _ _ _=>(zay (i:=0) (show List.Nodup (["other","tree","knot"]:List Str) by decide +kernel) rfl (Or.inl rfl))) (fun _ _ _ _ _=>(zeR (zar zdV (zaK (zmG (K:=K)) (pv 1) (pv 0) (fun _ _=>rfl)) (pv 2) (zaB _)))) (fun _ _ _ _ _=>(pv 0))))),?_⟩;refine ⟨_,rfl,_,_,rfl,.inr (SqT.of ht),_,rfl,by omega,by rw[zat];omega,fun D hD=>?_⟩;have el:((((zbT ps).length:Nat):Int)).toNat=ps.length+1:=by rw[zat,ya6]
 rw[el];refine zdS (n:=ps.length+1) (fun j σ H3=>∃ x0:Option V,σ=[x0,some (.ref t),some (.int k)]∧H3 D=some (.lst ((zb6 ps k j).map nV))∧But D H H3) ?_ ?_ ?_
 ·exact ⟨_,rfl,zac,fun b o n e=>by rw[zaj n];exact e⟩
 ·rintro j m σ H3 hm hj ⟨x0,rfl,h3,k3⟩;rw[ybI];have h3t:=k3 _ _ (zad ht hD) ht;have hlen:=zgS ps k j;refine ⟨_,rfl,_,rfl,_,_,_,_,rfl,rfl,SqT.of h3t,zgp hj,_,rfl,zlP _ _ _,_,rfl,?_⟩;refine ite2 (fun c=>?_) (fun c=>?_)
  ·have c':par ps j=some k:=zl0.mp (yaK c);refine ⟨_,rfl,_,h3,zau (by rw[yab];omega),m - 1,by omega,by omega,_,rfl,?_,fun b o n e=>by rw[zaj n];exact k3 b o n e⟩;rw[zac,zgn,if_pos c',yaw];rfl
  ·have c':¬ par ps j=some k:=fun z=>c (yaj (zl0.mpr z));refine ⟨m - 1,by omega,by omega,_,rfl,?_,k3⟩;rw[h3,zgn,if_neg c',yay]
 ·rintro σ H3 ⟨x0,rfl,h3,k3⟩;exact q D H3 hD (fun b o e=>k3 b o (zad e hD) e) h3
def zh6 (K:Frag):Sp:=fun vs H Q _=>∃(t:Addr) (ps:List Nat) (k:Nat),vs=[.ref t,.int k]∧H t=some (.tup (zbT ps))∧zaD ps∧k < ps.length+1∧ps.length≤900∧
 ∀(p:Addr) (H':Hp),H p=none→Same H H'→H' p=some (.lst ((benL ps k (ps.length+1)).map nV))→Q (.ref p) H'
theorem zkN (T:Txt K mg)(qcR:DF K mg "beneath" zem zdM):FC P w K mg base 1 "beneath" zdM (zh6 K):=by
 refine qcR.ok qby (fun vs H Q E h=>?_) (fun f cdv A outer s H vs Q E hr h=>?_)
 ·obtain ⟨t,ps,k,rfl,_⟩:=h;rfl
 obtain ⟨t,ps,k,rfl,ht,hT,hk,hz,q⟩:=h;refine ⟨_,(zai (zaq (i:=2) qby.nd rfl (Or.inl rfl) (za5 (zaa (pv 1) zab)))
   (zai (zb1 PassesOwn.never rfl (zew rfl T.qaF (zaa (zax zbt (pv 1) zag) (zaa (zam zak rfl T.qaz boot_len (zaa (pv 0) zab)) zab))) (zay (i:=3) qby.nd rfl (Or.inl rfl)) (zae (zaP (zar zeA (zaK zaM (pv 0) (pv 3) (fun _ _=>rfl)) (pv 2) (by with_unfolding_all rfl)) (zae (zbp (zgz F.plainAttrs_list F.slot_list_append F.type_list_append zbO (pv 2) (zaa (pv 3) zab)))) zav)))
   (zae (zas (pv 2))))),?_⟩
 refine ⟨_,rfl,(by show 1≤sizeLine;decide),fun p hp=>?_⟩;have k0:But p H (upd H p (.lst [.int (k:Int)])):=fun b o n e=>by rw[zaj n];exact e
 have ntp:t≠p:=zad ht hp;refine ⟨_,rfl,_,_,rfl,rfl,_,rfl,_,_,rfl,.inr (SqT.of (k0 _ _ ntp ht)),_,_,rfl,⟨by omega,by omega,by omega,by rw[zat];omega⟩,?_⟩;have en:((((zbT ps).length:Nat):Int) - ((k:Int)+1)).toNat=ps.length - k:=by rw[zat];omega
 rw[en];refine zbv (n:=ps.length - k) (fun i σ H3=>∃ x3:Option V,σ=[some (.ref t),some (.int k),some (.ref p),x3]∧H3 p=some (.lst ((benL ps k (k+1+i)).map nV))∧But p H H3) ?_ ?_ ?_
 ·refine ⟨_,rfl,?_,k0⟩;rw[zac,ybr,zoN hT];rfl
 ·rintro i σ H3 hi ⟨x3,rfl,h3,k3⟩;have ek:(k:Int)+1+(i:Int)=((k+1+i:Nat):Int):=by omega
  rw[ek];have hj:k+1+i < ps.length+1:=by omega
  have hj1:1≤k+1+i:=by omega
  have hjk:k+1+i≠k:=by omega
  have ei:k+1+(i+1)=k+1+i+1:=by omega
  rw[ei];generalize k+1+i=j at h3 hj hj1 hjk ⊢;obtain ⟨u,hu⟩:=zho hj1 hj;have h3t:=k3 _ _ ntp ht;have hat:=zgp hj;rw[zex hu]at hat;have hlen:=zkn ps k j;refine ⟨_,rfl,_,rfl,_,_,_,_,rfl,rfl,SqT.of h3t,hat,_,rfl,_,_,rfl,.inl (SqL.of h3),rfl,zmW _,_,rfl,?_⟩;show if inV (.int (u:Int)) ((benL ps k j).map nV)=true then _ else _
  rw[zpr];have hB:isB ps k j=isB ps k u:=zbW hT hjk hu;have hult:=(zaU hT hu).1;refine ite2 (fun c=>?_) (fun c=>?_)
  ·have c':isB ps k u=true:=(zce.mp (yaK c)).2;refine ⟨_,rfl,.inl ⟨rfl,_,SqL.of h3⟩,_,rfl,_,_,_,rfl,rfl,h3,zau (by rw[yab];omega),?_⟩;refine ⟨_,rfl,?_,fun b o n e=>by rw[zaj n];exact k3 b o n e⟩;rw[zac,ziD,hB,if_pos c',yaw];rfl
  ·have c':¬ isB ps k u=true:=fun z=>c (yaj (zce.mpr ⟨hult,z⟩));refine ⟨_,rfl,?_,k3⟩;rw[h3,ziD,hB,if_neg c',yay]
 ·rintro σ H3 ⟨x3,rfl,h3,k3⟩;refine ⟨_,rfl,?_⟩;rw[show k+1+(ps.length - k)=ps.length+1 by omega]at h3;exact q p H3 hp (fun b o e=>k3 b o (zad e hp) e) h3
def zcG (es:List (Int×Int)):List (Int×Int):=zcP es (zeC es)
def zal (rows:List (List Int))(k:Nat):List Int:=rows.getD k []
def ownE (rows:List (List Int))(k:Nat):List (Int×Int):=(zal rows k).map fun x=>(x,(k:Int))
def zkZ (ps:List Nat)(rows:List (List Int)):Nat→Nat→List (Int×Int)
 | 0,_=>[]
 | f+1,k=>zcY (((zb6 ps k (ps.length+1)).map fun c=>zcG (zkZ ps rows f c)).flatten++ownE rows k)
theorem zgO {ps:List Nat}(T:zaD ps){rows:List (List Int)}:∀ f g k,k < ps.length+1→ps.length+1 - k≤f→ps.length+1 - k≤g→zkZ ps rows f k=zkZ ps rows g k
 | 0,_,k,hk,h,_=>by omega
 | _,0,k,hk,_,h=>by omega
 | f+1,g+1,k,hk,hf,hg=>by
  unfold zkZ;congr 3;refine yco fun c hc=>?_;have h:=zaI.mp hc;have:=zaU T h.2;show zcG _=zcG _;rw[zgO T f g c h.1 (by omega) (by omega)]
def zao (ps:List Nat)(rows:List (List Int))(k:Nat):List (Int×Int):=zkZ ps rows (ps.length+1 - k) k
def zdo (ps:List Nat)(rows:List (List Int))(k:Nat):List (List (Int×Int)):=((zb6 ps k (ps.length+1)).map fun c=>zcG (zao ps rows c))++[ownE rows k]
theorem zbX {ps:List Nat}(T:zaD ps){rows:List (List Int)}{k:Nat}(hk:k < ps.length+1):zao ps rows k=zcY (zdo ps rows k).flatten:=by
 unfold zao zdo;obtain ⟨f,hf⟩:∃ f,ps.length+1 - k=f+1:=⟨ps.length - k,by omega⟩;rw[hf,zkZ,ycq,List.flatten_singleton];congr 3;refine yco fun c hc=>?_;have h:=zaI.mp hc;have:=zaU T h.2;show zcG _=zcG _;rw[zgO T f (ps.length+1 - c) c h.1 (by omega) (by omega)];rfl
structure zaJ (rows:List (List Int)):Prop where
 up:∀ row∈rows,row.Pairwise (· < ·)
 key:∀ row∈rows,∀ x∈row,-(10 ^ 60) < x∧x < 10 ^ 60
theorem zaJ.at_up {rows:List (List Int)}(R:zaJ rows)(k:Nat):(zal rows k).Pairwise (· < ·):=by
 unfold zal;rw[yag];cases e:rows[k]? with
 | none=>exact .nil
 | some row=>exact R.up row (yaJ e)
theorem zaJ.at_key {rows:List (List Int)}(R:zaJ rows)(k:Nat):∀ x∈zal rows k,-(10 ^ 60) < x∧x < 10 ^ 60:=by
 unfold zal;rw[yag];cases e:rows[k]? with
 | none=>exact fun x hx=>nomatch hx
 | some row=>exact R.key row (yaJ e)
theorem zim {α:Type}:∀(es:List α) (ms:List Bool),(zcP es ms).Sublist es
 | [],_=>by
  unfold zcP;exact List.Sublist.refl _
 | e::es,[]=>by
  unfold zcP;exact List.nil_sublist _
 | e::es,m::ms=>by
  have ih:=zim es ms;unfold zcP at ih ⊢;cases m with
  | false=>exact List.Sublist.cons e ih
  | true=>exact List.Sublist.cons₂ e ih
theorem za0 (es:List (Int×Int)):(zcG es).Sublist es:=zim _ _
def Of (ps:List Nat)(rows:List (List Int))(k:Nat)(e:Int×Int):Prop:=∃ j,j < ps.length+1∧isB ps k j=true∧e.2=(j:Int)∧e.1∈zal rows j
theorem zj1 {ps:List Nat}{rows:List (List Int)}{k:Nat}(hk:k < ps.length+1){e:Int×Int}(h:e∈ownE rows k):Of ps rows k e∧e.2=(k:Int):=by
 obtain ⟨x,hx,rfl⟩:=yax.mp h;exact ⟨⟨k,hk,zcd,rfl,hx⟩,rfl⟩
theorem zl2 {rows:List (List Int)}(R:zaJ rows)(k:Nat):(ownE rows k).Nodup:=by
 unfold ownE;rw[List.nodup_iff_pairwise_ne,ybu];exact List.Pairwise.imp (fun {a b} (h:a < b) z=>by
  have:=congrArg Prod.fst z;have:a=b:=this;omega) (R.at_up k)
theorem zfM {ps:List Nat}(T:zaD ps){rows:List (List Int)}(R:zaJ rows):∀(m k:Nat),ps.length+1 - k≤m→k < ps.length+1→(∀ e∈zao ps rows k,Of ps rows k e)∧(zdo ps rows k).flatten.Nodup
 | 0,k,hm,hk=>by omega
 | m+1,k,hm,hk=>by
  have ih:∀ c,par ps c=some k→(∀ e∈zao ps rows c,Of ps rows c e)∧(zao ps rows c).Nodup:=fun c hc=>by
   have:=zaU T hc;have q:=zfM T R m c (by omega) this.2;refine ⟨q.1,?_⟩;rw[zbX T this.2];exact (zcf _).nodup_iff.mpr q.2
  have up:∀{c:Nat} {e:Int×Int},par ps c=some k→Of ps rows c e→Of ps rows k e:=fun {c e} hc h=>by
   obtain ⟨j,h1,h2,h3,h4⟩:=h;exact ⟨j,h1,(zb3 T j j (yaa _) h1).mpr (.inr ⟨c,hc,h2⟩),h3,h4⟩
  refine ⟨fun e he=>?_,?_⟩
  ·rw[zbX T hk,zee]at he;obtain ⟨l,hl,he⟩:=ycn.mp he;rcases yak.mp hl with q | q
   ·obtain ⟨c,hc,rfl⟩:=yax.mp q;have hp:=(zaI.mp hc).2;exact up hp ((ih c hp).1 e ((za0 _).mem he))
   ·rw[yal.mp q]at he;exact (zj1 hk he).1
  ·show List.Pairwise _ _;unfold zdo;rw[List.pairwise_flatten];refine ⟨fun l hl=>?_,?_⟩
   ·rcases yak.mp hl with q | q
    ·obtain ⟨c,hc,rfl⟩:=yax.mp q;exact (ih c (zaI.mp hc).2).2.sublist (za0 _)
    ·rw[yal.mp q];exact zl2 R k
   ·rw[yaF];refine ⟨?_,ycB _ _,?_⟩
    ·rw[ybu];refine List.Pairwise.imp_of_mem (fun {c d} hc hd hcd=>?_) (zix ps k _);intro x hx y hy z;subst z;have pc:=(zaI.mp hc).2;have pd:=(zaI.mp hd).2;obtain ⟨j,_,h2,h3,_⟩:=(ih c pc).1 x ((za0 _).mem hx);obtain ⟨i,_,g2,g3,_⟩:=(ih d pd).1 x ((za0 _).mem hy);have:j=i:=by omega
     subst this;exact zdr T pc pd (yam hcd) j j (yaa _) h2 g2
    ·intro l hl l' hl' x hx y hy z;subst z;obtain ⟨c,hc,rfl⟩:=yax.mp hl;rw[yal.mp hl']at hy;have pc:=(zaI.mp hc).2;obtain ⟨j,_,h2,h3,_⟩:=(ih c pc).1 x ((za0 _).mem hx);have h4:=(zj1 hk hy).2;have:j=k:=by omega
     subst this;rw[zd0 T (zaU T pc).1]at h2;cases h2
theorem zfN {ps:List Nat}(T:zaD ps){rows:List (List Int)}(R:zaJ rows){k:Nat}(hk:k < ps.length+1):∀ e∈zao ps rows k,Of ps rows k e:=(zfM T R _ k (yaa _) hk).1
theorem zd9 {ps:List Nat}(T:zaD ps){rows:List (List Int)}(R:zaJ rows){k:Nat}(hk:k < ps.length+1):(zao ps rows k).Nodup:=by
 rw[zbX T hk];exact (zcf _).nodup_iff.mpr (zfM T R _ k (yaa _) hk).2
theorem zaO {ps:List Nat}(T:zaD ps){rows:List (List Int)}(R:zaJ rows){k:Nat}(hk:k < ps.length+1):Rise (zao ps rows k):=by
 rw[zbX T hk];exact zeP (zfM T R _ k (yaa _) hk).2
theorem zge {ps:List Nat}(T:zaD ps){rows:List (List Int)}(R:zaJ rows)(hz:ps.length≤40){k:Nat}(hk:k < ps.length+1):∀ e∈zao ps rows k,zfn 64 e:=fun e he=>by
 obtain ⟨j,h1,h2,h3,h4⟩:=zfN T R hk e he;have:=R.at_key j _ h4;exact ⟨this.1,this.2,by omega,by omega⟩
def wtR (ps:List Nat)(rows:List (List Int))(k:Nat):Nat:=((benL ps k (ps.length+1)).map fun j=>(zal rows j).length).sum
theorem znz {l m:List Nat}(h:l.Perm m):l.sum=m.sum:=by
 induction h with
 | nil=>rfl
 | cons x _ ih=>rw[yaG,yaG,ih]
 | swap x y l=>rw[yaG,yaG,yaG,yaG];omega
 | trans _ _ h1 h2=>rw[h1,h2]
theorem zjF (f:Nat→Nat):∀(ls:List (List Nat)),(ls.flatten.map f).sum=(ls.map fun l=>(l.map f).sum).sum
 | []=>rfl
 | l::ls=>by
  rw[ybJ,yaw,List.sum_append,zjF f ls,yan,yaG]
theorem zle {ps:List Nat}(T:zaD ps)(f:Nat→Nat){k:Nat}(hk:k < ps.length+1):((benL ps k (ps.length+1)).map f).sum=f k+((zb6 ps k (ps.length+1)).map fun c=>((benL ps c (ps.length+1)).map f).sum).sum:=by
 have h:=znz ((zkF T hk).map f);rw[yan,yaG,zjF,ybl]at h;exact h.symm
theorem zo1 {f g:Nat→Nat}:∀{l:List Nat},(∀ x∈l,f x≤g x)→(l.map f).sum≤(l.map g).sum
 | [],_=>yaa _
 | x::l,h=>by
  rw[yan,yaG,yan,yaG];have h1:=h x yaA;have h2:=zo1 (f:=f) (g:=g) (l:=l) fun y hy=>h y (yau _ hy);omega
theorem zj8 {α:Type}:∀(ls:List (List α)),ls.flatten.length=(ls.map List.length).sum
 | []=>rfl
 | l::ls=>by
  rw[ybJ,yas,zj8 ls,yan,yaG]
theorem zmU {ps:List Nat}(T:zaD ps){rows:List (List Int)}{k:Nat}(hk:k < ps.length+1):(zao ps rows k).length=(zal rows k).length+((zb6 ps k (ps.length+1)).map fun c=>(zcG (zao ps rows c)).length).sum:=by
 rw[zbX T hk,zdl];unfold zdo;rw[ycq,yas,List.flatten_singleton,zj8,ybl];unfold ownE;rw[yab,Nat.add_comm];rfl
theorem zgN {ps:List Nat}(T:zaD ps){rows:List (List Int)}:∀(m k:Nat),ps.length+1 - k≤m→k < ps.length+1→(zao ps rows k).length≤wtR ps rows k
 | 0,k,hm,hk=>by omega
 | m+1,k,hm,hk=>by
  unfold wtR;rw[zmU T hk,zle T _ hk];refine yct (zo1 fun c hc=>?_) _;have h:=zaI.mp hc;have:=zaU T h.2;exact yaB (za0 _).length_le (zgN T m c (by omega) h.1)
theorem zgE (f:Nat→Nat)(P:Nat→Bool):∀(l:List Nat),((l.filter P).map f).sum≤(l.map f).sum
 | []=>yaa _
 | x::l=>by
  have ih:=zgE f P l;rw[yan,yaG];by_cases h:P x=true
  ·rw[ybw h,yan,yaG];omega
  ·rw[ybW h];omega
def zbP (rows:List (List Int)):Nat:=(rows.map List.length).sum
theorem zly (rows:List (List Int)):((List.range rows.length).map fun j=>(zal rows j).length).sum=zbP rows:=by
 unfold zbP;congr 1;apply ya7;intro i;rw[yaq,yaq];by_cases h:i < rows.length
 ·rw[ycj h,yac h];show some (zal rows i).length=some rows[i].length;unfold zal;rw[yag,yac h];rfl
 ·rw[yaY (by rw[ya4];omega),yaY (by omega)];rfl
theorem zoT {ps:List Nat}{rows:List (List Int)}(hl:rows.length=ps.length+1)(k:Nat):wtR ps rows k≤zbP rows:=by
 unfold wtR benL;refine yaB (zgE _ _ _) ?_;rw[← hl,zly];exact yaa _
theorem zhG {ps:List Nat}(T:zaD ps){rows:List (List Int)}(hl:rows.length=ps.length+1){k:Nat}(hk:k < ps.length+1):(zao ps rows k).length≤zbP rows:=yaB (zgN T _ k (yaa _) hk) (zoT hl k)
def zaN (H:Hp)(as:List Addr)(rows:List (List Int)):Prop:=Paired (fun a row=>H a=some (.tup (row.map V.int))) as rows
theorem zaN.ext {H H':Hp}(e:∀ b o,H b=some o→H' b=some o){as:List Addr}{rows:List (List Int)}(h:zaN H as rows):zaN H' as rows:=pImp (fun _ _=>e _ _) h
theorem zaN.keep {d p:Addr}{H H':Hp}(hd:∀ a row,H a=some (.tup row)→a≠d)(e:∀ b o,b≠d→H b=some o→H' b=some o){as:List Addr}{rows:List (List Int)}(h:zaN H as rows):zaN H' as rows:=pImp (fun _ _ h=>e _ _ (hd _ _ h) h) h
theorem zaN.length {H:Hp}{as:List Addr}{rows:List (List Int)}(h:zaN H as rows):as.length=rows.length:=Paired.length h
theorem zaN.get {H:Hp}:∀{as:List Addr} {rows:List (List Int)} {k:Nat},zaN H as rows→k < rows.length→∃ a,as[k]?=some a∧H a=some (.tup ((zal rows k).map V.int))
 | _,_,_,.nil,hk=>by simp at hk
 | a::as,row::rows,0,.cons h t,_=>⟨a,rfl,h⟩
 | a::as,row::rows,k+1,.cons h t,hk=>by
  obtain ⟨b,h1,h2⟩:=zaN.get (k:=k) t (by simpa using hk);refine ⟨b,by rw[ycf];exact h1,?_⟩;have:zal (row::rows) (k+1)=zal rows k:=by
   unfold zal;rw[yag,yag,ycf]
  rw[this];exact h2
theorem zaN.snoc {H:Hp}{a:Addr}{row:List Int}{as:List Addr}{rows:List (List Int)}(h:zaN H as rows)(g:H a=some (.tup (row.map V.int))):zaN H (as++[a]) (rows++[row]):=pApp h (.cons g .nil)
structure zbF (H:Hp)(st:Addr)(ps:List Nat)(rows:List (List Int))(t rs:Addr)(as:List Addr):Prop where
 st:H st=some (.tup [.ref t,.ref rs])
 tr:H t=some (.tup (zbT ps))
 rs:H rs=some (.tup (as.map V.ref))
 at_:zaN H as rows
 len:rows.length=ps.length+1
 T:zaD ps
 R:zaJ rows
 few:ps.length≤40
 keys:zbP rows≤400
theorem zbF.same {H H':Hp}{st t rs:Addr}{ps:List Nat}{rows:List (List Int)}{as:List Addr}(S:zbF H st ps rows t rs as)(e:Same H H'):zbF H' st ps rows t rs as:=
 ⟨e _ _ S.st,e _ _ S.tr,e _ _ S.rs,S.at_.ext e,S.len,S.T,S.R,S.few,S.keys⟩
theorem zfg {as:List Addr}{k:Nat}{a:Addr}(h:as[k]?=some a):atI (as.map V.ref) (k:Int)=some (.ref a):=zdw (by rw[yaq,h];rfl)
theorem zig {α:Type}{l:List α}(h:l.Nodup):l.reverse.Nodup:=(List.reverse_perm l).nodup_iff.mpr h
def zgu (K:Frag)(H:Hp)(ps:List Nat)(rows:List (List Int))(j:Nat)(q:Addr):Prop:=∃ ws,H q=some (.lst ws)∧zan K H (zao ps rows j) ws
def zaG (K:Frag)(H:Hp)(ps:List Nat)(rows:List (List Int)):List Nat→List Addr→Prop:=Paired (zgu K H ps rows)
theorem zgu.same {K:Frag}{H H':Hp}{ps:List Nat}{rows:List (List Int)}{j:Nat}{q:Addr}(h:zgu K H ps rows j q)(e:Same H H'):zgu K H' ps rows j q:=by
 obtain ⟨ws,h1,h2⟩:=h;exact ⟨ws,e _ _ h1,h2.mono e.ext⟩
theorem zaG.same {K:Frag}{H H':Hp}{ps:List Nat}{rows:List (List Int)}(e:Same H H'){js:List Nat}{qs:List Addr}(h:zaG K H ps rows js qs):zaG K H' ps rows js qs:=pImp (fun _ _ h=>zgu.same h e) h
theorem zaG.ext {K:Frag}{H H':Hp}{ps:List Nat}{rows:List (List Int)}(e:Ext H H'){js:List Nat}{qs:List Addr}(h:zaG K H ps rows js qs):zaG K H' ps rows js qs:=pImp (fun _ _ h=>by
  obtain ⟨ws,a1,a2⟩:=h;exact ⟨ws,e _ _ a1 (fun _ z=>nomatch z),a2.mono e⟩) h
theorem zaG.length {K:Frag}{H:Hp}{ps:List Nat}{rows:List (List Int)}{js:List Nat}{qs:List Addr}(h:zaG K H ps rows js qs):js.length=qs.length:=Paired.length h
theorem zaG.snoc {K:Frag}{H:Hp}{ps:List Nat}{rows:List (List Int)}{j:Nat}{q:Addr}{js:List Nat}{qs:List Addr}(h:zaG K H ps rows js qs)(g:zgu K H ps rows j q):zaG K H ps rows (js++[j]) (qs++[q]):=pApp h (.cons g .nil)
theorem zaG.get {K:Frag}{H:Hp}{ps:List Nat}{rows:List (List Int)}:∀{js:List Nat} {qs:List Addr} {i j:Nat},zaG K H ps rows js qs→js[i]?=some j→∃ q,qs[i]?=some q∧zgu K H ps rows j q
 | _,_,i,j,.nil,h=>by simp at h
 | _::_,q::_,0,j,.cons h t,e=>by
  have:=yad (show some _=some j from e);subst this;exact ⟨q,rfl,h⟩
 | _::_,_::_,i+1,j,.cons h t,e=>by
  obtain ⟨q,h1,h2⟩:=zaG.get (i:=i) t (by simpa using e);exact ⟨q,by simpa using h1,h2⟩
theorem zaG.rev {K:Frag}{H:Hp}{ps:List Nat}{rows:List (List Int)}{js:List Nat}{qs:List Addr}(h:zaG K H ps rows js qs):zaG K H ps rows js.reverse qs.reverse:=by
 unfold zaG at h
 induction h with
 | nil=>exact .nil
 | cons h _ ih=>
  rw[yck,yck];exact zaG.snoc ih h
theorem zaG.alloc {K:Frag}{H:Hp}{ps:List Nat}{rows:List (List Int)}:∀{js:List Nat} {qs:List Addr},zaG K H ps rows js qs→∀ q∈qs,∃ ws,H q=some (.lst ws)
 | _,_,.nil=>fun q hq=>nomatch hq
 | _::_,_::_,.cons h t=>fun q hq=>by
  rcases yah.mp hq with e | e
  ·obtain ⟨ws,h1,_⟩:=h;exact ⟨ws,e ▸ h1⟩
  ·exact zaG.alloc t q e
abbrev kN (j:Nat):Key:=Sum.inl (j:Int)
def zdq:List Nat→List Addr→List (Key×V)
 | j::js,q::qs=>(kN j,.ref q)::zdq js qs
 | _,_=>[]
theorem zkb {j:Nat}:∀{js:List Nat} {qs:List Addr},j∉js→valV (zdq js qs) (kN j)=none
 | [],_,_=>rfl
 | _::_,[],_=>rfl
 | i::js,q::qs,h=>by
  have h1:¬ kN i=kN j:=fun z=>h (by
   have:=Int.ofNat.inj (Sum.inl.inj z);rw[this];exact yaA)
  show valV ((kN i,V.ref q)::zdq js qs) (kN j)=none;rw[zbw h1];exact zkb fun z=>h (yau _ z)
theorem zi5 {j:Nat}{q:Addr}:∀{js:List Nat} {qs:List Addr} {i:Nat},js.Nodup→js[i]?=some j→qs[i]?=some q→valV (zdq js qs) (kN j)=some (.ref q)
 | [],_,_,_,h,_=>by simp at h
 | _::_,[],_,_,_,h=>by simp at h
 | a::js,b::qs,0,_,h1,h2=>by
  have:=yad (show some a=some j from h1);subst this;have:=yad (show some b=some q from h2);subst this;exact zcs (p:=(kN a,V.ref b)) rfl
 | a::js,b::qs,i+1,hn,h1,h2=>by
  have g1:js[i]?=some j:=by simpa using h1
  have hne:¬ kN a=kN j:=fun z=>by
   have e:=Int.ofNat.inj (Sum.inl.inj z);exact (yaS.mp hn).1 (e ▸ yaJ g1)
  show valV ((kN a,V.ref b)::zdq js qs) (kN j)=_;rw[zbw hne];exact zi5 (yaS.mp hn).2 g1 (by simpa using h2)
theorem zka {j:Nat}{q:Addr}:∀{js:List Nat} {qs:List Addr},js.length=qs.length→zdq (js++[j]) (qs++[q])=zdq js qs++[(kN j,.ref q)]
 | [],[],_=>rfl
 | [],_::_,h=>by cases h
 | _::_,[],h=>by cases h
 | a::js,b::qs,h=>by
  show (kN a,V.ref b)::zdq (js++[j]) (qs++[q])=(kN a,V.ref b)::(zdq js qs++[(kN j,V.ref q)]);rw[zka (Nat.succ.inj h)]
theorem zqj {j:Nat}{q:Addr}{js:List Nat}{qs:List Addr}(hl:js.length=qs.length)(h:j∉js):putK (zdq js qs) (kN j) (.ref q)=zdq (js++[j]) (qs++[q]):=by
 rw[zeo _ (zkb h),zka hl]
theorem zmA:∀{js:List Nat} {qs:List Addr},js.length=qs.length→(zdq js qs).length=js.length
 | [],[],_=>rfl
 | [],_::_,h=>by cases h
 | _::_,[],h=>by cases h
 | a::js,b::qs,h=>by
  show (zdq js qs).length+1=js.length+1;rw[zmA (Nat.succ.inj h)]
theorem zoR {l:List Nat}(h:l.Pairwise (· > ·)){i j c:Nat}(hj:l[i]?=some j)(hc:c∈l)(hcj:j < c):c∈l.take i:=by
 obtain ⟨u,hu,rfl⟩:=ya1 hc;obtain ⟨hi,rfl⟩:=yap.mp hj;have:u < i:=by
  refine Nat.lt_of_not_le fun z=>?_;by_cases e:i=u
  ·subst e;omega
  ·have:=ybe.mp h i u hi hu (by omega);omega
 rw[List.mem_iff_getElem?];exact ⟨u,by rw[ybR,if_pos this,yac hu]⟩
theorem zop {ps:List Nat}(T:zaD ps){k j c:Nat}(h:isB ps k j=true)(hc:par ps c=some j):isB ps k c=true:=by
 by_cases e:c=k
 ·rw[e];exact zcd
 ·rw[zbW T e hc];exact h
def zq9 (K:Frag):Sp:=fun vs H Q _=>∃(st:Addr) (ps:List Nat) (rows:List (List Int)) (t rs:Addr) (as:List Addr) (j:Nat),vs=[.ref st,.int j]∧zbF H st ps rows t rs as∧j < ps.length+1∧
 ∀(D:Addr) (us:List V) (H':Hp),H D=none→Same H H'→H' D=some (.lst us)→zan K H' (ownE rows j) us→Q (.ref D) H'
theorem zrA (T:Txt K mg)(qa0:DF K mg "own_entries" zb9 zbV):FC P w K mg base 1 "own_entries" zbV (zq9 K):=by
 refine qa0.ok qdf (fun vs H Q E h=>?_) (fun f cdv A outer s H vs Q E hr h=>?_)
 ·obtain ⟨st,ps,rows,t,rs,as,k,rfl,_⟩:=h;rfl
 obtain ⟨st,ps,rows,t,rs,as,j,rfl,S4,hjn,q⟩:=h;refine ⟨_,(zae (zas (zb5 (N:=["key","knot"]) (own:=1) (cap:=[1]) rfl (zf0 (zaK zaM (zaK zaM (pv 0) zag (fun _ _=>rfl)) (pv 1) (fun _ _=>rfl))) ⟨rfl,rfl,rfl,rfl,rfl,rfl⟩ (fun _ _ _ _ _=>(zay (i:=0) (show List.Nodup (["key","knot"]:List Str) by decide +kernel) rfl (Or.inl rfl))) (fun _ _ _ _ _=>zc2) (fun _ _ _ _ _=>(zaQ (zaa (pv 0) (zaa (pv 1) zab))))))),?_⟩;obtain ⟨a,ha1,ha4⟩:=S4.at_.get (k:=j) (by rw[S4.len];exact hjn);have hkeys:=S4.keys;refine ⟨_,rfl,_,_,_,_,rfl,rfl,SqT.of S4.st,rfl,_,rfl,_,_,_,_,rfl,rfl,SqT.of S4.rs,zfg ha1,a,rfl,⟨_,SqT.of ha4⟩,fun D3 hD3=>?_⟩;refine zeI (xs:=(zal rows j).map V.int) (fun m σ H5=>∃(us:List V) (x0:Option V),σ=[x0,some (.int j)]∧H5 D3=some (.lst us)∧zan K H5 ((ownE rows j).take m) us∧But D3 H H5) ?_ ?_ ?_ ?_
 ·exact ⟨[],_,rfl,zac,.nil,fun b o n e=>by rw[zaj n];exact e⟩
 ·rintro m σ H5 _ ⟨us,x0,rfl,_,_,k5⟩;exact SqT.of (k5 _ _ (zad ha4 hD3) ha4)
 ·rintro m r x σ H5 hx hm ⟨us,x0,rfl,h5,hw5,k5⟩;rw[yaq]at hx;obtain ⟨y,hy,rfl⟩:=ybA.mp hx;have hlow:=(yap.mp hy).1;have htk3:(ownE rows j).take (m+1)=(ownE rows j).take m++[(y,(j:Int))]:=by
   unfold ownE;rw[← ycr,← ycr,yaU hlow,yaw];rw[(yap.mp hy).2];rfl
  have hul:=hw5.length;rw[yao]at hul;rw[yab]at hm;have hrl:(zal rows j).length≤zbP rows:=by
   have:=zoT S4.len (k:=j) (ps:=ps);have e2:wtR ps rows j=(zal rows j).length+_:=zle S4.T _ hjn;omega
  refine zdZ ?_;refine ⟨_,rfl,_,rfl,(by show 2≤sizeLine;decide),fun u hu=>?_⟩;have su:=zaf hu (.tup [.int y,.int (j:Int)]);have h6:=su _ _ h5;have hut:upd H5 u (.tup [.int y,.int (j:Int)]) u=some (.tup [.int y,.int (j:Int)]):=zac;have k6:=k5.new' hu (.tup [.int y,.int (j:Int)]);have hw6:=hw5.mono su.ext;generalize upd H5 u (.tup [.int y,.int (j:Int)])=H6 at su h6 hut k6 hw6 ⊢;refine ⟨_,h6,zau (by omega),r - 1,by omega,by rw[yab];omega,us++[.ref u],_,rfl,zac,?_,fun b o n e=>by rw[zaj n];exact k6 b o n e⟩;rw[htk3];exact (zbN h6 hw6).append (zbN h6 (.cons ⟨u,.int y,.int (j:Int),rfl,hut,rfl,rfl⟩ .nil))
 ·rintro σ H5 ⟨us,x0,rfl,h5,hw5,k5⟩;rw[yab,yav (by unfold ownE;rw[yab];exact yaa _)]at hw5;exact q D3 us H5 hD3 (fun x o e=>k5 x o (zad e hD3) e) h5 hw5
def zrd (K:Frag):Sp:=fun vs H Q _=>∃(st:Addr) (ps:List Nat) (rows:List (List Int)) (t rs:Addr) (as:List Addr) (k:Nat),vs=[.ref st,.int k]∧zbF H st ps rows t rs as∧k < ps.length+1∧
 ∀(D:Addr) (qs:List Addr) (H':Hp),H D=none→Same H H'→H' D=some (.dK (zdq (benL ps k (ps.length+1)).reverse qs))→qs.Nodup→(∀ q∈qs,H q=none)→zaG K H' ps rows (benL ps k (ps.length+1)).reverse qs→Q (.ref D) H'
theorem zrG (T:Txt K mg)(qaA:DF K mg "full_rows_beneath" za8 za6)(qfu:FC P w K mg base 1 "beneath" zdM (zh6 K))(qeP:FC P w K mg base 1 "children" zc6 (zgF K))(qcu:FC P w K mg base 6 "handed" zdn (zg7 K))(qdY:FC P w K mg base 1 "own_entries" zbV (zq9 K))(qbj:FC P w K mg base 1 "joined_up" zb0 (zlG K)):FC P w K mg base 7 "full_rows_beneath" za6 (zrd K):=by
 refine qaA.ok qar (fun vs H Q E h=>?_) (fun f cdv A outer s H vs Q E hr h=>?_)
 ·obtain ⟨st,ps,rows,t,rs,as,k,rfl,_⟩:=h;rfl
 obtain ⟨st,ps,rows,t,rs,as,k,rfl,S,hk,q⟩:=h;refine ⟨_,(zai (zaq (i:=2) qar.nd rfl (Or.inl rfl) (zaK zaM (pv 0) zag (fun _ _=>rfl)))
   (zai (zaq (i:=3) qar.nd rfl (Or.inr rfl) zfG)
   (zai (zb1 PassesOwn.never rfl (ziU rfl T.qeO (zaa (zaw qfu hr (zaa (pv 2) (zaa (pv 1) zab))) zab)) (zay (i:=4) qar.nd rfl (Or.inl rfl)) (zai (ziT (i:=5) (N:=["child","told"]) (own:=1) (cap:=[3]) qar.nd rfl rfl rfl (zd6 (zaw qeP hr (zaa (pv 2) (zaa (pv 4) zab)))) ⟨rfl,rfl,rfl,rfl,rfl,rfl⟩ (fun _ _ _ _ _=>(zay (i:=0) (show List.Nodup (["child","told"]:List Str) by decide +kernel) rfl (Or.inl rfl))) (fun _ _ _ _ _=>zc2) (fun _ _ _ _ _=>(zaw qcu hr (zaa (zd7 (zeF hr) (pv 1) (pv 0) (fun _ _=>rfl)) zab))))
   (zai (zbp (zgz F.plainAttrs_list F.slot_list_append F.type_list_append zbO (pv 5) (zaa (zaw qdY hr (zaa (pv 0) (zaa (pv 4) zab))) zab)))
   (zae (zeS (zeF hr) (pv 3) (pv 4) (zaw qbj hr (zaa (pv 5) zab)) rfl)))))
   (zae (zas (pv 3)))))),?_⟩
 refine ⟨_,rfl,_,_,_,_,rfl,rfl,SqT.of S.st,rfl,fun D hD=>?_⟩;have s0:=zaf hD (.dK []);have hD0:upd H D (.dK []) D=some (.dK []):=zac;generalize upd H D (.dK [])=H0 at s0 hD0 ⊢;refine ⟨_,rfl,_,rfl,t,ps,k,rfl,s0 _ _ S.tr,S.T,hk,by have:=S.few;omega,fun b H1 hb s1 h1=>?_⟩;refine ⟨b,_,rfl,SqL.of h1,?_⟩;have hup:=zjp ps k (ps.length+1);have hmem:=fun j=>zce (ps:=ps) (k:=k) (n:=ps.length+1) (j:=j);have hbl:=zkn ps k (ps.length+1);generalize benL ps k (ps.length+1)=bs at h1 q hup hmem hbl ⊢;have hdn:bs.reverse.Pairwise (· > ·):=by
  rw[List.pairwise_reverse];exact hup
 have hnd:bs.reverse.Nodup:=List.Pairwise.imp (fun {a b} (q:a > b)=>ybi q) hdn;refine zqx (xs:=bs.map nV) (fun i σ H2=>∃(qs:List Addr) (x5 x6:Option V),σ=[some (.ref st),some (.int k),some (.ref t),some (.ref D),x5,x6]∧H2 D=some (.dK (zdq (bs.reverse.take i) qs))∧qs.Nodup∧(∀ q∈qs,H q=none)∧zaG K H2 ps rows (bs.reverse.take i) qs∧H2 b=some (.lst (bs.map nV))∧But D H H2) ?_ ?_ ?_ ?_
 ·exact ⟨[],_,_,rfl,s1 _ _ hD0,ybd,(fun q hq=>nomatch hq),.nil,h1,fun x o _ e=>s1 _ _ (s0 _ _ e)⟩
 ·rintro i σ H2 _ ⟨qs,x5,x6,rfl,_,_,_,_,h2b,_⟩;exact SqL.of h2b
 ·rintro i x σ H2 hx ⟨qs,x5,x6,rfl,h2,hqn,hqf,hF,h2b,k2⟩;rw[← List.map_reverse]at hx;obtain ⟨hi,hxe⟩:=zmR hx;have hji:bs.reverse[i]?=some (bs.reverse.getD i 0):=by
   rw[yag,yac hi];rfl
  subst hxe;have htk:bs.reverse.take (i+1)=bs.reverse.take i++[bs.reverse.getD i 0]:=by
   rw[yaU hi,yag,yac hi];rfl
  rw[htk];generalize bs.reverse.getD i 0=j at hji htk ⊢;have hjm:j∈bs:=ybU.mp (yaJ hji);obtain ⟨hjn,hjB⟩:=(hmem j).mp hjm;have hjnot:j∉bs.reverse.take i:=fun z=>by
   have hnd':=hnd;rw[← yaO (i+1) bs.reverse,htk]at hnd';have:=(ya8.mp hnd').1;exact (ya8.mp this).2.2 j z j (yal.mpr rfl) rfl
  have noD:∀{p:Addr} {o:HO},H p=some o→p≠D:=fun {p o} e=>zad e hD;have S2:zbF H2 st ps rows t rs as:=⟨k2 _ _ (noD S.st) S.st,k2 _ _ (noD S.tr) S.tr,k2 _ _ (noD S.rs) S.rs,zaN.keep (p:=D) (d:=D) (fun a row e=>noD e) k2 S.at_,S.len,S.T,S.R,S.few,S.keys⟩;have hkeys:=S.keys;have hfew:=S.few;refine ⟨_,rfl,_,rfl,t,ps,j,rfl,S2.tr,by omega,fun c H3 hc s3 h3=>?_⟩;refine ⟨c,rfl,⟨_,SqL.of h3⟩,fun D2 hD2=>?_⟩;have hcmem:=fun m=>zaI (ps:=ps) (k:=j) (n:=ps.length+1) (j:=m);have hcl:=zgS ps j (ps.length+1);have hparts:zdo ps rows j=((zb6 ps j (ps.length+1)).map fun c=>zcG (zao ps rows c))++[ownE rows j]:=rfl;generalize zb6 ps j (ps.length+1)=cs at h3 hcmem hcl hparts ⊢;have h3D:=s3 _ _ h2;have nDD2:D≠D2:=zad h3D hD2;have F3:zaG K H3 ps rows (bs.reverse.take i) qs:=hF.same s3;refine zcR (xs:=cs.map nV) (fun m σ H4=>∃(gs:List Addr) (x0:Option V),σ=[x0,some (.ref D)]∧H4 D2=some (.lst (gs.map V.ref))∧Own K H4 gs ((cs.take m).map fun c=>zcG (zao ps rows c))∧D2∉gs∧But D2 H3 H4) ?_ ?_ ?_ ?_
  ·exact ⟨[],_,rfl,zac,.nil,(fun z=>nomatch z),fun b o n e=>by rw[zaj n];exact e⟩
  ·rintro m σ H4 _ ⟨gs,x0,rfl,_,_,_,k4⟩;exact k4.sq (SqL.of h3) hD2
  ·rintro m r x σ H4 hx hm ⟨gs,x0,rfl,h4,hO,hg,k4⟩;obtain ⟨hmi,rfl⟩:=zmR hx;have hcm:cs[m]?=some (cs.getD m 0):=by
    rw[yag,yac hmi];rfl
   have htk2:cs.take (m+1)=cs.take m++[cs.getD m 0]:=by
    rw[yaU hmi,yag,yac hmi];rfl
   rw[htk2];generalize cs.getD m 0=ch at hcm ⊢;obtain ⟨hchn,hchp⟩:=(hcmem ch).mp (yaJ hcm);have hlt:=(zaU S.T hchp).1;have hin:ch∈bs.reverse.take i:=zoR hdn hji (ybU.mpr ((hmem ch).mpr ⟨hchn,zop S.T hjB hchp⟩)) hlt;obtain ⟨u,hu,hue⟩:=ya1 hin;have hu2:(bs.reverse.take i)[u]?=some ch:=by rw[yac hu,hue]
   obtain ⟨qq,hq1,ws,hq2,hq3⟩:=F3.get hu2;have hnd2:(bs.reverse.take i).Nodup:=hnd.sublist (List.take_sublist _ _);have hv:=zi5 hnd2 hu2 hq1;have k4D:=k4 _ _ nDD2 h3D;have hq4:=k4 _ _ (zad hq2 hD2) hq2;have hq5:zan K H4 (zao ps rows ch) ws:=by
    have key:∀{es:List (Int×Int)} {vs:List V},zan K H3 es vs→zan K H4 es vs:=by
     intro es vs hh
     induction hh with
     | nil=>exact .nil
     | cons a _ ih=>
      obtain ⟨b,x1,x2,rfl,q,e1,e2⟩:=(show hasP K H3 _ _ from a);exact .cons ⟨b,x1,x2,rfl,k4 _ _ (zad q hD2) q,e1,e2⟩ ih
    exact key hq3
   have hlen:=zhG S.T S.len (rows:=rows) hchn;refine zdZ ?_;have hdg:DGet H4 D (.int (ch:Int)) (some (.ref qq)):=by
    rw[← hv];exact DGet.k (k:=kN ch) k4D
   refine ⟨_,rfl,_,rfl,D,_,rfl,hdg,?_⟩;refine ⟨qq,ws,zao ps rows ch,rfl,hq4,hq5,by omega,zge S.T S.R hfew hchn,zaO S.T S.R hchn,fun g H5 hg5 s5 h5=>?_⟩;have hgl:=hO.length;rw[yab,yao]at hgl;have h5D2:=s5 _ _ h4;have ngD2:D2≠g:=zad h4 hg5;rw[yab]at hm;refine ⟨_,h5D2,zau (by rw[yab];omega),r - 1,by omega,by rw[yab];omega,gs++[g],_,rfl,?_,?_,?_,fun x o n e=>by rw[zaj n];exact s5 _ _ (k4 x o n e)⟩
   ·rw[zac,yaw];rfl
   ·rw[yaw];refine Own.other h5D2 (Own.append (hO.ext s5.ext) (.cons ⟨_,h5,?_⟩ .nil)) ?_
    ·exact zfK (hq5.mono s5.ext)
    ·intro z;rcases yak.mp z with z | z
     ·exact hg z
     ·exact ngD2 (yal.mp z)
   ·intro z;rcases yak.mp z with z | z
    ·exact hg z
    ·exact ngD2 (yal.mp z)
  ·rintro σ H4 ⟨gs,x0,rfl,h4,hO,hg,k4⟩;rw[yab,yav (yaa _)]at hO;have hgl:=hO.length;rw[yab]at hgl;have s34:Same H3 H4:=fun x o e=>k4 x o (zad e hD2) e;have s24:Same H2 H4:=s3.trans s34;have S4:=S2.same s24;refine ⟨_,rfl,.inl ⟨rfl,_,SqL.of h4⟩,_,rfl,_,rfl,st,ps,rows,t,rs,as,j,rfl,S4,hjn,fun D3 us H5 hD3 s45 h5 hw5=>?_⟩;have h5D2:=s45 _ _ h4;have n23:D2≠D3:=zad h4 hD3;refine ⟨_,_,_,rfl,rfl,h5D2,zau (by rw[yab];omega),?_⟩;have O5:Own K H5 (gs++[D3]) (zdo ps rows j):=by
    rw[hparts];exact Own.append (hO.ext s45.ext) (.cons ⟨us,h5,hw5⟩ .nil)
   have nin:D2∉gs++[D3]:=fun z=>by
    rcases yak.mp z with z | z
    ·exact hg z
    ·exact n23 (yal.mp z)
   have O6:=O5.other (o:=.lst (gs.map V.ref++[.ref D3])) h5D2 nin;have h6:upd H5 D2 (.lst (gs.map V.ref++[.ref D3])) D2=some (.lst ((gs++[D3]).map V.ref)):=by
    rw[zac,yaw];rfl
   have k26:∀ x o,H2 x=some o→upd H5 D2 (.lst (gs.map V.ref++[.ref D3])) x=some o:=fun x o e=>by
    rw[zaj (zad (s3 _ _ e) hD2)];exact s45 _ _ (s24 _ _ e)
   generalize upd H5 D2 (.lst (gs.map V.ref++[.ref D3]))=H6 at O6 h6 k26 ⊢;have hfl:(zdo ps rows j).flatten.length≤1000:=by
    have:=zhG S.T S.len (rows:=rows) hjn;rw[zbX S.T hjn,zdl]at this;omega
   refine ⟨_,rfl,D2,gs++[D3],zdo ps rows j,rfl,h6,O6,hfl,fun p ws H7 hp s7 h7 hw7=>?_⟩;rw[← zbX S.T hjn]at hw7;have s27:Same H2 H7:=fun x o e=>s7 _ _ (k26 x o e);have h7D:=s27 _ _ h2;have hql:=hF.length;have hpD:p≠D:=Ne.symm (zad (k26 _ _ h2) hp);refine ⟨_,rfl,_,rfl,D,_,rfl,DPut.k (k:=kN j) h7D (zau (by rw[zmA hql,yao,ybY];omega)),?_⟩;rw[zqj hql hjnot];have e78:Ext H7 (upd H7 D (.dK (zdq (bs.reverse.take i++[j]) (qs++[p])))):=fun x o e n=>by
    rw[zaj (fun z=>by
     rw[z,h7D]at e;cases e
     exact n _ rfl)]
    exact e
   have F8:zaG K (upd H7 D (.dK (zdq (bs.reverse.take i++[j]) (qs++[p])))) ps rows (bs.reverse.take i++[j]) (qs++[p]):=by
    exact zaG.ext e78 (zaG.snoc (hF.same s27) ⟨ws,h7,hw7⟩)
   refine ⟨qs++[p],_,_,rfl,zac,?_,?_,F8,?_,fun x o n e=>?_⟩
   ·rw[ya8];refine ⟨hqn,yaS.mpr ⟨(fun z=>nomatch z),ybd⟩,fun a ha b hb z=>?_⟩;rw[yal.mp hb]at z;subst z;obtain ⟨ws',hws⟩:=hF.alloc a ha;have:=k26 _ _ hws;rw[hp]at this;cases this
   ·intro x hx;rcases yak.mp hx with z | z
    ·exact hqf x z
    ·rw[yal.mp z];cases e:H p with
     | none=>rfl
     | some o=>
      have:=k26 _ _ (k2 p o hpD e);rw[hp]at this;cases this
   ·rw[zaj (fun z=>by rw[z,h2]at h2b;cases h2b)]
    exact s27 _ _ h2b
   ·rw[zaj n];exact s27 _ _ (k2 x o n e)
 ·rintro σ H2 ⟨qs,x5,x6,rfl,h2,hqn,hqf,hF,h2b,k2⟩;refine ⟨_,rfl,?_⟩;rw[yab,yav (by rw[ybY];exact yaa _)]at h2 hF;exact q D qs H2 hD (fun x o e=>k2 x o (zad e hD) e) h2 hqn hqf hF
def zlI (K:Frag):Sp:=fun vs H Q _=>∃(st:Addr) (ps:List Nat) (rows:List (List Int)) (t rs:Addr) (as:List Addr),vs=[.ref st]∧zbF H st ps rows t rs as∧
 ∀(p:Addr) (qs:List Addr) (H':Hp),H p=none→Same H H'→H' p=some (.lst (qs.map V.ref))→qs.Nodup→(∀ q∈qs,H q=none)→p∉qs→zaG K H' ps rows (List.range (ps.length+1)) qs→Q (.ref p) H'
theorem zhi {n i:Nat}(h:i < n):(List.range n).reverse[n - 1 - i]?=some i:=by
 rw[ycy (by rw[ya4];omega),ya4,ycj (by omega)];congr 1;omega
theorem zn9 (T:Txt K mg)(qbk:DF K mg "full_rows" zc1 zcy)(qbl:FC P w K mg base 7 "full_rows_beneath" za6 (zrd K)):FC P w K mg base 8 "full_rows" zcy (zlI K):=by
 refine qbk.ok qbW (fun vs H Q E h=>?_) (fun f cdv A outer s H vs Q E hr h=>?_)
 ·obtain ⟨st,ps,rows,t,rs,as,rfl,_⟩:=h;rfl
 obtain ⟨st,ps,rows,t,rs,as,rfl,S,q⟩:=h;refine ⟨_,(zai (zaq (i:=1) qbW.nd rfl (Or.inr rfl) (zaw qbl hr (zaa (pv 0) (zaa zag zab))))
   (zae (zas (zb5 (N:=["knot","told"]) (own:=1) (cap:=[1]) rfl (zbs rfl T.qaF (zaa (zam zak rfl T.qaz boot_len (zaa (zaK zaM (pv 0) zag (fun _ _=>rfl)) zab)) zab)) ⟨rfl,rfl,rfl,rfl,rfl,rfl⟩ (fun _ _ _ _ _=>(zay (i:=0) (show List.Nodup (["knot","told"]:List Str) by decide +kernel) rfl (Or.inl rfl))) (fun _ _ _ _ _=>zc2) (fun _ _ _ _ _=>(zd7 (zeF hr) (pv 1) (pv 0) (fun _ _=>rfl))))))),?_⟩
 refine ⟨_,rfl,st,ps,rows,t,rs,as,0,rfl,S,by omega,fun D qs H1 hD s1 h1 hqn hqf hF=>?_⟩;rw[zni S.T]at h1 hF;have S1:=S.same s1;have hfew:=S.few;have hql:=hF.length;rw[ybY,ya4]at hql;refine ⟨_,rfl,_,_,_,_,rfl,rfl,SqT.of S1.st,rfl,_,_,rfl,.inr (SqT.of S1.tr),_,rfl,by omega,by rw[zat];omega,fun p hp=>?_⟩;have el:((((zbT ps).length:Nat):Int)).toNat=ps.length+1:=by rw[zat,ya6]
 rw[el];refine zdS (n:=ps.length+1) (fun i σ H2=>∃ x0:Option V,σ=[x0,some (.ref D)]∧H2 p=some (.lst ((qs.reverse.take i).map V.ref))∧But p H1 H2) ?_ ?_ ?_
 ·exact ⟨_,rfl,zac,fun b o n e=>by rw[zaj n];exact e⟩
 ·rintro i m σ H2 hm hi ⟨x0,rfl,h2,k2⟩;rw[ybI];have hi2:i < qs.reverse.length:=by rw[ybY];omega
  have hq1:qs[ps.length+1 - 1 - i]?=some qs.reverse[i]:=by
   have:=ycy (l:=qs) (i:=i) (by omega);rw[yac hi2]at this;rw[this];congr 1;omega
  have hv:=zi5 (zig List.nodup_range) (zhi hi) hq1;have h2D:=k2 _ _ (zad h1 hp) h1;have hdg:DGet H2 D (.int (i:Int)) (some (.ref qs.reverse[i])):=by
   rw[← hv];exact DGet.k (k:=kN i) h2D
  refine zdZ ?_;refine ⟨_,rfl,_,rfl,D,_,rfl,hdg,?_⟩;refine ⟨_,h2,zau (by rw[yab,yao];omega),m - 1,by omega,by omega,_,rfl,?_,fun b o n e=>by rw[zaj n];exact k2 b o n e⟩;rw[zac,yaU hi2,yaw];rfl
 ·rintro σ H2 ⟨x0,rfl,h2,k2⟩;rw[yav (by rw[ybY];omega)]at h2;have s2:Same H1 H2:=fun b o e=>k2 b o (zad e hp) e;have F2:=(hF.same s2).rev;rw[ycw]at F2;refine q p qs.reverse H2 ?_ (s1.trans s2) h2 (zig hqn) (fun x hx=>hqf x (ybU.mp hx)) (fun z=>?_) F2
  ·cases e:H p with
   | none=>rfl
   | some o=>
    have:=s1 _ _ e;rw[hp]at this;cases this
  ·obtain ⟨ws,hws⟩:=hF.alloc p (ybU.mp z);rw[hp]at hws;cases hws
abbrev En:=Int×Int
theorem zdE {l:List En}(h:Rise l):l.Nodup:=List.Pairwise.imp (fun {a b} (q:pLt a b=true) z=>by
 subst z;have:=zcF.mp q;omega) h
theorem zfV {l m:List En}(h1:Rise l)(h2:Rise m)(h:∀ e,e∈l↔e∈m):l=m:=by
 refine List.Perm.eq_of_pairwise (le:=fun a b=>pLt a b=true) (fun a b _ _ q1 q2=>?_) h1 h2 ((ycA (zdE h1) (zdE h2)).mpr h);have:=zcF.mp q1;have:=zcF.mp q2;omega
theorem zbC {ps:List Nat}(T:zaD ps){rows:List (List Int)}{k:Nat}(hk:k < ps.length+1){e:En}:e∈zao ps rows k↔e∈ownE rows k∨∃ c,par ps c=some k∧e∈zcG (zao ps rows c):=by
 rw[zbX T hk,zee,ycn];unfold zdo;constructor
 ·rintro ⟨l,hl,he⟩;rcases yak.mp hl with q | q
  ·obtain ⟨c,hc,rfl⟩:=yax.mp q;exact .inr ⟨c,(zaI.mp hc).2,he⟩
  ·rw[yal.mp q]at he;exact .inl he
 ·rintro (h | ⟨c,hc,h⟩)
  ·exact ⟨_,yak.mpr (.inr (yal.mpr rfl)),h⟩
  ·exact ⟨_,yak.mpr (.inl (yax.mpr ⟨c,zaI.mpr ⟨(zaU T hc).2,hc⟩,rfl⟩)),h⟩
inductive zgr (K:Frag)(H:Hp):V→Bool→Prop where
 | int (i:Int):zgr K H (.int i) true
 | bl (b:Bool):zgr K H (.bl b) false
 | oth (x:V) (t:String) (ty:TyOf K H x (.type t)) (h2:kitO t "int" = some false):zgr K H x false
def zg4 (K:Frag):Sp:=fun vs H Q _=>∃(x:V) (b:Bool),vs=[x]∧zgr K H x b∧Q (.bl b) H
theorem znW (T:Txt K mg)(qbG:DF K mg "is_whole" zdC zbU):FC P w K mg base 1 "is_whole" zbU (zg4 K):=by
 refine qbG.ok qel (fun vs H Q E h=>?_) (fun f cdv A outer s H vs Q E hr h=>?_)
 ·obtain ⟨x,b,rfl,_⟩:=h;rfl
 obtain ⟨x,b,rfl,hk,q⟩:=h;refine ⟨_,(zae (zas (zj0 (zam zkm rfl T.qap boot_isinstance (zaa (pv 0) (zaa (zc8 (v:=.ty "int") rfl T.qgU boot_int rfl) zab))) (zjX (zrr (zam zkm rfl T.qap boot_isinstance (zaa (pv 0) (zaa (zc8 (v:=.ty "bool") rfl T.qgM boot_bool rfl) zab)))))))),?_⟩;cases hk with
 | int i=>
  refine ⟨_,rfl,_,_,_,_,rfl,.int _,zrY,_,rfl,?_⟩;refine iteT ?_;refine ⟨_,rfl,_,_,_,_,rfl,.int _,zrZ,_,rfl,?_⟩;exact q
 | bl c=>
  refine ⟨_,rfl,_,_,_,_,rfl,.bl _,(show kitO "bool" "int" = some true by decide +kernel),_,rfl,?_⟩;refine iteT ?_;refine ⟨_,rfl,_,_,_,_,rfl,.bl _,zr1,_,rfl,?_⟩;exact q
 | oth x t ty h2=>
  refine ⟨_,rfl,_,_,_,_,rfl,ty,h2,_,rfl,?_⟩;refine iteF ?_;exact q
inductive zfm (K:Frag)(H:Hp):V→Bool→Prop where
 | int (i:Int) (b:Bool) (h:b=decide ((if i < 0 then -i else i) < 10 ^ 60)):zfm K H (.int i) b
 | bl (b:Bool):zfm K H (.bl b) false
 | oth (x:V) (t:String) (ty:TyOf K H x (.type t)) (h1:kitO t "bool" = some false) (h2:kitO t "int" = some false):zfm K H x false
def zg6 (K:Frag):Sp:=fun vs H Q _=>∃(x:V) (b:Bool),vs=[x]∧zfm K H x b∧Q (.bl b) H
theorem zn7 (T:Txt K mg)(qdZ:DF K mg "is_key" zfz zcL)(qaZ:FC P w K mg base 1 "is_whole" zbU (zg4 K)):FC P w K mg base 2 "is_key" zcL (zg6 K):=by
 refine qdZ.ok qfc (fun vs H Q E h=>?_) (fun f cdv A outer s H vs Q E hr h=>?_)
 ·obtain ⟨x,b,rfl,_⟩:=h;rfl
 obtain ⟨x,b,rfl,hk,q⟩:=h;refine ⟨_,(zae (zas (zj0 (zaw qaZ hr (zaa (pv 0) zab)) (zjX (zhn zhs (zam zhJ rfl T.qgn boot_abs (zaa (pv 0) zab)) (zax zey zag zag) (zaB _)))))),?_⟩;cases hk with
 | int i b hb=>
  refine ⟨_,rfl,_,true,rfl,.int i,_,rfl,?_⟩;refine iteT ?_;refine ⟨_,rfl,_,rfl,_,_,rfl,rfl,⟨by decide,by decide,by decide⟩,_,_,rfl,rfl,?_⟩;rw[hb]at q;exact q
 | bl c=>
  refine ⟨_,rfl,_,false,rfl,.bl c,_,rfl,?_⟩;refine iteF ?_;exact q
 | oth x t ty h1 h2=>
  refine ⟨_,rfl,_,false,rfl,.oth x t ty h2,_,rfl,?_⟩;refine iteF ?_;exact q
def ziQ (K:Frag):Sp:=fun vs H Q _=>∃(m x:Int),vs=[.int m,.int x]∧0≤x∧x < m∧Q (.bl true) H
theorem zoc (T:Txt K mg)(qat:DF K mg "is_one_of_first" za7 zaE)(qaZ:FC P w K mg base 1 "is_whole" zbU (zg4 K)):FC P w K mg base 2 "is_one_of_first" zaE (ziQ K):=by
 refine qat.ok qaU (fun vs H Q E h=>?_) (fun f cdv A outer s H vs Q E hr h=>?_)
 ·obtain ⟨m,x,rfl,_⟩:=h;rfl
 obtain ⟨m,x,rfl,h0,h1,q⟩:=h;refine ⟨_,(zae (zas (zj0 (zaw qaZ hr (zaa (pv 1) zab)) (zjX (zjZ znV zhs zag (pv 1) (pv 0)))))),?_⟩;refine ⟨_,rfl,_,true,rfl,.int x,_,rfl,?_⟩;refine iteT ?_;refine ⟨_,rfl,_,_,rfl,rfl,_,rfl,?_⟩;refine zql h0 ?_;refine ⟨_,rfl,_,_,rfl,rfl,?_⟩;show Q (.bl (decide (x < m))) H;rw[yaj h1];exact q
def zaR (a b:List En):List En:=a.filter fun e=>decide (e∉b)
theorem zbg {a b:List En}{e:En}:e∈zaR a b↔e∈a∧e∉b:=by
 unfold zaR;rw[yba,decide_eq_true_iff]
theorem zm0 (a:List En):zaR a a=[]:=ybH.mpr fun e h=>by
 rw[yaf (fun z=>z h)];decide
theorem zgR {a b:List En}(h:a.Nodup):(zaR a b).Nodup:=h.filter _
structure Led (f f' g c:List En):Prop where
 eq:f'=zcY (zaR f g++c)
 gone:g=zaR f f'
 come:c=zaR f' f
theorem zmw {f f' g c:List En}(h1:Rise f)(h2:Rise f')(hg:Rise g)(hc:Rise c)(mg:∀ e,e∈g↔e∈f∧e∉f')(mc:∀ e,e∈c↔e∈f'∧e∉f):Led f f' g c:=by
 have nd:(zaR f g++c).Nodup:=by
  refine ya8.mpr ⟨zgR (zdE h1),zdE hc,fun a ha b hb z=>?_⟩;subst z;exact ((mc a).mp hb).2 (zbg.mp ha).1
 refine ⟨zfV h2 (zeP nd) fun e=>?_,zfV hg (h1.filter _) fun e=>?_,zfV hc (h2.filter _) fun e=>?_⟩
 ·rw[zee,yak,zbg,mg,mc];constructor
  ·intro h;by_cases hf:e∈f
   ·exact .inl ⟨hf,fun z=>z.2 h⟩
   ·exact .inr ⟨h,hf⟩
  ·rintro (⟨h,n⟩ | h)
   ·exact Classical.byContradiction fun z=>n ⟨h,z⟩
   ·exact h.1
 ·exact (mg e).trans zbg.symm
 ·exact (mc e).trans zbg.symm
theorem zqi {f f':List En}(h1:Rise f)(h2:Rise f'):Led f f' (zaR f f') (zaR f' f):=zmw h1 h2 (h1.filter _) (h2.filter _) (fun _=>zbg) (fun _=>zbg)
theorem zj9 {f f':List En}(h1:Rise f)(h2:Rise f')(hg:zaR f f'=[])(hc:zaR f' f=[]):f'=f:=zfV h2 h1 fun e=>by
 constructor
 ·intro h;exact Classical.byContradiction fun z=>absurd (zbg.mpr ⟨h,z⟩) (by rw[hc];exact yaQ)
 ·intro h;exact Classical.byContradiction fun z=>absurd (zbg.mpr ⟨h,z⟩) (by rw[hg];exact yaQ)
section
variable {ps:List Nat}{rows rows':List (List Int)}
def zfi (k:Nat)(rows rows':List (List Int)):Prop:=∀ j,j≠k→zal rows' j=zal rows j
theorem zl3 {k j:Nat}(h:zfi k rows rows')(n:j≠k):ownE rows' j=ownE rows j:=by
 unfold ownE;rw[h j n]
theorem zfL (T:zaD ps){k:Nat}(hk:k < ps.length+1)(h:zfi k rows rows'):∀(m j:Nat),ps.length+1 - j≤m→j < ps.length+1→isB ps j k=false→zao ps rows' j=zao ps rows j
 | 0,j,hm,hj,_=>by omega
 | m+1,j,hm,hj,hb=>by
  rw[zbX T hj,zbX T hj];unfold zdo;have njk:j≠k:=fun z=>by
   rw[z,zcd]at hb;cases hb
  rw[zl3 h njk];congr 3;refine yco fun c hc=>?_;obtain ⟨hcn,hcp⟩:=zaI.mp hc;have hlt:=(zaU T hcp).1;rw[zfL T hk h m c (by omega) hcn ?_];cases e:isB ps c k with
  | false=>rfl
  | true=>
   rw[(zb3 T _ k (yaa _) hk).mpr (.inr ⟨c,hcp,e⟩)]at hb;cases hb
theorem zmT (T:zaD ps)(R:zaJ rows)(R':zaJ rows'){k j p:Nat}(hk:k < ps.length+1)(h:zfi k rows rows')(hb:isB ps j k=true)(hp:par ps j=some p) :
  Led (zao ps rows p) (zao ps rows' p) (zaR (zcG (zao ps rows j)) (zcG (zao ps rows' j))) (zaR (zcG (zao ps rows' j)) (zcG (zao ps rows j))):=by
 have hlt:=zaU T hp;have hpn:p < ps.length+1:=by omega
 have npk:p≠k:=fun z=>by
  have:=zd0 T (show k < j by omega);rw[hb]at this;cases this
 have oth:∀ c,par ps c=some p→c≠j→zao ps rows' c=zao ps rows c:=fun c hc n=>by
  refine zfL T hk h _ c (yaa _) (zaU T hc).2 ?_;cases e:isB ps c k with
  | false=>rfl
  | true=>exact (zdr T hc hp n _ k (yaa _) e hb).elim
 have hr:=fun {r:List (List Int)} (R:zaJ r)=>(zaO T R hlt.2).sublist (za0 _);have dis:∀{r r':List (List Int)},zaJ r→zaJ r'→(∀ c,par ps c=some p→c≠j→zao ps r' c=zao ps r c)→ownE r' p=ownE r p→∀ e,e∈zcG (zao ps r j)→e∉zcG (zao ps r' j)→e∉zao ps r' p:=fun {r r'} Q Q' ho hw e he hn hf=>by
  obtain ⟨i,hi,hbi,ei,_⟩:=zfN T Q hlt.2 e ((za0 _).subset he);rcases (zbC T hpn).mp hf with z | ⟨c,hc,z⟩
  ·have:=(zj1 hpn z).2;have eij:i=p:=by omega
   have:=zd0 T hlt.1;rw[← eij,hbi]at this;cases this
  ·by_cases cj:c=j
   ·subst cj;exact hn z
   ·obtain ⟨i2,hi2,hb2,e2,_⟩:=zfN T Q' (zaU T hc).2 e ((za0 _).subset z);have eii:i2=i:=by omega
    subst eii;exact zdr T hc hp cj _ i2 (yaa _) hb2 hbi
 have up:∀{r r':List (List Int)},(∀ c,par ps c=some p→c≠j→zao ps r' c=zao ps r c)→ownE r' p=ownE r p→∀ e,e∈zao ps r p→e∉zao ps r' p→e∈zcG (zao ps r j)∧e∉zcG (zao ps r' j):=fun {r r'} ho hw e he hn=>by
  refine ⟨?_,fun z=>hn ((zbC T hpn).mpr (.inr ⟨j,hp,z⟩))⟩;rcases (zbC T hpn).mp he with z | ⟨c,hc,z⟩
  ·exact absurd ((zbC T hpn).mpr (.inl (by rw[hw];exact z))) hn
  ·by_cases cj:c=j
   ·subst cj;exact z
   ·exact absurd ((zbC T hpn).mpr (.inr ⟨c,hc,by rw[ho c hc cj];exact z⟩)) hn
 have ow:=zl3 h npk;refine zmw (zaO T R hpn) (zaO T R' hpn) ((hr R).filter _) ((hr R').filter _) (fun e=>zbg.trans ⟨fun zq0=>(by obtain ⟨a,b⟩:=zq0;exact ⟨(zbC T hpn).mpr (.inr ⟨j,hp,a⟩),dis R R' oth ow e a b⟩),fun zq1=>(by obtain ⟨a,b⟩:=zq1;exact up oth ow e a b)⟩) (fun e=>zbg.trans ⟨fun zq2=>(by obtain ⟨a,b⟩:=zq2;exact ⟨(zbC T hpn).mpr (.inr ⟨j,hp,a⟩),dis R' R (fun c hc n=>(oth c hc n).symm) ow.symm e a b⟩),fun zq3=>(by obtain ⟨a,b⟩:=zq3;exact up (fun c hc n=>(oth c hc n).symm) ow.symm e a b)⟩)
theorem zin (T:zaD ps)(R:zaJ rows)(R':zaJ rows'){k:Nat}(hk:k < ps.length+1)(h:zfi k rows rows'):Led (zao ps rows k) (zao ps rows' k) (zaR (ownE rows k) (ownE rows' k)) (zaR (ownE rows' k) (ownE rows k)):=by
 have oth:∀ c,par ps c=some k→zao ps rows' c=zao ps rows c:=fun c hc=>zfL T hk h _ c (yaa _) (zaU T hc).2 (zd0 T (zaU T hc).1);have half:∀{r r':List (List Int)},zaJ r'→(∀ c,par ps c=some k→zao ps r' c=zao ps r c)→∀ e,(e∈ownE r k∧e∉ownE r' k)↔e∈zao ps r k∧e∉zao ps r' k:=fun {r r'} Q' ho e=>by
  constructor
  ·rintro ⟨a,b⟩;refine ⟨(zbC T hk).mpr (.inl a),fun z=>?_⟩;rcases (zbC T hk).mp z with z | ⟨c,hc,z⟩
   ·exact b z
   ·obtain ⟨i,hi,hbi,ei,_⟩:=zfN T Q' (zaU T hc).2 e ((za0 _).subset z);have:=(zj1 hk a).2;have eik:i=k:=by omega
    have:=zd0 T (zaU T hc).1;rw[← eik,hbi]at this;cases this
  ·rintro ⟨a,b⟩;refine ⟨?_,fun z=>b ((zbC T hk).mpr (.inl z))⟩;rcases (zbC T hk).mp a with z | ⟨c,hc,z⟩
   ·exact z
   ·exact absurd ((zbC T hk).mpr (.inr ⟨c,hc,by rw[ho c hc];exact z⟩)) b
 have ori:∀{r:List (List Int)},zaJ r→Rise (ownE r k):=fun {r} Q=>by
  unfold ownE;exact List.Pairwise.map _ (R:=fun a b:Int=>a < b) (fun a b (h:a < b)=>zcF.mpr (.inl h)) (Q.at_up k)
 exact zmw (zaO T R hk) (zaO T R' hk) ((ori R).filter _) ((ori R').filter _) (fun e=>zbg.trans (half R' oth e)) (fun e=>zbg.trans (half R (fun c hc=>(oth c hc).symm) e))
end
structure FA (K:Frag)(H:Hp)(p:Addr)(qs:List Addr)(n:Nat)(f:Nat→List En):Prop where
 at_:H p=some (.lst (qs.map V.ref))
 len:qs.length=n
 nd:qs.Nodup
 np:p∉qs
 get:∀(j:Nat) (q:Addr),qs[j]?=some q→∃ ws,H q=some (.lst ws)∧zan K H (f j) ws
section
variable {K:Frag}{H H':Hp}{p:Addr}{qs:List Addr}{n:Nat}{f g:Nat→List En}
theorem FA.ext (h:FA K H p qs n f)(e:Ext H H'):FA K H' p qs n f:=
 ⟨e _ _ h.at_ (fun _ z=>nomatch z),h.len,h.nd,h.np,fun j q hq=>by
  obtain ⟨ws,h1,h2⟩:=h.get j q hq;exact ⟨ws,e _ _ h1 (fun _ z=>nomatch z),h2.mono e⟩⟩
theorem FA.congr (h:FA K H p qs n f)(e:∀ j,j < n→f j=g j):FA K H p qs n g:=
 ⟨h.at_,h.len,h.nd,h.np,fun j q hq=>by
  rw[← e j (by have:=(yap.mp hq).1;have:=h.len;omega)];exact h.get j q hq⟩
theorem FA.set (h:FA K H p qs n f){k:Nat}{q':Addr}{l:List En}{ws:List V}(hq:H q'=some (.lst ws))(hw:zan K H l ws)(hn:q'∉qs)(hp:q'≠p):FA K (upd H p (.lst ((qs.map V.ref).set k (.ref q')))) p (qs.set k q') n (fun j=>if j=k then l else f j):=by
 refine ⟨?_,by rw[yb3];exact h.len,?_,fun z=>?_,fun j q hj=>?_⟩
 ·rw[zac,ybX]
 ·show List.Pairwise _ _;rw[ybe];intro i j hi hj hij;rw[yb3]at hi hj;rw[List.getElem_set,List.getElem_set];have old:=ybe.mp h.nd i j hi hj hij;split
  ·rw[if_neg (by omega)];exact fun z=>hn (z ▸ yaT hj)
  ·split
   ·exact fun z=>hn (z ▸ yaT hi)
   ·exact old
 ·rcases ybK z with y | y
  ·exact h.np y
  ·exact hp y.symm
 ·rw[ybv]at hj;show ∃ ws,_∧zan K _ (if j=k then l else f j) ws
  by_cases c:k=j
  ·rw[if_pos c]at hj;by_cases c2:k < qs.length
   ·rw[if_pos c2]at hj;have:=yad hj;subst this;rw[if_pos c.symm];exact ⟨ws,by rw[zaj hp];exact hq,zbN h.at_ hw⟩
   ·rw[if_neg c2]at hj;cases hj
  ·rw[if_neg c]at hj;rw[if_neg (fun z=>c z.symm)];obtain ⟨us,h1,h2⟩:=h.get j q hj;have hqp:q≠p:=fun z=>h.np (by rw[← z];exact yaJ hj);exact ⟨us,by rw[zaj hqp];exact h1,zbN h.at_ h2⟩
theorem FA.at (h:FA K H p qs n f){k:Nat}(hk:k < n):∃ q ws,qs[k]?=some q∧H q=some (.lst ws)∧zan K H (f k) ws:=by
 have e:qs[k]?=some (qs[k]'(by have:=h.len;omega)):=yac _;obtain ⟨ws,h1,h2⟩:=h.get k _ e;exact ⟨_,ws,e,h1,h2⟩
theorem FA.has (h:FA K H p qs n f):zan K H ((List.range n).map f) (qs.map V.ref):=by
 obtain ⟨h1,h2,h3,h4,h5⟩:=h;clear h1 h3 h4
 induction qs generalizing n f with
 | nil=>
  have:n=0:=h2.symm;subst this;exact .nil
 | cons q qs ih=>
  obtain ⟨m,rfl⟩:∃ m,n=m+1:=⟨qs.length,h2.symm⟩;rw[List.range_succ_eq_map,yan,yan,ybl];obtain ⟨ws,w1,w2⟩:=h5 0 q rfl;exact .cons ⟨q,ws,rfl,SqL.of w1,w2⟩ (ih (n:=m) (f:=f ∘ Nat.succ) (Nat.succ.inj h2) fun j q' hj=>h5 (j+1) q' (by rw[ycf];exact hj))
end
structure zaC (K:Frag)(CS:Addr)(H:Hp)(sh dx st p:Addr)(qs:List Addr)(ps:List Nat)(rows:List (List Int))(t rs:Addr)(as:List Addr):Prop where
 own:H dx=some (.own sh)
 ins:H sh=some (.ins CS dx [("kept",.ref st),("fulls",.ref p)])
 stand:zbF H st ps rows t rs as
 full:FA K H p qs (ps.length+1) (zao ps rows)
def Tp (H H':Hp):Prop:=∀ b us,H b=some (.tup us)→H' b=some (.tup us)
theorem ziR {H H':Hp}(e:Tp H H'){as:List Addr}{rows:List (List Int)}(h:zaN H as rows):zaN H' as rows:=pImp (fun _ _=>e _ _) h
theorem zb8 {H H':Hp}{st t rs:Addr}{ps:List Nat}{rows:List (List Int)}{as:List Addr}(e:Tp H H')(S:zbF H st ps rows t rs as):zbF H' st ps rows t rs as:=
 ⟨e _ _ S.st,e _ _ S.tr,e _ _ S.rs,ziR e S.at_,S.len,S.T,S.R,S.few,S.keys⟩
theorem But.tp {H H':Hp}{p:Addr}(k:But p H H')(n:∀ us,H p≠some (.tup us)):Tp H H':=fun b us e=>k b _ (fun z=>n us (z ▸ e)) e
theorem zbo {K:Frag}{H H':Hp}(k:Tp H H'){es:List (Int×Int)}{ws:List V}(h:zan K H es ws):zan K H' es ws:=pImp (fun _ _ h=>by
  obtain ⟨a,x1,x2,rfl,hT,e1,e2⟩:=(show hasP K H _ _ from h);exact ⟨a,x1,x2,rfl,k _ _ hT,e1,e2⟩) h
theorem FA.tp {K:Frag}{H H':Hp}{p:Addr}{qs:List Addr}{n:Nat}{f:Nat→List En}(h:FA K H p qs n f)(e:Tp H H')(l:∀ b us,H b=some (.lst us)→H' b=some (.lst us)):FA K H' p qs n f:=
 ⟨l _ _ h.at_,h.len,h.nd,h.np,fun j q hq=>by
  obtain ⟨ws,h1,h2⟩:=h.get j q hq;exact ⟨ws,l _ _ h1,zbo e h2⟩⟩
def zlH (K:Frag)(CS:Addr):Sp:=fun vs H Q _=>∃(sh dx st:Addr) (ps:List Nat) (rows:List (List Int)) (t rs:Addr) (as:List Addr),vs=[.ref sh,.ref st]∧H dx=some (.own sh)∧H sh=some (.ins CS dx [])∧zbF H st ps rows t rs as∧
 ∀(p:Addr) (qs:List Addr) (H':Hp),H p=none→(∀ q∈qs,H q=none)→But sh H H'→zaC K CS H' sh dx st p qs ps rows t rs as→Q .non H'
theorem zsf {K:Frag}{H:Hp}{ps:List Nat}{rows:List (List Int)}:∀{n:Nat} {qs:List Addr} (m:Nat),zaG K H ps rows (List.range' m n) qs→qs.length=n∧∀(j:Nat) (q:Addr),qs[j]?=some q→∃ ws,H q=some (.lst ws)∧zan K H (zao ps rows (m+j)) ws
 | 0,_,_,.nil=>⟨rfl,fun j q h=>by simp at h⟩
 | n+1,_,m,.cons (b:=q) h r=>by
  obtain ⟨l,g⟩:=zsf (m+1) r;refine ⟨by rw[yaI,l],fun j q' hj=>?_⟩;cases j with
  | zero=>
   obtain rfl:=yad hj;exact h
  | succ j=>
   have:=g j q' hj;rwa[show m+1+j=m+(j+1) by omega]at this
theorem zaG.fa {K:Frag}{H:Hp}{p:Addr}{ps:List Nat}{rows:List (List Int)}{n:Nat}{qs:List Addr}(h:zaG K H ps rows (List.range n) qs)(hp:H p=some (.lst (qs.map V.ref)))(nd:qs.Nodup)(np:p∉qs):FA K H p qs n (zao ps rows):=by
 rw[List.range_eq_range']at h;obtain ⟨l,g⟩:=zsf 0 h;exact ⟨hp,l,nd,np,fun j q hj=>by
  have:=g j q hj;rwa[Nat.zero_add]at this⟩
theorem zp9 (T:Txt K mg){CS:Addr}(O:OwnC K mg CS)(qaL:DI K CS "Shelf.__init__" zbz zbn)(qet:FC P w K mg base 8 "full_rows" zcy (zlI K)):FI P w K mg base CS 9 zbn (zlH K CS):=by
 refine qaL.ok qbB (fun vs H Q E h=>?_) (fun f cdv A outer s H vs Q E hr h=>?_)
 ·obtain ⟨sh,dx,st,ps,rows,t,rs,as,rfl,_⟩:=h;rfl
 obtain ⟨sh,dx,st,ps,rows,t,rs,as,rfl,h1,h2,S,q⟩:=h;refine ⟨_,(zai (zfY (pv 0) (pv 1) rfl)
   (zae (zfY (pv 0) (zaw qet hr (zaa (pv 1) zab)) rfl))),?_⟩
 refine ⟨_,rfl,_,rfl,sh,CS,dx,[],rfl,h2,O.cl,O.n_kept,by decide,?_⟩;have k1:But sh H (upd H sh (.ins CS dx (putF "kept" (.ref st) []))):=fun b o n e=>by rw[zaj n];exact e
 have hsd:dx≠sh:=fun z=>by rw[z,h2]at h1;cases h1
 have a1:=k1 _ _ hsd h1;have a2:upd H sh (.ins CS dx (putF "kept" (.ref st) [])) sh=some (.ins CS dx [("kept",.ref st)]):=zac;have S1:=zb8 (k1.tp fun us z=>by rw[h2]at z;cases z) S
 have hn:∀ b,upd H sh (.ins CS dx (putF "kept" (.ref st) [])) b=none→H b=none:=fun b e=>by
  by_cases z:b=sh
  ·subst z;rw[a2]at e;cases e
  ·rwa[zaj z]at e
 generalize upd H sh (.ins CS dx (putF "kept" (.ref st) []))=H1 at k1 a1 a2 S1 hn ⊢;refine ⟨_,rfl,st,ps,rows,t,rs,as,rfl,S1,fun p qs H2 hp s2 g2 nd hq np F=>?_⟩;have b2:=s2 _ _ a2;refine ⟨_,rfl,sh,CS,dx,_,rfl,b2,O.cl,O.n_fulls,(by show 1 < 1000;decide),?_⟩;have k2:But sh H2 (upd H2 sh (.ins CS dx (putF "fulls" (.ref p) [("kept",.ref st)]))):=fun b o n e=>by rw[zaj n];exact e
 have F2:FA K (upd H2 sh (.ins CS dx (putF "fulls" (.ref p) [("kept",.ref st)]))) p qs (ps.length+1) (zao ps rows):=by
  exact (F.fa g2 nd np).tp (k2.tp fun us z=>by rw[b2]at z;cases z) fun b us e=>k2 b _ (fun z=>by rw[z,b2]at e;cases e) e
 refine q p qs _ (hn _ hp) (fun x hx=>hn _ (hq x hx)) (fun b o n e=>k2 b o n (s2 _ _ (k1 b o n e))) ⟨k2 _ _ hsd (s2 _ _ a1),by rw[zac];rfl,zb8 (k2.tp fun us z=>by rw[b2]at z;cases z) (S1.same s2),F2⟩
def zg5 (K:Frag):Sp:=fun vs H Q _=>∃(t:Addr) (kn:Nat) (ps:List Nat),vs=[.ref t,.int kn]∧H t=some (.tup (zbT ps))∧ps.length≤900∧kn < ps.length+1∧Q .non H
def ziN (CS:Addr):Sp:=fun vs H Q _=>∃(sh dx st p:Addr),vs=[.ref sh]∧H sh=some (.ins CS dx [("kept",.ref st),("fulls",.ref p)])∧Q (.ref st) H
theorem zj4 {CS:Addr}(O:OwnC K mg CS)(qaP:DM K CS "stand" "Shelf.stand" zca zbr):FM P w K mg base CS 1 "stand" zbr (ziN CS):=by
 refine qaP.ok qdg (fun vs H Q E h=>?_) (fun f cdv A outer s H vs Q E hr h=>?_)
 ·obtain ⟨sh,dx,st,p,rfl,_⟩:=h;rfl
 obtain ⟨sh,dx,st,p,rfl,h2,q⟩:=h;refine ⟨_,(zae (zas (zbl (pv 0) rfl))),?_⟩;exact ⟨_,rfl,sh,CS,dx,_,_,rfl,h2,O.cl,O.n_kept,rfl,q⟩
theorem zn6 (T:Txt K mg)(qaG:DF K mg "need_knot" zci zaT)(qav:FC P w K mg base 2 "is_one_of_first" zaE (ziQ K)):FC P w K mg base 3 "need_knot" zaT (zg5 K):=by
 refine qaG.ok qbV (fun vs H Q E h=>?_) (fun f cdv A outer s H vs Q E hr h=>?_)
 ·obtain ⟨t,kn,ps,rfl,_⟩:=h;rfl
 obtain ⟨t,kn,ps,rfl,ht,hl,hk,q⟩:=h;refine ⟨_,(zae (zaP (zde (zbZ (zaw qav hr (zaa (zam zak rfl T.qaz boot_len (zaa (pv 0) zab)) (zaa (pv 1) zab))))) (zae zba) zav)),?_⟩;have el:=zat ps;refine ⟨_,rfl,_,_,rfl,.inr (SqT.of ht),_,rfl,_,_,rfl,by omega,by omega,_,rfl,?_⟩;exact iteF q
def zgt (x:Int):Prop:=-10 ^ 60 < x∧x < 10 ^ 60
def ziO (K:Frag):Sp:=fun vs H Q _=>∃(x:Int),vs=[.int x]∧zgt x∧Q .non H
theorem zn0 (T:Txt K mg)(qaR:DF K mg "need_key" zcK zbE)(qbu:FC P w K mg base 2 "is_key" zcL (zg6 K)):FC P w K mg base 3 "need_key" zbE (ziO K):=by
 refine qaR.ok qcv (fun vs H Q E h=>?_) (fun f cdv A outer s H vs Q E hr h=>?_)
 ·obtain ⟨x,rfl,_⟩:=h;rfl
 obtain ⟨x,rfl,hx,q⟩:=h;refine ⟨_,(zae (zaP (zde (zbZ (zaw qbu hr (zaa (pv 0) zab)))) (zae zba) zav)),?_⟩;refine ⟨_,rfl,_,true,rfl,.int x _ (yaj (p:=(if x < 0 then -x else x) < 10 ^ 60) ?_).symm,_,rfl,?_⟩
 ·obtain ⟨h1,h2⟩:=hx;split <;> omega
 exact iteF q
def zlJ (K:Frag)(CS:Addr):Sp:=fun vs H Q _=>∃(sh dx st p:Addr) (kn:Nat) (qs:List Addr) (ps:List Nat) (rows:List (List Int)) (t rs:Addr) (as:List Addr),vs=[.ref sh,.int kn]∧zaC K CS H sh dx st p qs ps rows t rs as∧kn < ps.length+1∧
 ∀(D:Addr) (ws:List V),H D=none→zan K H (zao ps rows kn) ws→Q (.ref D) (upd H D (.lst ws))
theorem zob (T:Txt K mg){CS:Addr}(O:OwnC K mg CS)(qaE:DM K CS "full" "Shelf.full" zbY zbb)(qax:FC P w K mg base 3 "need_knot" zaT (zg5 K)):FM P w K mg base CS 4 "full" zbb (zlJ K CS):=by
 refine qaE.ok qbt (fun vs H Q E h=>?_) (fun f cdv A outer s H vs Q E hr h=>?_)
 ·obtain ⟨sh,dx,st,p,kn,qs,ps,rows,t,rs,as,rfl,_⟩:=h;rfl
 obtain ⟨sh,dx,st,p,kn,qs,ps,rows,t,rs,as,rfl,S,hk,q⟩:=h;refine ⟨_,(zai (zbp (zaw qax hr (zaa (zaK zaM (zbl (pv 0) rfl) zag (fun _ _=>rfl)) (zaa (pv 1) zab))))
   (zae (zas (zaW zcB rfl T.qbX boot_list (zaa (zaK zaX (zbl (pv 0) rfl) (pv 1) (fun _ _=>rfl)) zab))))),?_⟩
 obtain ⟨qk,ws,g1,g2,g3⟩:=S.full.at hk;refine ⟨_,rfl,sh,CS,dx,_,_,rfl,S.ins,O.cl,O.n_kept,rfl,_,_,_,_,rfl,rfl,SqT.of S.stand.st,rfl,_,rfl,t,kn,ps,rfl,S.stand.tr,by have:=S.stand.few;omega,hk,?_⟩;refine ⟨_,rfl,sh,CS,dx,_,_,rfl,S.ins,O.cl,O.n_fulls,rfl,_,rfl,_,_,_,_,rfl,rfl,SqL.of S.full.at_,zfg g1,qk,ws,rfl,.inl (SqL.of g2),fun D hD=>?_⟩;exact q D ws hD g3
def zfp (K:Frag)(CS:Addr):Sp:=fun vs H Q _=>∃(sh dx st p:Addr) (kn:Nat) (x:Int) (qs:List Addr) (ps:List Nat) (rows:List (List Int)) (t rs:Addr) (as:List Addr),vs=[.ref sh,.int kn,.int x]∧zaC K CS H sh dx st p qs ps rows t rs as∧kn < ps.length+1∧zgt x∧
 ∀(a:Addr),as[kn]?=some a→H a=some (.tup ((zal rows kn).map V.int))→Q (.ref a) H
theorem zmb (T:Txt K mg){CS:Addr}(O:OwnC K mg CS)(qaw:DM K CS "row_for" "Shelf.row_for" zbi zaH)(qax:FC P w K mg base 3 "need_knot" zaT (zg5 K))(qbH:FC P w K mg base 3 "need_key" zbE (ziO K)):FM P w K mg base CS 4 "row_for" zaH (zfp K CS):=by
 refine qaw.ok qa4 (fun vs H Q E h=>?_) (fun f cdv A outer s H vs Q E hr h=>?_)
 ·obtain ⟨sh,dx,st,p,kn,x,qs,ps,rows,t,rs,as,rfl,_⟩:=h;rfl
 obtain ⟨sh,dx,st,p,kn,x,qs,ps,rows,t,rs,as,rfl,S,hk,hx,q⟩:=h;refine ⟨_,(zai (zbp (zaw qax hr (zaa (zaK zaM (zbl (pv 0) rfl) zag (fun _ _=>rfl)) (zaa (pv 1) zab))))
   (zai (zbp (zaw qbH hr (zaa (pv 2) zab)))
   (zae (zas (zaK zaM (zaK zaM (zbl (pv 0) rfl) zag (fun _ _=>rfl)) (pv 1) (fun _ _=>rfl)))))),?_⟩
 obtain ⟨a,g1,g2⟩:=S.stand.at_.get (k:=kn) (by rw[S.stand.len];exact hk);refine ⟨_,rfl,sh,CS,dx,_,_,rfl,S.ins,O.cl,O.n_kept,rfl,_,_,_,_,rfl,rfl,SqT.of S.stand.st,rfl,_,rfl,t,kn,ps,rfl,S.stand.tr,by have:=S.stand.few;omega,hk,?_⟩;refine ⟨_,rfl,x,rfl,hx,?_⟩;refine ⟨_,rfl,sh,CS,dx,_,_,rfl,S.ins,O.cl,O.n_kept,rfl,_,_,_,_,rfl,rfl,SqT.of S.stand.st,rfl,_,rfl,_,_,_,_,rfl,rfl,SqT.of S.stand.rs,zfg g1,?_⟩;exact q a g1 g2
abbrev kS (e:En):List Key:=[.inl e.1,.inl e.2]
theorem zr6 {e f:En}(h:kS e=kS f):e=f:=by
 obtain ⟨a,b⟩:=e;obtain ⟨c,d⟩:=f;injection h with h1 h2;injection h2 with h2 _;have h1:a=c:=Sum.inl.inj h1;have h2:b=d:=Sum.inl.inj h2;rw[h1,h2]
def kvW (es:List En):List (List Key×V):=es.map fun e=>(kS e,.bl true)
theorem zi6 (e:En):∀ es:List En,valV (kvW es) (kS e)=if e∈es then some (.bl true) else none
 | []=>rfl
 | f::es=>by
  show valV ((kS f,.bl true)::kvW es) (kS e)=_;by_cases z:f=e
  ·subst z;rw[zcs rfl,if_pos yaA]
  ·rw[zbw (fun y=>z (zr6 y)),zi6 e es];have hm:(e∈f::es)=(e∈es):=propext ⟨fun h=>(yah.mp h).resolve_left fun y=>z y.symm,fun h=>yau _ h⟩;by_cases y:e∈es
   ·rw[if_pos y,if_pos (by rw[hm];exact y)]
   ·rw[if_neg y,if_neg (by rw[hm];exact y)]
def zh0 (K:Frag):Sp:=fun vs H Q _=>∃(a c:Addr) (ws us:List V) (es cs:List En),vs=[.ref a,.ref c]∧H a=some (.lst ws)∧zan K H es ws∧es.length≤900∧H c=some (.lst us)∧zan K H cs us∧cs.length≤900∧cs.Nodup∧
 ∀(p:Addr) (ws':List V) (H':Hp),H p=none→Same H H'→H' p=some (.lst ws')→zan K H' (zaR es cs) ws'→Q (.ref p) H'
theorem zkJ (T:Txt K mg)(qcS:DF K mg "without" zeh zdF):FC P w K mg base 1 "without" zdF (zh0 K):=by
 refine qcS.ok qbz (fun vs H Q E h=>?_) (fun f cdv A outer s H vs Q E hr h=>?_)
 ·obtain ⟨a,c,ws,us,es,cs,rfl,_⟩:=h;rfl
 obtain ⟨a,c,ws,us,es,cs,rfl,ha,hw,hz,hc,hu,hzc,hnd,q⟩:=h;have hwl:=hw.length;have hul:=hu.length;refine ⟨_,(zai (zaq (i:=2) qbz.nd rfl (Or.inr rfl) znP)
   (zai (zb1 PassesOwn.never rfl (zd6 (pv 1)) (zay (i:=3) qbz.nd rfl (Or.inl rfl)) (zae (zeS (zeF hr) (pv 2) (pv 3) zdU rfl)))
   (zae (zas (zb5 (N:=["entry","away"]) (own:=1) (cap:=[2]) rfl (zd6 (pv 0)) ⟨rfl,rfl,rfl,rfl,rfl,rfl⟩ (fun _ _ _ _ _=>(zay (i:=0) (show List.Nodup (["entry","away"]:List Str) by decide +kernel) rfl (Or.inl rfl))) (fun _ _ _ _ _=>(zeR (zar (zkH (zeF hr)) (pv 0) (pv 1) (by with_unfolding_all rfl)))) (fun _ _ _ _ _=>(pv 0))))))),?_⟩
 intro D hD;have k0:But D H (upd H D (.dT [])):=fun b o n e=>by rw[zaj n];exact e
 have naD:a≠D:=zad ha hD;have ncD:c≠D:=zad hc hD;refine ⟨_,rfl,c,rfl,⟨_,SqL.of (k0 _ _ ncD hc)⟩,?_⟩;refine zkh (xs:=us) (fun i σ H2=>∃ x3:Option V,σ=[some (.ref a),some (.ref c),some (.ref D),x3]∧H2 D=some (.dT (kvW (cs.take i)))∧But D H H2) ?_ ?_ ?_ ?_
 ·exact ⟨_,rfl,zac,k0⟩
 ·rintro i σ H2 _ ⟨x3,rfl,_,k2⟩;exact SqL.of (k2 _ _ ncD hc)
 ·rintro i x σ H2 hx ⟨x3,rfl,h2,k2⟩;obtain ⟨e,he,hhas⟩:=hu.get hx;obtain ⟨b,y1,y2,rfl,hb,hy1,hy2⟩:=(show hasP K H e x from hhas);have hy1:y1=.int e.1:=hy1;have hy2:y2=.int e.2:=hy2;subst hy1 hy2;have hi:=(yap.mp he).1;have htk:cs.take (i+1)=cs.take i++[e]:=by
   rw[yaU hi,(yap.mp he).2]
  have h2b:=k2 _ _ (zad hb hD) hb;have hnot:e∉cs.take i:=fun z=>by
   have hn2:=hnd;rw[← yaO (i+1) cs,htk]at hn2;have:=(ya8.mp (ya8.mp hn2).1).2.2 e z e (yal.mpr rfl);exact this rfl
  have hln:(kvW (cs.take i)).length≤1000:=by
   unfold kvW;rw[yab,yao];omega
  refine ⟨_,rfl,_,rfl,D,_,rfl,DPut.t (k:=kS e) h2 h2b (zau hln),?_⟩;refine ⟨_,rfl,?_,fun b o n e=>by rw[zaj n];exact k2 b o n e⟩;rw[zac,zeo _ (by rw[zi6,if_neg hnot]),htk];unfold kvW;rw[yaw];rfl
 ·rintro σ H2 ⟨x3,rfl,h2,k2⟩;rw[yav (by omega)]at h2;have s2:Same H H2:=fun b o e=>k2 b o (zad e hD) e;have h2a:=s2 _ _ ha;refine ⟨_,rfl,a,rfl,⟨_,SqL.of h2a⟩,fun p hp=>?_⟩;have nDp:D≠p:=zad h2 hp;refine zcR (xs:=ws) (fun j σ H5=>∃(x0:Option V) (us:List V),σ=[x0,some (.ref D)]∧H5 p=some (.lst us)∧zan K H5 (zaR (es.take j) cs) us∧us.length≤j∧But p H2 H5) ?_ ?_ ?_ ?_
  ·exact ⟨_,[],rfl,zac,.nil,yaa _,fun b o n e=>by rw[zaj n];exact e⟩
  ·rintro j σ H5 _ ⟨x0,us,rfl,_,_,_,k5⟩;exact k5.sq (SqL.of h2a) hp
  ·rintro j m x σ H5 hx hm ⟨x0,us,rfl,h5,hv,hul,k5⟩;have hj:=(yap.mp hx).1;obtain ⟨e,he,bb,x1,x2,rfl,hb,e1,e2⟩:∃ e,es[j]?=some e∧hasP K H e x:=hw.get hx;have e1':x1=.int e.1:=e1;have e2':x2=.int e.2:=e2;subst e1' e2';have htk:zaR (es.take (j+1)) cs=zaR (es.take j) cs++zaR [e] cs:=by
    unfold zaR;rw[yaU (by omega),(yap.mp he).2,ybg]
   have b2:=s2 _ _ hb;have b5:=k5 _ _ (zad b2 hp) b2;have h5D:=k5 _ _ nDp h2;refine ⟨_,rfl,_,rfl,D,_,rfl,DGet.t (k:=kS e) h5D b5,_,rfl,?_⟩;rw[zi6];by_cases c:e∈cs
   ·rw[if_pos c];refine iteF ⟨m - 1,by omega,by omega,_,_,rfl,h5,?_,by omega,k5⟩;rw[htk,show zaR [e] cs=[] from ybW (p:=fun e=>decide (e∉cs)) (by simpa using c),yay];exact hv
   ·rw[if_neg c];refine iteT ⟨_,rfl,_,h5,zau (by omega),m - 1,by omega,by omega,_,_,rfl,zac,?_,by rw[yas,ybk];omega,fun b o n e=>by rw[zaj n];exact k5 b o n e⟩;rw[htk,show zaR [e] cs=[e] from ybw (p:=fun e=>decide (e∉cs)) (yaj c)];exact (zbN h5 hv).append (zbN h5 (.cons ⟨bb,.int e.1,.int e.2,rfl,b5,rfl,rfl⟩ .nil))
  rintro σ H5 ⟨x0,us',rfl,h5,hv,_,k5⟩;rw[← hwl,yav (yaa _)]at hv;have hpH:H p=none:=by
   cases e:H p with
   | none=>rfl
   | some o=>
    rw[s2 _ _ e]at hp;cases hp
  exact q p us' H5 hpH (fun b o e=>k5 b o (zad (s2 _ _ e) hp) (s2 _ _ e)) h5 hv
section
variable {ps:List Nat}{rows rows':List (List Int)}{k:Nat}
def upN (ps:List Nat)(k:Nat):Nat→Option Nat
 | 0=>some k
 | m+1=>(upN ps k m).bind (par ps)
theorem znq {m j p:Nat}(h:upN ps k m=some j)(hp:par ps j=some p):upN ps k (m+1)=some p:=by
 show (upN ps k m).bind (par ps)=_;rw[h];exact hp
theorem zjA {m j:Nat}(h:upN ps k m=some j):upN ps k (m+1)=par ps j:=by
 show (upN ps k m).bind (par ps)=_;rw[h];rfl
theorem zfo {m p:Nat}(h:upN ps k (m+1)=some p):∃ j,upN ps k m=some j∧par ps j=some p:=by
 cases e:upN ps k m with
 | none=>
  have:(upN ps k m).bind (par ps)=some p:=h;rw[e]at this;cases this
 | some j=>
  have:(upN ps k m).bind (par ps)=some p:=h;rw[e]at this;exact ⟨j,rfl,this⟩
theorem zln (T:zaD ps):∀{m j:Nat},upN ps k m=some j→j+m≤k
 | 0,j,h=>by
  have:k=j:=yad h;omega
 | m+1,j,h=>by
  obtain ⟨i,h1,h2⟩:=zfo h;have:=zln T h1;have:=(zaU T h2).1;omega
theorem zhQ (T:zaD ps)(hk:k < ps.length+1){m j:Nat}(h:upN ps k m=some j):j < ps.length+1:=by
 have:=zln T h;omega
theorem zg1 (T:zaD ps){i j:Nat}:∀ d m,upN ps k (m+d)=some i→upN ps k m=some j→i+d≤j
 | 0,m,h1,h2=>by
  rw[ybr,h2]at h1;have:=yad h1;omega
 | d+1,m,h1,h2=>by
  obtain ⟨x,g1,g2⟩:=zfo (m:=m+d) h1;have:=zg1 T d m g1 h2;have:=(zaU T g2).1;omega
theorem zjB (T:zaD ps)(hk:k < ps.length+1):∀{m j:Nat},upN ps k m=some j→isB ps j k=true
 | 0,j,h=>by
  have:k=j:=yad h;subst this;exact zcd
 | m+1,j,h=>by
  obtain ⟨i,h1,h2⟩:=zfo h;exact (zb3 T _ k (yaa _) hk).mpr (.inr ⟨i,h2,zjB T hk h1⟩)
theorem zoV (T:zaD ps)(hk:k < ps.length+1):∀(n j:Nat),ps.length+1 - j≤n→isB ps j k=true→∃ m,upN ps k m=some j
 | 0,j,hn,h=>by
  rcases (zb3 T _ k (yaa _) hk).mp h with z | ⟨c,hc,_⟩
  ·exact ⟨0,congrArg some z⟩
  ·have:=zaU T hc;omega
 | n+1,j,hn,h=>by
  rcases (zb3 T _ k (yaa _) hk).mp h with z | ⟨c,hc,hb⟩
  ·exact ⟨0,congrArg some z⟩
  ·have:=zaU T hc;obtain ⟨m,hm⟩:=zoV T hk n c (by omega) hb;exact ⟨m+1,znq hm hc⟩
def stL (ps:List Nat)(rows rows':List (List Int))(k:Nat):Nat→Nat→List En
 | 0,i=>zao ps rows i
 | m+1,i=>if upN ps k m=some i then zao ps rows' i else stL ps rows rows' k m i
theorem zlA:∀{m i m':Nat},m' < m→upN ps k m'=some i→stL ps rows rows' k m i=zao ps rows' i
 | m+1,i,m',h,e=>by
  unfold stL;by_cases z:upN ps k m=some i
  ·rw[if_pos z]
  ·rw[if_neg z];refine zlA (m':=m') ?_ e;rcases ybt m' m with y | y
   ·exact y
   ·have:m'=m:=by omega
    subst this;exact absurd e z
theorem zg3:∀{m i:Nat},(∀ m',m' < m→upN ps k m'≠some i)→stL ps rows rows' k m i=zao ps rows i
 | 0,_,_=>rfl
 | m+1,i,h=>by
  unfold stL;rw[if_neg (h m (by omega))];exact zg3 fun m' hm=>h m' (by omega)
theorem zpK (T:zaD ps){m j:Nat}(h:upN ps k m=some j):stL ps rows rows' k m j=zao ps rows j:=zg3 fun m' hm e=>by
 have:=zg1 T (m - m') m' (by rw[show m'+(m - m')=m by omega];exact h) e;omega
theorem zlj (T:zaD ps)(R:zaJ rows)(R':zaJ rows')(hk:k < ps.length+1)(h:zfi k rows rows'){m j:Nat}(hm:upN ps k m=some j)(e:zao ps rows' j=zao ps rows j):∀{d i:Nat},upN ps k (m+d)=some i→zao ps rows' i=zao ps rows i
 | 0,i,hi=>by
  rw[ybr,hm]at hi;have:=yad hi;subst this;exact e
 | d+1,i,hi=>by
  obtain ⟨x,g1,g2⟩:=zfo (m:=m+d) hi;have ih:=zlj T R R' hk h hm e g1;have L:=zmT T R R' hk h (zjB T hk g1) g2;rw[ih,zm0]at L;exact zj9 (zaO T R (zhQ T hk hi)) (zaO T R' (zhQ T hk hi)) L.gone.symm L.come.symm
theorem zpJ (T:zaD ps)(R:zaJ rows)(R':zaJ rows')(hk:k < ps.length+1)(h:zfi k rows rows'){m:Nat}(hm:upN ps k m=none∨∃ j,upN ps k m=some j∧zao ps rows' j=zao ps rows j){i:Nat}(hi:i < ps.length+1):stL ps rows rows' k m i=zao ps rows' i:=by
 cases e:isB ps i k with
 | false=>
  rw[zg3 fun m' _ z=>by rw[zjB T hk z]at e;cases e]
  exact (zfL T hk h _ i (yaa _) hi e).symm
 | true=>
  obtain ⟨m',e'⟩:=zoV T hk _ i (yaa _) e;rcases ybt m' m with y | y
  ·exact zlA y e'
  ·rw[zg3 fun x hx z=>by
    have:=zg1 T (m' - x) x (by rw[show x+(m' - x)=m' by omega];exact e') z;omega]
   rcases hm with hm | ⟨j,hm,hj⟩
   ·exfalso;have:∀ d,upN ps k (m+d)=none:=fun d=>by
     induction d with
     | zero=>exact hm
     | succ d ih=>
      show (upN ps k (m+d)).bind (par ps)=none;rw[ih];rfl
    have:=this (m' - m);rw[show m+(m' - m)=m' by omega,e']at this;cases this
   ·exact (zlj T R R' hk h hm hj (d:=m' - m) (by rw[show m+(m' - m)=m' by omega];exact e')).symm
end
def znv (ps:List Nat)(rows rows':List (List Int))(j:Nat):Tri Int (List En) (List En):=⟨(j:Int),zaR (zao ps rows j) (zao ps rows' j),zaR (zao ps rows' j) (zao ps rows j)⟩
def zdi (ps:List Nat)(rows rows':List (List Int))(k:Nat):Nat→List (Tri Int (List En) (List En))
 | 0=>[]
 | m+1=>zdi ps rows rows' k m++((upN ps k m).map (znv ps rows rows')).toList
structure zcp (K:Frag)(CS:Addr)(H:Hp)(sh dx st p:Addr)(qs:List Addr)(ps:List Nat)(rows rows':List (List Int))(t rs:Addr)(as:List Addr)(k m:Nat):Prop where
 own:H dx=some (.own sh)
 ins:H sh=some (.ins CS dx [("kept",.ref st),("fulls",.ref p)])
 stand:zbF H st ps rows' t rs as
 full:FA K H p qs (ps.length+1) (stL ps rows rows' k m)
def zjt (ps:List Nat)(rows rows':List (List Int))(k m:Nat):Prop:=(∀ m' j,m' < m→upN ps k m'=some j→¬(zaR (zao ps rows j) (zao ps rows' j)=[]∧zaR (zao ps rows' j) (zao ps rows j)=[]))∧
 (upN ps k m=none∨∃ j,upN ps k m=some j∧zaR (zao ps rows j) (zao ps rows' j)=[]∧zaR (zao ps rows' j) (zao ps rows j)=[])
structure zsk (K:Frag)(H:Hp)(D:Addr)(Fr:Addr→Prop)(e:Tri Int (List En) (List En))(v:V):Prop where
 ex:∃(u g c:Addr) (gw cw:List V),v=.ref u∧H u=some (.tup [.int e.a,.ref g,.ref c])∧H g=some (.lst gw)∧zan K H e.b gw∧H c=some (.lst cw)∧zan K H e.c cw∧g≠D∧c≠D∧Fr g∧Fr c
def zbH (K:Frag)(H:Hp)(D:Addr)(Fr:Addr→Prop):List (Tri Int (List En) (List En))→List V→Prop:=Paired (zsk K H D Fr)
theorem zjE {R S:Tri Int (List En) (List En)→V→Prop}(h:∀ e v,R e v→S e v){es:List (Tri Int (List En) (List En))}{us:List V}(p:Paired R es us):Paired S es us:=by
 induction p with
 | nil=>exact .nil
 | cons a _ ih=>exact .cons (h _ _ a) ih
theorem zbH.keep {K:Frag}{H H':Hp}{D:Addr}{Fr:Addr→Prop}(k:∀ b o,b≠D→Fr b→H b=some o→H' b=some o)(tp:Tp H H'){es:List (Tri Int (List En) (List En))}{us:List V}(h:zbH K H D Fr es us):zbH K H' D Fr es us:=zjE (fun e v z=>by
 obtain ⟨u,g,c,gw,cw,e1,e2,e3,e4,e5,e6,n1,n2,n3,n4⟩:=z.ex;exact ⟨u,g,c,gw,cw,e1,tp _ _ e2,k _ _ n1 n3 e3,zbo tp e4,k _ _ n2 n4 e5,zbo tp e6,n1,n2,n3,n4⟩) h
theorem zbH.imp {K:Frag}{H:Hp}{D:Addr}{Fr Fr':Addr→Prop}(k:∀ b o,H b=some o→Fr b→Fr' b){es:List (Tri Int (List En) (List En))}{us:List V}(h:zbH K H D Fr es us):zbH K H D Fr' es us:=zjE (fun e v z=>by
 obtain ⟨u,g,c,gw,cw,e1,e2,e3,e4,e5,e6,n1,n2,n3,n4⟩:=z.ex;exact ⟨u,g,c,gw,cw,e1,e2,e3,e4,e5,e6,n1,n2,k _ _ e3 n3,k _ _ e5 n4⟩) h
theorem zbH.snoc {K:Frag}{H:Hp}{D:Addr}{Fr:Addr→Prop}{e:Tri Int (List En) (List En)}{v:V}{es:List (Tri Int (List En) (List En))}{us:List V}(h:zbH K H D Fr es us)(g:zsk K H D Fr e v):zbH K H D Fr (es++[e]) (us++[v]):=by
 induction h with
 | nil=>exact .cons g .nil
 | cons a _ ih=>exact .cons a ih
def zfS (K:Frag)(CS:Addr):Sp:=fun vs H Q _=>∃(sh dx st p g c:Addr) (gw cw:List V) (kn:Nat) (qs:List Addr) (ps:List Nat) (rows rows':List (List Int)) (t rs:Addr) (as:List Addr) (Fr:Addr→Prop),vs=[.ref sh,.int kn,.ref g,.ref c]∧zcp K CS H sh dx st p qs ps rows rows' t rs as kn 0∧
 kn < ps.length+1∧zfi kn rows rows'∧zaJ rows∧rows.length=ps.length+1∧zbP rows≤400∧H g=some (.lst gw)∧zan K H (zaR (zao ps rows kn) (zao ps rows' kn)) gw∧H c=some (.lst cw)∧zan K H (zaR (zao ps rows' kn) (zao ps rows kn)) cw∧Fr g∧Fr c∧g∉qs∧c∉qs∧¬Fr p∧(∀ b,H b=none→Fr b)∧
 ∀(D:Addr) (us:List V) (m:Nat) (qs':List Addr) (H':Hp),zjt ps rows rows' kn m→H D=none→(∀ q∈qs',q∈qs∨H q=none)→But p H H'→zaC K CS H' sh dx st p qs' ps rows' t rs as→H' D=some (.lst us)→zbH K H' D (fun b=>Fr b∧b∉qs') (zdi ps rows rows' kn m) us→Q (.ref D) H'
def upV:Option Nat→V
 | none=>.non
 | some j=>.int j
def Goes (ps:List Nat)(rows rows':List (List Int))(k m:Nat):Prop:=∀ m' j,m' < m→upN ps k m'=some j→¬(zaR (zao ps rows j) (zao ps rows' j)=[]∧zaR (zao ps rows' j) (zao ps rows j)=[])
structure CarI (K:Frag)(CS:Addr)(Fr:Addr→Prop)(H H2:Hp)(sh dx st p g c D:Addr)(gw cw us:List V)(qs qs':List Addr)(ps:List Nat)(rows rows':List (List Int))(t rs:Addr)(as:List Addr)(k m:Nat):Prop where
 half:zcp K CS H2 sh dx st p qs' ps rows rows' t rs as k m
 hg:H2 g=some (.lst gw)
 hc:H2 c=some (.lst cw)
 cur:∀ j,upN ps k m=some j→zan K H2 (zaR (zao ps rows j) (zao ps rows' j)) gw∧zan K H2 (zaR (zao ps rows' j) (zao ps rows j)) cw
 goes:Goes ps rows rows' k m
 hD:H2 D=some (.lst us)
 told:zbH K H2 D (fun b=>Fr b∧b∉qs') (zdi ps rows rows' k m) us
 gD:g≠D
 cD:c≠D
 gp:Fr g
 cp:Fr c
 gq:g∉qs'
 cq:c∉qs'
 nD:H D=none
 nqs:∀ q∈qs',q∈qs∨H q=none
 but:But p H H2
 dp:D≠p
 dqs:D∉qs'
theorem zcp.keep {K:Frag}{CS:Addr}{H H':Hp}{sh dx st p:Addr}{qs:List Addr}{ps:List Nat}{rows rows':List (List Int)}{t rs:Addr}{as:List Addr}{k m:Nat}{D:Addr}(S:zcp K CS H sh dx st p qs ps rows rows' t rs as k m)(kp:But D H H')(hD:∀ o,H D=some o→∃ us,o=.lst us)(dp:D≠p)(dq:D∉qs):zcp K CS H' sh dx st p qs ps rows rows' t rs as k m:=by
 have nl:∀{b:Addr} {o:HO},H b=some o→(∀ us,o≠.lst us)→H' b=some o:=fun {b o} e n=>kp b o (fun z=>by
  subst z;obtain ⟨us,z⟩:=hD _ e;exact n us z) e
 have tp:Tp H H':=fun b us e=>nl e (fun _ z=>nomatch z);refine ⟨nl S.own (fun _ z=>nomatch z),nl S.ins (fun _ z=>nomatch z),zb8 tp S.stand,kp _ _ dp.symm S.full.at_,S.full.len,S.full.nd,S.full.np,fun j q hq=>?_⟩;obtain ⟨ws,h1,h2⟩:=S.full.get j q hq;exact ⟨ws,kp _ _ (fun z=>dq (z ▸ yaJ hq)) h1,zbo tp h2⟩
theorem zhV {ps:List Nat}{rows rows':List (List Int)}{k:Nat}(T:zaD ps):∀ m:Nat,(zdi ps rows rows' k m).length≤m
 | 0=>yaa _
 | m+1=>by
  unfold zdi;rw[yas];have:=zhV (rows:=rows) (rows':=rows') (k:=k) T m;cases upN ps k m with
  | none=>exact Nat.le_succ_of_le this
  | some j=>exact Nat.succ_le_succ this
theorem zlZ (ps:List Nat)(j:Nat):parV ps j=upV (par ps j):=by
 unfold parV;cases par ps j <;> rfl
theorem zod (T:Txt K mg){CS:Addr}(O:OwnC K mg CS)(qaM:DM K CS "carry_up" "Shelf.carry_up" zby zaL)(qcu:FC P w K mg base 6 "handed" zdn (zg7 K))(qbj:FC P w K mg base 1 "joined_up" zb0 (zlG K))(qcT:FC P w K mg base 1 "without" zdF (zh0 K)):FM P w K mg base CS 7 "carry_up" zaL (zfS K CS):=by
 refine qaM.ok qao (fun vs H Q E h=>?_) (fun f cdv A outer s H vs Q E hr h=>?_)
 ·obtain ⟨sh,dx,st,p,g,c,gw,cw,kn,qs,ps,rows,rows',t,rs,as,Fr,rfl,_⟩:=h;rfl
 obtain ⟨sh,dx,st,p,g,c,gw,cw,kn,qs,ps,rows,rows',t,rs,as,Fr,rfl,S,hk,hB,R,hlen,hkeys,hg,hgw,hc,hcw,ngp,ncp,ngq,ncq,hFp,hF0,q⟩:=h;refine ⟨_,(zaA (zaq (i:=4) qao.nd rfl (Or.inl rfl) (za5 zab))
   (zaA (zhj PassesOwn.never (PW.pt (zia (zar zl5 (pv 1) ze9 (zaB _)) (zfX (zar zkI (zax zbt (zam zak rfl T.qaz boot_len (zaa (pv 2) zab)) (zam zak rfl T.qaz boot_len (zaa (pv 3) zab))) zag (zaB _))))) (zaA (zbp (zgz F.plainAttrs_list F.slot_list_append F.type_list_append zbO (pv 4) (zaa (zaQ (zaa (pv 1) (zaa (pv 2) (zaa (pv 3) zab)))) zab)))
   (zaA (zaq (i:=5) qao.nd rfl (Or.inl rfl) (zaw qcu hr (zaa (zaK zaX (zbl (pv 0) rfl) (pv 1) (fun _ _=>rfl)) zab)))
   (zaA (zfZ (zaw qbj hr (zaa (za5 (zaa (zaw qcT hr (zaa (zaK zaX (zbl (pv 0) rfl) (pv 1) (fun _ _=>rfl)) (zaa (pv 2) zab))) (zaa (pv 3) zab))) zab)) (zid (zbl (pv 0) rfl) (pv 1) zeg))
   (zaA (zaq (i:=6) qao.nd rfl (Or.inl rfl) (zaw qcu hr (zaa (zaK zaX (zbl (pv 0) rfl) (pv 1) (fun _ _=>rfl)) zab)))
   (zaA (zaq (i:=2) qao.nd rfl (Or.inl rfl) (zaw qcT hr (zaa (pv 5) (zaa (pv 6) zab))))
   (zaA (zaq (i:=3) qao.nd rfl (Or.inl rfl) (zaw qcT hr (zaa (pv 6) (zaa (pv 5) zab))))
   (zae (zaq (i:=1) qao.nd rfl (Or.inl rfl) (zaK zaM (zaK zaM (zbl (pv 0) rfl) zag (fun _ _=>rfl)) (pv 1) (fun _ _=>rfl)))))))))))
   (zae (zas (pv 4))))),?_⟩
 intro N0 n0;refine ⟨(by show 0≤sizeLine;decide),fun D hD=>n0 _ _ ?_⟩;intro Nw nw;have T':=S.stand.T;have R':=S.stand.R;have s0:=zaf hD (.lst []);refine zhN (fun σ H2=>∃(g c:Addr) (gw cw us:List V) (qs':List Addr) (m:Nat) (x5 x6:Option V),σ=[some (.ref sh),some (upV (upN ps kn m)),some (.ref g),some (.ref c),some (.ref D),x5,x6]∧CarI K CS Fr H H2 sh dx st p g c D gw cw us qs qs' ps rows rows' t rs as kn m)
  (fun σ H2=>∃(g c:Addr) (gw cw us:List V) (qs':List Addr) (m:Nat) (x5 x6:Option V),σ=[some (.ref sh),some (upV (upN ps kn m)),some (.ref g),some (.ref c),some (.ref D),x5,x6]∧CarI K CS Fr H H2 sh dx st p g c D gw cw us qs qs' ps rows rows' t rs as kn m∧(upN ps kn m=none∨∃ j,upN ps kn m=some j∧zaR (zao ps rows j) (zao ps rows' j)=[]∧zaR (zao ps rows' j) (zao ps rows j)=[]))
  (fun σ _=>match σ with | _::some (.int j)::_=>j.toNat+1 | _=>0) ?_ ?_ ?_ ?_
 ·refine ⟨g,c,gw,cw,[],qs,0,_,_,rfl,⟨s0 _ _ S.own,s0 _ _ S.ins,S.stand.same s0,S.full.ext s0.ext⟩,s0 _ _ hg,s0 _ _ hc,fun j e=>?_,fun m' j h=>absurd h (ybG _),zac,.nil,zad hg hD,zad hc hD,ngp,ncp,ngq,ncq,hD,fun q h=>.inl h,fun b o _ e=>s0 b o e,(fun z=>by rw[z,S.full.at_]at hD;cases hD),fun z=>?_⟩
  ·have:kn=j:=yad e;subst this;exact ⟨hgw.mono s0.ext,hcw.mono s0.ext⟩
  ·obtain ⟨j,hj,e⟩:=ya1 z;obtain ⟨ws,w1,_⟩:=S.full.get j D (by rw[yac hj,e]);rw[hD]at w1;cases w1
 ·rintro σ H2 ⟨g,c,gw,cw,us,qs',m,x5,x6,rfl,I⟩;cases eu:upN ps kn m with
  | none=>
   refine ⟨_,rfl,rfl,_,rfl,?_⟩;refine iteF ?_;refine iteF ?_;exact ⟨g,c,gw,cw,us,qs',m,x5,x6,by rw[eu],I,.inl eu⟩
  | some j=>
   refine ⟨_,rfl,rfl,_,rfl,?_⟩;refine iteT ?_;refine ⟨_,rfl,_,_,rfl,.inl (SqL.of I.hg),_,rfl,_,_,rfl,.inl (SqL.of I.hc),_,_,rfl,rfl,_,_,rfl,rfl,_,rfl,?_⟩;obtain ⟨cg,cc⟩:=I.cur j eu;have lg:=cg.length;have lc:=cc.length;refine ite2 (fun hpos=>?_) (fun hneg=>?_)
   ·have hmj:=zln T' eu;have hjn:=zhQ T' hk eu;have hfew:=S.stand.few;have hul:us.length≤m:=by
     have:=Paired.length I.told;have:=zhV (rows:=rows) (rows':=rows') (k:=kn) T' m;omega
    refine zsJ fun N B' R0 hN hB' hR'=>?_;intro N1 n1;refine ⟨_,rfl,.inl ⟨rfl,_,SqL.of I.hD⟩,?_⟩;refine ⟨_,rfl,_,rfl,_,rfl,(by show 3≤sizeLine;decide),fun u hu=>?_⟩;have su:=zaf hu (.tup [upV (some j),.ref g,.ref c]);have huT:upd H2 u (.tup [upV (some j),.ref g,.ref c]) u=some (.tup [.int (j:Int),.ref g,.ref c]):=zac;generalize upd H2 u (.tup [upV (some j),.ref g,.ref c])=H3 at su huT ⊢;refine ⟨_,_,_,rfl,rfl,su _ _ I.hD,zau (by omega),n1 _ _ ?_⟩;intro N2 n2;have hDq:∀ o,H3 D=some o→∃ us,o=.lst us:=fun o e=>⟨us,by rw[su _ _ I.hD]at e;exact (yad e).symm⟩;have k4:But D H3 (upd H3 D (.lst (us++[.ref u]))):=fun b o n e=>by rw[zaj n];exact e
    have S4:zcp K CS (upd H3 D (.lst (us++[.ref u]))) sh dx st p qs' ps rows rows' t rs as kn m:=zcp.keep ⟨su _ _ I.half.own,su _ _ I.half.ins,I.half.stand.same su,I.half.full.ext su.ext⟩ k4 hDq I.dp I.dqs;have tp4:Tp H3 (upd H3 D (.lst (us++[.ref u]))):=k4.tp fun us' z=>by rw[su _ _ I.hD]at z;cases z
    have tpS:Tp H2 H3:=fun b us e=>su _ _ e;have g4:=k4 _ _ I.gD (su _ _ I.hg);have c4:=k4 _ _ I.cD (su _ _ I.hc);have cg4:=zbo tp4 (zbo tpS cg);have cc4:=zbo tp4 (zbo tpS cc);have D4:upd H3 D (.lst (us++[.ref u])) D=some (.lst (us++[.ref u])):=zac;have t4:zbH K (upd H3 D (.lst (us++[.ref u]))) D (fun b=>Fr b∧b∉qs') (zdi ps rows rows' kn (m+1)) (us++[.ref u]):=by
     have e:zdi ps rows rows' kn (m+1)=zdi ps rows rows' kn m++[znv ps rows rows' j]:=by
      show _++((upN ps kn m).map (znv ps rows rows')).toList=_;rw[eu];rfl
     rw[e];refine zbH.snoc (zbH.keep (fun b o n1 _ e=>k4 b o n1 (su _ _ e)) (fun b us e=>tp4 _ _ (tpS _ _ e)) I.told) ⟨u,g,c,gw,cw,rfl,tp4 _ _ huT,g4,cg4,c4,cc4,I.gD,I.cD,⟨I.gp,I.gq⟩,⟨I.cp,I.cq⟩⟩
    have b4:But p H (upd H3 D (.lst (us++[.ref u]))):=fun b o n e=>k4 b o (zad e hD) (su _ _ (I.but b o n e));clear k4 hDq tp4;generalize upd H3 D (.lst (us++[.ref u]))=H4 at S4 g4 c4 cg4 cc4 D4 t4 b4 ⊢;obtain ⟨qj,ws,f1,f2,f3⟩:=S4.full.at hjn;rw[zpK T' eu]at f3;have hle:=zhG T' hlen hjn;have hle':=zhG T' S.stand.len hjn;have hk':=S.stand.keys;refine ⟨_,rfl,sh,CS,dx,_,_,rfl,S4.ins,O.cl,O.n_fulls,rfl,_,rfl,_,_,_,_,rfl,rfl,SqL.of S4.full.at_,zfg f1,qj,ws,_,rfl,f2,f3,by omega,zge T' R hfew hjn,zaO T' R hjn,fun B H5 hB5 s5 h5=>n2 _ _ ?_⟩;intro N3 n3;have hh5:zan K H5 (zcG (zao ps rows j)) (zcP ws (zeC (zao ps rows j))):=zfK (f3.mono s5.ext);have tp5:Tp H4 H5:=fun b us e=>s5 _ _ e;have S5:zcp K CS H5 sh dx st p qs' ps rows rows' t rs as kn m:=⟨s5 _ _ S4.own,s5 _ _ S4.ins,S4.stand.same s5,S4.full.ext s5.ext⟩;have ndg:(zaR (zao ps rows j) (zao ps rows' j)).Nodup:=zgR (zd9 T' R hjn);refine ⟨_,rfl,sh,CS,dx,_,_,rfl,S5.ins,O.cl,O.n_fulls,rfl,_,rfl,_,_,_,_,rfl,rfl,SqL.of S5.full.at_,zfg f1,_,rfl,qj,g,ws,gw,_,_,rfl,s5 _ _ f2,f3.mono s5.ext,by omega,s5 _ _ g4,cg4.mono s5.ext,?_,ndg,fun W ww H6 hW s6 h6 hw6=>?_⟩
    ·exact yaB (ya9 _ _) (by omega)
    refine ⟨_,rfl,(by show 2≤sizeLine;decide),fun L hL=>?_⟩;have s7:=zaf hL (.lst [.ref W,.ref c]);have c7:=s7 _ _ (s6 _ _ (s5 _ _ c4));have hL7:upd H6 L (.lst [.ref W,.ref c]) L=some (.lst ([W,c].map V.ref)):=zac;have W7:=s7 _ _ h6;have w7:=hw6.mono s7.ext;generalize upd H6 L (.lst [.ref W,.ref c])=H7 at s7 c7 hL7 W7 w7 ⊢;have s47:Same H4 H7:=s5.trans (s6.trans s7);have cl:(zaR (zao ps rows' j) (zao ps rows j)).length≤(zao ps rows' j).length:=ya9 _ _;have gl:(zaR (zao ps rows j) (zaR (zao ps rows j) (zao ps rows' j))).length≤(zao ps rows j).length:=ya9 _ _;refine ⟨L,[W,c],[zaR (zao ps rows j) (zaR (zao ps rows j) (zao ps rows' j)),zaR (zao ps rows' j) (zao ps rows j)],rfl,hL7,.cons ⟨ww,W7,w7⟩ (.cons ⟨cw,c7,cc4.mono s47.ext⟩ .nil),?_,fun J jw H8 hJ s8 h8 hw8=>?_⟩
    ·rw[ybJ,ybJ,List.flatten_nil,yay,yas];omega
    rw[ybJ,ybJ,List.flatten_nil,yay,← (zqi (zaO T' R hjn) (zaO T' R' hjn)).eq]at hw8;have s48:Same H4 H8:=s47.trans s8;have S8:zcp K CS H8 sh dx st p qs' ps rows rows' t rs as kn m:=⟨s48 _ _ S4.own,s48 _ _ S4.ins,S4.stand.same s48,S4.full.ext s48.ext⟩;refine ⟨_,rfl,sh,CS,dx,_,_,rfl,S8.ins,O.cl,O.n_fulls,rfl,_,rfl,p,_,_,j,rfl,rfl,S8.full.at_,zgb (by rw[yab,S8.full.len];exact hjn),n3 _ _ ?_⟩;intro N4 n4;have nn:∀{b:Addr},H7 b=none→H4 b=none:=fun {b} e=>by
     cases e4:H4 b with
     | none=>rfl
     | some o=>
      rw[s47 _ _ e4]at e;cases e
    have hJ4:=nn hJ;have hJp:J≠p:=fun z=>by rw[z,S4.full.at_]at hJ4;cases hJ4
    have hJq:J∉qs':=fun z=>by
     obtain ⟨i,hi,e⟩:=ya1 z;obtain ⟨ws,w1,_⟩:=S4.full.get i J (by rw[yac hi,e]);rw[hJ4]at w1;cases w1
    have hJD:D≠J:=fun z=>by rw[← z,D4]at hJ4;cases hJ4
    have hBp:B≠p:=fun z=>by rw[z,S4.full.at_]at hB5;cases hB5
    have F9:=S8.full.set (k:=j) h8 hw8 hJq hJp;have k9:But p H8 (upd H8 p (.lst ((qs'.map V.ref).set j (.ref J)))):=fun b o n e=>by rw[zaj n];exact e
    have tp9:Tp H8 (upd H8 p (.lst ((qs'.map V.ref).set j (.ref J)))):=k9.tp fun us' z=>by rw[S8.full.at_]at z;cases z
    have F9':FA K (upd H8 p (.lst ((qs'.map V.ref).set j (.ref J)))) p (qs'.set j J) (ps.length+1) (stL ps rows rows' kn (m+1)):=F9.congr fun i hi=>by
     show _=if upN ps kn m=some i then zao ps rows' i else stL ps rows rows' kn m i
     rw[eu];by_cases z:i=j
     ·rw[if_pos z,if_pos (by rw[z]),z]
     ·rw[if_neg z,if_neg (fun y=>z (yad y).symm)]
    have nlp:∀{b:Addr} {o:HO},H8 b=some o→(∀ us,o≠.lst us)→upd H8 p (.lst ((qs'.map V.ref).set j (.ref J))) b=some o:=fun {b o} e n=>k9 b o (fun z=>by
     rw[z,S8.full.at_]at e;exact n _ (yad e).symm) e
    have S9:zcp K CS (upd H8 p (.lst ((qs'.map V.ref).set j (.ref J)))) sh dx st p (qs'.set j J) ps rows rows' t rs as kn (m+1):=⟨nlp S8.own (fun _ z=>nomatch z),nlp S8.ins (fun _ z=>nomatch z),zb8 tp9 S8.stand,F9'⟩;have s58:Same H5 H8:=s6.trans (s7.trans s8);have B9:=k9 _ _ hBp (s58 _ _ h5);have hB9:=zbo tp9 (hh5.mono s58.ext);have J9:=k9 _ _ hJp h8;have hJ9:=zbo tp9 hw8;have D9:=k9 _ _ I.dp (s48 _ _ D4);have t4':=t4.imp (Fr':=fun b=>Fr b∧b∉qs'.set j J) fun b o e n=>⟨n.1,fun z=>by
     rcases ybK z with y | y
     ·exact n.2 y
     ·rw[y,hJ4]at e;cases e⟩
    have t9:=zbH.keep (fun b o _ n e=>k9 b o (fun z=>hFp (z ▸ n.1)) (s48 _ _ e)) (fun b us e=>tp9 _ _ (s48 _ _ e)) t4';have b9:But p H (upd H8 p (.lst ((qs'.map V.ref).set j (.ref J)))):=fun b o n e=>k9 b o n (s48 _ _ (b4 b o n e));clear k9 tp9 nlp F9 F9';generalize upd H8 p (.lst ((qs'.map V.ref).set j (.ref J)))=H9 at S9 B9 hB9 J9 hJ9 D9 t9 b9 ⊢;have fJ:(qs'.set j J)[j]?=some J:=by
     have:=I.half.full.len;rw[ybv,if_pos rfl,if_pos (by omega)]
    refine ⟨_,rfl,sh,CS,dx,_,_,rfl,S9.ins,O.cl,O.n_fulls,rfl,_,rfl,_,_,_,_,rfl,rfl,SqL.of S9.full.at_,zfg fJ,J,jw,_,rfl,J9,hJ9,by omega,zge T' R' hfew hjn,zaO T' R' hjn,fun A' H10 hA10 s10 h10=>n4 _ _ ?_⟩;intro N5 n5;have hh10:zan K H10 (zcG (zao ps rows' j)) (zcP jw (zeC (zao ps rows' j))):=zfK (hJ9.mono s10.ext);have hl1:=(za0 (zao ps rows j)).length_le;have hl2:=(za0 (zao ps rows' j)).length_le;have nd1:=(zd9 T' R hjn).sublist (za0 (zao ps rows j));have nd2:=(zd9 T' R' hjn).sublist (za0 (zao ps rows' j));refine ⟨_,rfl,_,rfl,B,A',_,_,_,_,rfl,s10 _ _ B9,hB9.mono s10.ext,by omega,h10,hh10,by omega,nd2,fun G gw' H11 hG s11 h11 hw11=>n5 _ _ ?_⟩;intro N6 n6;refine ⟨_,rfl,_,rfl,A',B,_,_,_,_,rfl,s11 _ _ h10,hh10.mono s11.ext,by omega,s11 _ _ (s10 _ _ B9),(hB9.mono s10.ext).mono s11.ext,by omega,nd1,fun C cw' H12 hC s12 h12 hw12=>n6 _ _ ?_⟩;have s92:Same H9 H12:=s10.trans (s11.trans s12);have S12:zcp K CS H12 sh dx st p (qs'.set j J) ps rows rows' t rs as kn (m+1):=⟨s92 _ _ S9.own,s92 _ _ S9.ins,S9.stand.same s92,S9.full.ext s92.ext⟩;refine ⟨_,rfl,sh,CS,dx,_,_,rfl,S12.ins,O.cl,O.n_kept,rfl,_,_,_,_,rfl,rfl,SqT.of S12.stand.st,rfl,_,rfl,_,_,_,_,rfl,rfl,SqT.of S12.stand.tr,zgp hjn,?_⟩;have tp92:Tp H9 H12:=fun b us e=>s92 _ _ e;have hnH:∀{b:Addr},H9 b=none→H b=none∨b=p:=fun {b} e=>by
     by_cases z:b=p
     ·exact .inr z
     ·refine .inl ?_;cases e4:H b with
      | none=>rfl
      | some o=>
       rw[b9 _ _ z e4]at e;cases e
    have nG:H9 G=none:=s10.free hG;have nC:H9 C=none:=s10.free (s11.free hC);have nqs:∀{b:Addr},H9 b=none→b∉qs'.set j J:=fun {b} e z=>by
     obtain ⟨i,hi,ei⟩:=ya1 z;obtain ⟨ws,w1,_⟩:=S9.full.get i b (by rw[yac hi,ei]);rw[e]at w1;cases w1
    refine hN _ _ ⟨⟨G,C,gw',cw',us++[.ref u],qs'.set j J,m+1,some (.ref B),some (.ref A'),?_,S12,s12 _ _ h11,h12,fun i hi=>?_,fun m' i hm' hi=>?_,s92 _ _ D9,zbH.keep (fun b o _ _ e=>s92 _ _ e) tp92 t9,?_,?_,?_,?_,nqs nG,nqs nC,hD,fun x hx=>?_,fun b o n e=>s92 _ _ (b9 b o n e),I.dp,fun z=>?_⟩,?_⟩
    ·rw[zjA eu,zlZ];rfl
    ·have L:=zmT T' R R' hk hB (zjB T' hk eu) ((zjA eu).symm.trans hi);rw[← L.gone,← L.come];exact ⟨hw11.mono s12.ext,hw12⟩
    ·rcases ybt m' m with y | y
     ·exact I.goes m' i y hi
     ·have:m'=m:=by omega
      subst this;rw[eu]at hi;have:=yad hi;subst this;rintro ⟨z1,z2⟩;rw[z1]at lg;rw[z2]at lc;have:(0:Int) < (gw.length:Int)+cw.length:=yaK hpos;rw[ybq]at lg lc;omega
    ·exact fun z=>by rw[z,D9]at nG;cases nG
    ·exact fun z=>by rw[z,D9]at nC;cases nC
    ·exact (hnH nG).elim (hF0 _) fun z=>by rw[z,S9.full.at_]at nG;cases nG
    ·exact (hnH nC).elim (hF0 _) fun z=>by rw[z,S9.full.at_]at nC;cases nC
    ·rcases ybK hx with y | y
     ·exact I.nqs x y
     ·rw[y];refine .inr ?_;cases e4:H J with
      | none=>rfl
      | some o=>
       rw[b4 _ _ hJp e4]at hJ4;cases hJ4
    ·rcases ybK z with y | y
     ·exact I.dqs y
     ·exact hJD y
    ·rw[zlZ];cases ep:par ps j with
     | none=>exact Nat.succ_pos _
     | some i=>
      have:=(zaU T' ep).1;show ((i:Int)).toNat+1 < ((j:Int)).toNat+1;omega
   ·have e0:gw.length=0∧cw.length=0:=by
     have:¬ (0:Int) < (gw.length:Int)+cw.length:=fun z=>hneg (yaj z);omega
    exact ⟨g,c,gw,cw,us,qs',m,x5,x6,by rw[eu],I,.inr ⟨j,eu,ycC.mp (by omega),ycC.mp (by omega)⟩⟩
 ·refine zlx (fun σ H Q Q' m h=>?_) (fun σ H Q Q' m h=>?_)
  ·obtain ⟨y1,e1,e3,b,e4,q⟩:=h;exact ⟨y1,e1,e3,b,e4,m _ _ q⟩
  ·obtain ⟨y1,e1,p1,z1,e2,e3,y2,e4,p2,z2,e5,e6,i1,j1,e7,e8,i2,j2,e9,e10,b,e11,q⟩:=h;exact ⟨y1,e1,p1,z1,e2,e3,y2,e4,p2,z2,e5,e6,i1,j1,e7,e8,i2,j2,e9,e10,b,e11,m _ _ q⟩
 ·rintro σ H2 ⟨g,c,gw,cw,us,qs',m,x5,x6,rfl,I,hm⟩;have hm':upN ps kn m=none∨∃ j,upN ps kn m=some j∧zao ps rows' j=zao ps rows j:=hm.imp id fun ⟨j,h1,h2,h3⟩=>⟨j,h1,zj9 (zaO T' R (zhQ T' hk h1)) (zaO T' R' (zhQ T' hk h1)) h2 h3⟩;refine nw _ _ ?_;refine ⟨_,rfl,?_⟩;exact q D us m qs' H2 ⟨I.goes,hm⟩ hD I.nqs I.but ⟨I.half.own,I.half.ins,I.half.stand,I.half.full.congr fun i hi=>zpJ T' R R' hk hB hm' hi⟩ I.hD I.told
def loN (row:List Int)(x:Int):Nat:=(row.filter fun y=>decide (y < x)).length
def putR (row:List Int)(x:Int):List Int:=row.take (loN row x)++[x]++row.drop (loN row x)
def outR (row:List Int)(x:Int):List Int:=row.take (loN row x)++row.drop (loN row x+1)
theorem zmv {x:Int}:∀{row:List Int},row.Pairwise (· < ·)→(∀ y∈row.take (loN row x),y < x)∧∀ y∈row.drop (loN row x),x≤y
 | [],_=>⟨(fun _ h=>by simp at h),fun _ h=>by simp at h⟩
 | a::r,h=>by
  obtain ⟨h1,h2⟩:=yb7.mp h;by_cases c:a < x
  ·have e:loN (a::r) x=loN r x+1:=by
    unfold loN;rw[ybw (p:=fun y=>decide (y < x)) (yaj c),yaI]
   obtain ⟨i1,i2⟩:=zmv (x:=x) h2;rw[e];refine ⟨fun y hy=>?_,fun y hy=>i2 y hy⟩;rcases yah.mp hy with z | z
   ·rw[z];exact c
   ·exact i1 y z
  ·have e:loN (a::r) x=0:=by
    unfold loN;rw[ybH.mpr,ybq];intro y hy z;have z:=yaK z;rcases yah.mp hy with w | w
    ·omega
    ·have:=h1 y w;omega
   rw[e];refine ⟨(fun y hy=>by simp at hy),fun y hy=>?_⟩;rcases yah.mp hy with w | w
   ·omega
   ·have:=h1 y w;omega
theorem ziS {row:List Int}{x y:Int}:y∈putR row x↔y∈row∨y=x:=by
 unfold putR;rw[yak,yak,yal];constructor
 ·rintro ((h | h) | h)
  ·exact .inl (ybC h)
  ·exact .inr h
  ·exact .inl (ybD h)
 ·rintro (h | h)
  ·rw[← yaO (loN row x) row]at h;rcases yak.mp h with h | h
   ·exact .inl (.inl h)
   ·exact .inr h
  ·exact .inl (.inr h)
theorem zpf {row:List Int}{x:Int}(h:row.Pairwise (· < ·))(n:x∉row):(putR row x).Pairwise (· < ·):=by
 obtain ⟨h1,h2⟩:=zmv (x:=x) h;have h3:∀ y∈row.drop (loN row x),x < y:=fun y hy=>by
  have:=h2 y hy;have:y≠x:=fun z=>n (z ▸ ybD hy);omega
 have hp:=h;rw[← yaO (loN row x) row]at hp;obtain ⟨p1,p2,_⟩:=yaF.mp hp;unfold putR;refine yaF.mpr ⟨yaF.mpr ⟨p1,ycB _ _,fun a ha b hb=>?_⟩,p2,fun a ha b hb=>?_⟩
 ·rw[yal.mp hb];exact h1 a ha
 ·have:=h3 b hb;rcases yak.mp ha with z | z
  ·have:=h1 a z;omega
  ·rw[yal.mp z];exact this
theorem zeT (row:List Int)(x:Int):(outR row x).Sublist row:=by
 unfold outR;have:(row.take (loN row x)++row.drop (loN row x+1)).Sublist (row.take (loN row x)++row.drop (loN row x)):=by
  refine List.Sublist.append (List.Sublist.refl _) ?_;rw[← ybB];exact yb5 _ _
 rwa[yaO]at this
theorem zl4 {row:List Int}{x y:Int}(h:row.Pairwise (· < ·))(hx:x∈row):y∈outR row x↔y∈row∧y≠x:=by
 obtain ⟨h1,h2⟩:=zmv (x:=x) h;have hd:∃ r,row.drop (loN row x)=x::r:=by
  have hm:x∈row.drop (loN row x):=by
   have hx':=hx;rw[← yaO (loN row x) row]at hx';rcases yak.mp hx' with z | z
   ·exact absurd (h1 x z) (by omega)
   ·exact z
  cases e:row.drop (loN row x) with
  | nil=>rw[e]at hm;cases hm
  | cons a r=>
   have ha:=h2 a (by rw[e];exact yaA);rw[e]at hm;rcases yah.mp hm with z | z
   ·exact ⟨r,by rw[z]⟩
   ·have hs:=h.sublist (yb5 (loN row x) row);rw[e]at hs;have:=(yb7.mp hs).1 x z;omega
 obtain ⟨r,hr⟩:=hd;have hr1:row.drop (loN row x+1)=r:=by
  rw[← ybB,hr];rfl
 have hs:=h.sublist (yb5 (loN row x) row);rw[hr]at hs;have hlt:=(yb7.mp hs).1;unfold outR;rw[yak,hr1];constructor
 ·rintro (z | z)
  ·exact ⟨ybC z,fun e=>absurd (h1 y z) (by omega)⟩
  ·refine ⟨ybD (by rw[hr];exact yau _ z),fun e=>?_⟩;have:=hlt y z;omega
 ·rintro ⟨z,n⟩;rw[← yaO (loN row x) row,hr]at z;rcases yak.mp z with z | z
  ·exact .inl z
  ·rcases yah.mp z with z | z
   ·exact absurd z n
   ·exact .inr z
section
variable {rows:List (List Int)}{kn:Nat}{x:Int}{r:List Int}
theorem zen (h:kn < rows.length):zal (rows.set kn r) kn=r:=by
 unfold zal;rw[yag,ybv,if_pos rfl,if_pos h];rfl
theorem zhK:zfi kn rows (rows.set kn r):=fun j n=>by
 unfold zal;rw[yag,ybv,if_neg (fun z=>n z.symm),yag]
theorem zcz {rows:List (List Int)}{k:Nat}{e:En}:e∈ownE rows k↔e.1∈zal rows k∧e.2=(k:Int):=by
 unfold ownE;rw[yax];constructor
 ·rintro ⟨y,hy,rfl⟩;exact ⟨hy,rfl⟩
 ·rintro ⟨h1,h2⟩;exact ⟨e.1,h1,by rw[← h2]⟩
theorem znI (h:kn < rows.length):zaR (ownE rows kn) (ownE (rows.set kn (putR (zal rows kn) x)) kn)=[]:=by
 refine ybH.mpr fun e he z=>?_;have z:=yaK z;obtain ⟨h1,h2⟩:=zcz.mp he;exact z (zcz.mpr ⟨by rw[zen h];exact ziS.mpr (.inl h1),h2⟩)
theorem znT (h:kn < rows.length):zaR (ownE (rows.set kn (outR (zal rows kn) x)) kn) (ownE rows kn)=[]:=by
 refine ybH.mpr fun e he z=>?_;have z:=yaK z;obtain ⟨h1,h2⟩:=zcz.mp he;rw[zen h]at h1;exact z (zcz.mpr ⟨(zeT _ _).mem h1,h2⟩)
theorem zj3 {l:List En}{e:En}(h:Rise l)(m:∀ f,f∈l↔f=e):l=[e]:=zfV h (ycB _ _) fun f=>by rw[m f,yal]
theorem znJ (h:kn < rows.length)(hup:(zal rows kn).Pairwise (· < ·))(hr:Rise (ownE (rows.set kn (putR (zal rows kn) x)) kn))(n:x∉zal rows kn):zaR (ownE (rows.set kn (putR (zal rows kn) x)) kn) (ownE rows kn)=[(x,(kn:Int))]:=by
 refine zj3 (hr.filter _) fun e=>?_;rw[zbg,zcz,zcz,zen h,ziS];constructor
 ·rintro ⟨⟨h1 | h1,h2⟩,h3⟩
  ·exact absurd ⟨h1,h2⟩ h3
  ·exact Prod.ext h1 h2
 ·rintro rfl;exact ⟨⟨.inr rfl,rfl⟩,fun z=>n z.1⟩
theorem znS (h:kn < rows.length)(hup:(zal rows kn).Pairwise (· < ·))(hr:Rise (ownE rows kn))(hx:x∈zal rows kn):zaR (ownE rows kn) (ownE (rows.set kn (outR (zal rows kn) x)) kn)=[(x,(kn:Int))]:=by
 refine zj3 (hr.filter _) fun e=>?_;rw[zbg,zcz,zcz,zen h,zl4 hup hx];constructor
 ·rintro ⟨⟨h1,h2⟩,h3⟩;exact Prod.ext (Classical.byContradiction fun z=>h3 ⟨⟨h1,z⟩,h2⟩) h2
 ·rintro rfl;exact ⟨⟨hx,rfl⟩,fun z=>z.1.2 rfl⟩
theorem zjS (R:zaJ rows)(hup:r.Pairwise (· < ·))(hk:∀ y∈r,-(10 ^ 60) < y∧y < 10 ^ 60):zaJ (rows.set kn r):=by
 refine ⟨fun row hrow=>?_,fun row hrow=>?_⟩
 ·rcases ybK hrow with z | z
  ·exact R.1 row z
  ·rw[z]
   first | exact hup | exact hk
 ·rcases ybK hrow with z | z
  ·exact R.2 row z
  ·rw[z]
   first | exact hup | exact hk
end
def zgW (x:Key):Prop:=∃ a:Int,x=.inl a∧-(10 ^ 60) < a∧a < 10 ^ 60
def toI:Key→Int
 | .inl a=>a
 | _=>0
theorem zpS {kvs:List (Key×V)}{x:Key}{v:V}(h1:(kvs.map (·.1)).Nodup)(h2:∀ y∈kvs.map (·.1),zgW y)(hx:zgW x):((putK kvs x v).map (·.1)).Nodup∧∀ y∈(putK kvs x v).map (·.1),zgW y:=by
 rw[zlV];split
 ·exact ⟨h1,h2⟩
 ·rename_i c;refine ⟨?_,fun y hy=>?_⟩
  ·rw[ya8];refine ⟨h1,yaS.mpr ⟨(fun z=>nomatch z),ybd⟩,fun a ha b hb z=>?_⟩;rw[yal.mp hb]at z;subst z;obtain ⟨p,hp,e⟩:=yax.mp ha;exact c (List.any_eq_true.mpr ⟨p,hp,yaj e⟩)
  ·rcases yak.mp hy with z | z
   ·exact h2 y z
   ·rw[yal.mp z];exact hx
theorem zff:∀{l:List Key},(∀ y∈l,zgW y)→l.map kV=(l.map toI).map V.int
 | [],_=>rfl
 | x::l,h=>by
  obtain ⟨a,rfl,_⟩:=h x yaA;show V.int a::l.map kV=V.int a::(l.map toI).map V.int;rw[zff fun y hy=>h y (yau _ hy)]
theorem zhW:∀{l:List Key},l.Nodup→(∀ y∈l,zgW y)→(l.map toI).Nodup
 | [],_,_=>ybd
 | x::l,hn,h=>by
  rw[yan,yaS];have hc:=yaS.mp hn;refine ⟨fun z=>?_,zhW hc.2 fun y hy=>h y (yau _ hy)⟩;obtain ⟨y,hy,e⟩:=yax.mp z;obtain ⟨a,rfl,_⟩:=h x yaA;obtain ⟨b,rfl,_⟩:=h y (yau _ hy);have:b=a:=e;subst this;exact hc.1 hy
def zq8 (K:Frag):Sp:=fun vs H Q _=>∃(d L:Addr) (m:Int),vs=[.ref d,.int m]∧(0≤m∧m≤40)∧LS K L d H∧
 ∀(a:Addr) (row:List Int) (H':Hp),H a=none→row.Pairwise (· < ·)→(∀ x∈row,-(10 ^ 60) < x∧x < 10 ^ 60)→(row.length:Int)≤m→H' a=some (.tup (row.map V.int))→Keep d H H'→LS K L d H'→Q (.ref a) H'
theorem zp6 (T:Txt K mg)(qeu:DF K mg "_law_row" zhc zfE)(qak:FC P w K mg base 2 "_law_take" zbq (ze8 K))(qcU:FC P w K mg base 3 "_law_key" zdJ (znC K)):FC P w K mg base 4 "_law_row" zfE (zq8 K):=by
 refine qeu.ok qdJ (fun vs H Q E h=>?_) (fun f cdv A outer s H vs Q E hr h=>?_)
 ·obtain ⟨d,L,m,rfl,_⟩:=h;rfl
 obtain ⟨d,L,m,rfl,⟨hm0,hm1⟩,hs,q⟩:=h;refine ⟨_,(zai (zaq (i:=2) qdJ.nd rfl (Or.inl rfl) zfG)
   (zai (zb1 PassesOwn.never rfl (zbs rfl T.qaF (zaa (zaw qak hr (zaa (pv 0) (zaa (zax zbt (pv 1) zag) zab))) zab)) (zay (i:=3) qdJ.nd rfl (Or.inl rfl)) (zae (zeS (zeF hr) (pv 2) (zaw qcU hr (zaa (pv 0) zab)) zdU rfl)))
   (zae (zas (zaW zaS rfl T.qaK boot_tuple (zaa (zam (zgV Int) rfl T.qct boot_sorted (zaa (zaW (zk7 rfl) rfl T.qbX boot_list (zaa (pv 2) zab)) zab)) zab)))))),?_⟩
 intro g hg;have ngd:g≠d:=fun z=>by
  obtain ⟨_,_,_,e,_⟩:=hs.ex;rw[← z,hg]at e;cases e
 refine ⟨_,rfl,_,rfl,_,_,rfl,rfl,d,L,m+1,rfl,⟨by omega,by omega⟩,hs.of_new hg _,fun n H1 n0 n1 k1 s1=>⟨_,rfl,by omega,by omega,?_⟩⟩;refine zbv (n:=n.toNat) (fun i σ H2=>∃(kvs:List (Key×V)) (x3:Option V),σ=[some (.ref d),some (.int m),some (.ref g),x3]∧H2 g=some (.dK kvs)∧kvs.length≤i∧(kvs.map (·.1)).Nodup∧(∀ y∈kvs.map (·.1),zgW y)∧(∀ b o,b≠d→b≠g→H b=some o→H2 b=some o)∧LS K L d H2) ?_ ?_ ?_
 ·exact ⟨[],_,rfl,k1 g _ ngd zac,yaa _,ybd,fun y hy=>(by simp at hy),fun b o b1 b2 e=>k1 b o b1 (by rw[zaj b2];exact e),s1⟩
 ·rintro i σ H2 hi ⟨kvs,x3,rfl,h2,hl,hn,hy,kk,s2⟩;refine ⟨_,rfl,_,rfl,d,L,rfl,s2,fun v H3 v0 v1 k3 s3=>?_⟩;have h3:H3 g=some (.dK kvs):=k3 g _ ngd h2;obtain ⟨p1,p2⟩:=zpS (v:=.bl true) hn hy (x:=.inl v) ⟨v,rfl,v0,v1⟩;refine ⟨g,_,rfl,DPut.k (k:=.inl v) (kvs:=kvs) h3 (zau (by omega)),?_⟩;refine ⟨putK kvs (.inl v) (.bl true),_,rfl,zac,?_,p1,p2,?_,?_⟩
  ·have:=zc9 kvs (Sum.inl v:Key) (.bl true);omega
  ·intro b o b1 b2 e;rw[zaj b2];exact k3 b o b1 (kk b o b1 b2 e)
  ·exact LS.put hs hg (fun b o b1 b2 e=>k3 b o b1 (kk b o b1 b2 e)) s3
 ·rintro σ H2 ⟨kvs,x3,rfl,h2,hl,hn,hy,kk,s2⟩;refine ⟨_,rfl,g,kvs,rfl,h2,fun l hl1=>?_⟩;have ei:kvs.map (fun kv=>kV kv.1)=((kvs.map (·.1)).map toI).map V.int:=by
   rw[← zff hy,ybl];rfl
  rw[ei];have e1:=zaf hl1 (.lst (((kvs.map (·.1)).map toI).map V.int));refine ⟨l,_,_,rfl,SqL.of zac,zan.ints,fun l2 ws hl2 hw=>?_⟩;rw[hw.toInts];have e2:=zaf hl2 (.lst ((zcY ((kvs.map (·.1)).map toI)).map V.int));refine ⟨l2,_,rfl,.inl ⟨SqL.of zac,fun a ha=>?_⟩⟩;have e3:=zaf ha (.tup ((zcY ((kvs.map (·.1)).map toI)).map V.int));have e13:=e1.trans (e2.trans e3);have free:H a=none:=by
   have z2:H2 a=none:=e1.free (e2.free ha);cases z:H a with
   | none=>rfl
   | some o=>
    by_cases c1:a=d
    ·obtain ⟨_,_,_,e,_⟩:=s2.ex;rw[← c1,z2]at e;cases e
    ·by_cases c2:a=g
     ·rw[c2,h2]at z2;cases z2
     ·rw[kk a o c1 c2 z]at z2;cases z2
  refine q a _ _ free ?_ (fun x hx=>?_) ?_ zac (fun b o b1 e=>e13 _ _ (kk b o b1 (zad e hg) e)) (s2.same e13)
  ·exact List.Pairwise.imp (fun {a b} (h:Srt.blt a b=true)=>yaK h) (zeP (zhW hn hy))
  ·rw[zee]at hx;obtain ⟨y,hy2,rfl⟩:=yax.mp hx;obtain ⟨a,rfl,h1,h2⟩:=hy y hy2;exact ⟨h1,h2⟩
  ·rw[zdl,yab,yab];omega
def zo4 (K:Frag):Sp:=fun vs H Q _=>∃(d L:Addr) (n m:Nat),vs=[.ref d,.int n,.int m]∧n≤40∧m≤40∧LS K L d H∧
 ∀(r:Addr) (as:List Addr) (rows:List (List Int)) (H':Hp),H r=none→zaN H' as rows→rows.length=n→zaJ rows→(∀ row∈rows,row.length≤m)→H' r=some (.tup (as.map V.ref))→Keep d H H'→LS K L d H'→Q (.ref r) H'
theorem zaJ.snoc {rows:List (List Int)}{row:List Int}(R:zaJ rows)(h1:row.Pairwise (· < ·))(h2:∀ x∈row,-(10 ^ 60) < x∧x < 10 ^ 60):zaJ (rows++[row]):=by
 refine ⟨fun r hr=>?_,fun r hr=>?_⟩
 ·rcases yak.mp hr with z | z
  ·exact R.up r z
  ·rw[yal.mp z];exact h1
 ·rcases yak.mp hr with z | z
  ·exact R.key r z
  ·rw[yal.mp z];exact h2
theorem zn4 (T:Txt K mg)(qd0:DF K mg "_law_rows" zfy zev)(qak:FC P w K mg base 2 "_law_take" zbq (ze8 K))(qgC:FC P w K mg base 4 "_law_row" zfE (zq8 K)):FC P w K mg base 5 "_law_rows" zev (zo4 K):=by
 refine qd0.ok qaY (fun vs H Q E h=>?_) (fun f cdv A outer s H vs Q E hr h=>?_)
 ·obtain ⟨d,L,n,m,rfl,_⟩:=h;rfl
 obtain ⟨d,L,n,m,rfl,hn,hm,hs,q⟩:=h;refine ⟨_,(zai (zaq (i:=3) qaY.nd rfl (Or.inl rfl) (za5 zab))
   (zai (zb1 PassesOwn.never rfl (zbs rfl T.qaF (zaa (pv 1) zab)) (zay (i:=4) qaY.nd rfl (Or.inl rfl)) (zai (zaq (i:=5) qaY.nd rfl (Or.inl rfl) (zaw qgC hr (zaa (pv 0) (zaa (pv 2) zab))))
   (zaz (zaP (zar zdV (zaw qak hr (zaa (pv 0) (zaa zag zab))) zag (zaB _)) (zae (zaq (i:=5) qaY.nd rfl (Or.inl rfl) (zaQ zab))) zav)
   (zaz (zaP (PW.pt (zia (zar zkI (pv 4) zag (zaB _)) (zfX (zar zdV (zaw qak hr (zaa (pv 0) (zaa zag zab))) zag (zaB _))))) (zae (zaq (i:=5) qaY.nd rfl (Or.inl rfl) (zaK zaX (pv 3) (zax zcM (pv 4) zag) (fun _ _=>rfl)))) zav)
   (zae (zbp (zgz F.plainAttrs_list F.slot_list_append F.type_list_append zbO (pv 3) (zaa (pv 5) zab))))))))
   (zae (zas (zaW zaS rfl T.qaK boot_tuple (zaa (pv 3) zab)))))),?_⟩
 refine ⟨(by show 0≤sizeLine;decide),fun p hp=>?_⟩;have g0:=zaf hp (.lst []);have ndT:∀{H':Hp} {a:Addr} {o:List V},LS K L d H'→H' a=some (.tup o)→a≠d:=fun {H' a o} s e z=>by
  obtain ⟨_,_,_,e2,_⟩:=s.ex;rw[← z,e]at e2;cases e2
 have nd:∀{H':Hp} {a:Addr},LS K L d H'→H' a=none→a≠d:=fun {H' a} s e z=>by
  obtain ⟨_,_,_,e2,_⟩:=s.ex;rw[← z,e]at e2;cases e2
 have hpd:p≠d:=nd hs hp;refine ⟨_,rfl,_,rfl,by omega,by omega,?_⟩;rw[ya6];refine zbv (n:=n) (fun i σ H2=>∃(as:List Addr) (rows:List (List Int)) (x4 x5:Option V),σ=[some (.ref d),some (.int n),some (.int m),some (.ref p),x4,x5]∧H2 p=some (.lst (as.map V.ref))∧zaN H2 as rows∧rows.length=i∧zaJ rows∧(∀ row∈rows,row.length≤m)∧(∀ b o,b≠d→b≠p→H b=some o→H2 b=some o)∧LS K L d H2) ?_ ?_ ?_
 ·exact ⟨[],[],_,_,rfl,zac,.nil,rfl,⟨(fun r hr=>nomatch hr),(fun r hr=>nomatch hr)⟩,(fun r hr=>nomatch hr),fun b o _ n e=>g0 b o e,hs.same g0⟩
 ·rintro i σ H2 hi ⟨as,rows,x4,x5,rfl,h2,hA,hl,hR,hlen,k2,s2⟩;rw[ybI];have hal:=hA.length;have old:∀{H3:Hp} {b:Addr} {o:HO},(∀ b o,b≠d→H2 b=some o→H3 b=some o)→b≠d→b≠p→H b=some o→H3 b=some o:=fun k n1 n2 e=>k _ _ n1 (k2 _ _ n1 n2 e);refine ⟨_,rfl,_,rfl,d,L,m,rfl,⟨by omega,by omega⟩,s2,fun a row H3 ha hup hky hlr h3 k3 s3=>?_⟩;refine ⟨fun σ' H'=>∃(a:Addr) (row:List Int),σ'=[some (.ref d),some (.int n),some (.int m),some (.ref p),some (.int i),some (.ref a)]∧H' a=some (.tup (row.map V.int))∧row.Pairwise (· < ·)∧(∀ x∈row,-(10 ^ 60) < x∧x < 10 ^ 60)∧row.length≤m∧(∀ b o,b≠d→H2 b=some o→H' b=some o)∧LS K L d H',?_,?_⟩
  ·refine ⟨_,rfl,d,L,4,rfl,by decide,s3,fun v H4 _ _ k4 s4=>⟨rfl,_,rfl,?_⟩⟩;have h4:=k4 _ _ (ndT s3 h3) h3;refine ite2 (fun _=>?_) (fun _=>?_)
   ·refine ⟨(by show 0≤sizeLine;decide),fun u hu=>?_⟩;have su:=zaf hu (.tup []);exact ⟨u,[],rfl,zac,.nil,(fun x hx=>nomatch hx),yaH _,fun b o n1 e=>su _ _ (k4 _ _ n1 (k3 _ _ n1 e)),s4.same su⟩
   ·exact ⟨a,row,rfl,h4,hup,hky,by omega,fun b o n1 e=>k4 _ _ n1 (k3 _ _ n1 e),s4⟩
  rintro σ' H4 ⟨a,row,rfl,h4,hup,hky,hlr,k4,s4⟩;refine ⟨fun σ' H'=>∃(a:Addr) (row:List Int),σ'=[some (.ref d),some (.int n),some (.int m),some (.ref p),some (.int i),some (.ref a)]∧H' a=some (.tup (row.map V.int))∧row.Pairwise (· < ·)∧(∀ x∈row,-(10 ^ 60) < x∧x < 10 ^ 60)∧row.length≤m∧(∀ b o,b≠d→H2 b=some o→H' b=some o)∧LS K L d H',?_,?_⟩
  ·refine ⟨_,rfl,_,_,rfl,rfl,_,rfl,?_⟩;refine ite2 (fun c=>?_) (fun c=>?_)
   ·have c':(0:Int) < (i:Int):=yaK c;refine ⟨_,rfl,d,L,4,rfl,by decide,s4,fun v H5 _ _ k5 s5=>⟨rfl,_,rfl,?_⟩⟩;have h5:=k5 _ _ (ndT s4 h4) h4;refine ite2 (fun _=>?_) (fun _=>?_)
    ·have h5p:H5 p=some (.lst (as.map V.ref)):=k5 _ _ hpd (k4 _ _ hpd h2);obtain ⟨b,hb1,hb2⟩:=hA.get (k:=i - 1) (by omega);have hb5:=k5 _ _ (ndT s4 (k4 _ _ (ndT s2 hb2) hb2)) (k4 _ _ (ndT s2 hb2) hb2);have hat:atI (as.map V.ref) ((i:Int) - 1)=some (.ref b):=by
      rw[show (i:Int) - 1=((i - 1:Nat):Int) by omega];exact zfg hb1
     refine ⟨_,rfl,_,rfl,_,_,rfl,rfl,_,_,_,_,rfl,rfl,SqL.of h5p,hat,?_⟩;have hmem:zal rows (i - 1)∈rows:=by
      unfold zal;rw[yag,yac (show i - 1 < rows.length by omega)];exact yaT _
     exact ⟨b,zal rows (i - 1),rfl,hb5,hR.up _ hmem,hR.key _ hmem,hlen _ hmem,fun b o n1 e=>k5 _ _ n1 (k4 _ _ n1 e),s5⟩
    ·exact ⟨a,row,rfl,h5,hup,hky,hlr,fun b o n1 e=>k5 _ _ n1 (k4 _ _ n1 e),s5⟩
   ·refine iteF ?_;exact ⟨a,row,rfl,h4,hup,hky,hlr,k4,s4⟩
  rintro σ' H5 ⟨a,row,rfl,h5,hup,hky,hlr,k5,s5⟩;have h5p:H5 p=some (.lst (as.map V.ref)):=k5 _ _ hpd h2;have keep:∀ b o,b≠p→H5 b=some o→upd H5 p (.lst (as.map V.ref++[.ref a])) b=some o:=fun b o n e=>by rw[zaj n];exact e
  have ntp:∀{b:Addr} {o:List V},H5 b=some (.tup o)→b≠p:=fun {b o} e z=>by
   rw[z,h5p]at e;cases e
  refine ⟨_,rfl,.inl ⟨rfl,_,SqL.of h5p⟩,_,rfl,_,_,_,rfl,rfl,h5p,zau (by rw[yab];omega),?_⟩;refine ⟨as++[a],rows++[row],_,_,rfl,?_,?_,by rw[yas,ybk,hl],hR.snoc hup hky,fun r hr=>?_,fun b o n1 n2 e=>keep _ _ n2 (k5 _ _ n1 (k2 _ _ n1 n2 e)),?_⟩
  ·rw[zac,yaw];rfl
  ·refine zaN.snoc ?_ (keep _ _ (ntp h5) h5);have hA5:zaN H5 as rows:=zaN.keep (p:=d) (fun a row e=>ndT s2 e) k5 hA;exact zaN.keep (p:=p) (d:=p) (fun a row e=>ntp e) keep hA5
  ·rcases yak.mp hr with z | z
   ·exact hlen r z
   ·rw[yal.mp z];exact hlr
  ·exact LS.put hs hp (fun b o n1 n2 e=>k5 _ _ n1 (k2 _ _ n1 n2 e)) s5
 ·rintro σ H2 ⟨as,rows,x4,x5,rfl,h2,hA,hl,hR,hlen,k2,s2⟩;refine ⟨_,rfl,p,_,rfl,.inl ⟨SqL.of h2,fun t ht=>?_⟩⟩;have sn:=zaf ht (.tup (as.map V.ref));have ht0:H t=none:=by
   cases e:H t with
   | none=>rfl
   | some o=>
    have:=k2 t o (nd s2 ht) (Ne.symm (zad h2 ht)) e;rw[ht]at this;cases this
  exact q t as rows _ ht0 (hA.ext sn) hl hR hlen zac (fun b o n e=>sn _ _ (k2 b o n (zad e hp) e)) (s2.same sn)
theorem zoP {ps:List Nat}:atI (zbT ps) 0=some .non:=by
 have h:=zgp (ps:=ps) (k:=0) (by omega);rw[zf1 rfl]at h;exact h
def zjH (K:Frag):Sp:=fun vs H Q _=>∃(t:Addr) (ps:List Nat),vs=[.ref t]∧H t=some (.tup (zbT ps))∧zaD ps∧ps.length≤39∧∀ H',Same H H'→Q (.ref t) H'
theorem zma (T:Txt K mg)(qcV:DF K mg "tree_of" zei zdG)(qav:FC P w K mg base 2 "is_one_of_first" zaE (ziQ K)):FC P w K mg base 3 "tree_of" zdG (zjH K):=by
 refine qcV.ok qdF (fun vs H Q E h=>?_) (fun f cdv A outer s H vs Q E hr h=>?_)
 ·obtain ⟨t,ps,rfl,_⟩:=h;rfl
 obtain ⟨t,ps,rfl,ht,hT,hz,q⟩:=h;refine ⟨_,(zaz (zaP (zde (zbZ (zam ze2 rfl T.qap boot_isinstance (zaa (pv 0) (zaa (zaQ (zaa (zc8 (v:=.ty "list") rfl T.qbX boot_list rfl) (zaa (zc8 (v:=.ty "tuple") rfl T.qaK boot_tuple rfl) zab))) zab))))) (zae zba) zav)
   (zaz (zaP (zde (znK znV znV zag (zam zak rfl T.qaz boot_len (zaa (pv 0) zab)) (zc7 rfl T.qbY))) (zae zba) zav)
   (zaz (zaP (zar zl5 (zaK zaM (pv 0) zag (fun _ _=>rfl)) ze9 (zaB _)) (zae zba) zav)
   (zai (zb1 PassesOwn.never rfl (zew rfl T.qaF (zaa zag (zaa (zam zak rfl T.qaz boot_len (zaa (pv 0) zab)) zab))) (zay (i:=1) qdF.nd rfl (Or.inl rfl)) (zae (zaP (zde (zbZ (zaw qav hr (zaa (pv 1) (zaa (zaK zaM (pv 0) (pv 1) (fun _ _=>rfl)) zab))))) (zae zba) zav)))
   (zae (zas (zaW zaS rfl T.qaK boot_tuple (zaa (pv 0) zab)))))))),?_⟩
 refine ⟨fun σ' H'=>σ'=[some (.ref t),none]∧Same H H',?_,?_⟩
 ·refine ⟨_,rfl,(by show 2≤sizeLine;decide),fun p hp=>?_⟩;have sp:=zaf hp (.tup [.ty "list",.ty "tuple"]);refine ⟨t,p,rfl,zac,.inr ⟨_,sp _ _ ht⟩,_,rfl,?_⟩;refine iteF ?_;exact ⟨rfl,sp⟩
 rintro σ' H1 ⟨rfl,s1⟩;have h1:=s1 _ _ ht;refine ⟨fun σ' H'=>σ'=[some (.ref t),none]∧H1=H',?_,?_⟩
 ·refine ⟨_,rfl,_,_,rfl,.inr (SqT.of h1),_,_,rfl,rfl,_,rfl,?_⟩;refine zql (by rw[zat];omega) ?_;refine ⟨_,_,rfl,rfl,_,rfl,?_⟩;rw[yaj (by rw[zat];omega)];refine iteF ?_;exact ⟨rfl,rfl⟩
 rintro σ' H' ⟨rfl,rfl⟩;refine ⟨fun σ' H'=>σ'=[some (.ref t),none]∧H1=H',?_,?_⟩
 ·refine ⟨_,rfl,_,_,_,_,rfl,rfl,SqT.of h1,zoP,rfl,_,rfl,?_⟩;refine iteF ?_;exact ⟨rfl,rfl⟩
 rintro σ' H' ⟨rfl,rfl⟩;refine ⟨_,rfl,_,_,rfl,.inr (SqT.of h1),1,_,rfl,⟨by omega,by omega,by rw[zat];omega,by rw[zat];omega⟩,?_⟩;have en:((((zbT ps).length:Nat):Int) - 1).toNat=ps.length:=by rw[zat];omega
 rw[en];refine zbv (n:=ps.length) (fun i σ H2=>∃ x1:Option V,σ=[some (.ref t),x1]∧H2=H1) ?_ ?_ ?_
 ·exact ⟨_,rfl,rfl⟩
 ·rintro i σ H2 hi ⟨x1,rfl,rfl⟩;have ek:(1:Int)+(i:Int)=((i+1:Nat):Int):=by omega
  rw[ek];obtain ⟨u,hu⟩:=zho (ps:=ps) (k:=i+1) (by omega) (by omega);have hlt:=(zaU hT hu).1;have hat:=zgp (ps:=ps) (k:=i+1) (by omega);rw[zex hu]at hat;refine ⟨_,rfl,_,rfl,_,rfl,_,_,_,_,rfl,rfl,SqT.of h1,hat,_,_,rfl,by omega,by omega,_,rfl,?_⟩;refine iteF ?_;exact ⟨_,rfl,rfl⟩
 ·rintro σ H2 ⟨x1,rfl,rfl⟩;refine ⟨_,rfl,t,_,rfl,.inr ⟨SqT.of h1,?_⟩⟩;exact q H2 s1
def zlC (K:Frag):Sp:=fun vs H Q _=>∃(a:Addr) (row:List Int),vs=[.ref a]∧H a=some (.tup (row.map V.int))∧row.Pairwise (· < ·)∧(∀ x∈row,-(10 ^ 60) < x∧x < 10 ^ 60)∧row.length≤900∧
 ∀(b:Addr) (H':Hp),H b=none→Same H H'→H' b=some (.tup (row.map V.int))→Q (.ref b) H'
theorem znY (T:Txt K mg)(qd1:DF K mg "row_of" zfs zeq)(qbu:FC P w K mg base 2 "is_key" zcL (zg6 K)):FC P w K mg base 3 "row_of" zeq (zlC K):=by
 refine qd1.ok qd7 (fun vs H Q E h=>?_) (fun f cdv A outer s H vs Q E hr h=>?_)
 ·obtain ⟨a,row,rfl,_⟩:=h;rfl
 obtain ⟨a,row,rfl,ha,hup,hky,hz,q⟩:=h;refine ⟨_,(zaz (zaP (zde (zbZ (zam ze2 rfl T.qap boot_isinstance (zaa (pv 0) (zaa (zaQ (zaa (zc8 (v:=.ty "list") rfl T.qbX boot_list rfl) (zaa (zc8 (v:=.ty "tuple") rfl T.qaK boot_tuple rfl) zab))) zab))))) (zae zba) zav)
   (zai (zb1 PassesOwn.never rfl (zf0 (pv 0)) (zay (i:=1) qd7.nd rfl (Or.inl rfl)) (zae (zaP (zde (zbZ (zaw qbu hr (zaa (pv 1) zab)))) (zae zba) zav)))
   (zaz (zaP (zar zhs (zam zk8 rfl T.qaz boot_len (zaa (zaW (znd rfl) rfl T.qgW boot_set (zaa (pv 0) zab)) zab)) (zam zak rfl T.qaz boot_len (zaa (pv 0) zab)) (zaB _)) (zae zba) zav)
   (zae (zas (zaW zaS rfl T.qaK boot_tuple (zaa (zam (zgU Int) rfl T.qct boot_sorted (zaa (pv 0) zab)) zab))))))),?_⟩
 refine ⟨fun σ' H'=>σ'=[some (.ref a),none]∧Same H H',?_,?_⟩
 ·refine ⟨_,rfl,(by show 2≤sizeLine;decide),fun p hp=>?_⟩;have sp:=zaf hp (.tup [.ty "list",.ty "tuple"]);refine ⟨a,p,rfl,zac,.inr ⟨_,sp _ _ ha⟩,_,rfl,?_⟩;refine iteF ?_;exact ⟨rfl,sp⟩
 rintro σ' H1 ⟨rfl,s1⟩;have h1:=s1 _ _ ha;refine ⟨_,rfl,a,rfl,⟨_,SqT.of h1⟩,?_⟩;refine zjd (xs:=row.map V.int) (fun i σ H2=>∃ x1:Option V,σ=[some (.ref a),x1]∧H2=H1) ?_ ?_ ?_ ?_
 ·exact ⟨_,rfl,rfl⟩
 ·rintro i σ H2 _ ⟨x1,rfl,rfl⟩;exact SqT.of h1
 ·rintro i x σ H2 hx ⟨x1,rfl,rfl⟩;rw[yaq]at hx;obtain ⟨y,hy,rfl⟩:=ybA.mp hx;have hb:=hky y (yaJ hy);refine ⟨_,rfl,_,true,rfl,.int y true ?_,_,rfl,?_⟩
  ·rw[yaj (by split <;> omega)]
  refine iteF ?_;exact ⟨_,rfl,rfl⟩
 ·rintro σ H2 ⟨x1,rfl,rfl⟩;have hnd:row.Nodup:=List.Pairwise.imp (fun {a b} (q:a < b)=>by omega) hup;refine ⟨fun σ' H'=>σ'=[some (.ref a),x1]∧Same H2 H',?_,?_⟩
  ·refine ⟨_,rfl,a,row,rfl,SqT.of h1,by omega,fun l hl=>?_⟩;have sl:=zaf hl (.set (fun k=>(metI row).any (· == k)) (metI row).length);refine ⟨l,_,_,rfl,zac,by rw[zgJ hnd];omega,_,rfl,_,_,rfl,.inr (SqT.of (sl _ _ h1)),_,_,rfl,rfl,_,rfl,?_⟩;refine zqm (by rw[zgJ hnd,yab];omega) ?_;exact ⟨rfl,sl⟩
  rintro σ' H3 ⟨rfl,s3⟩;have h3:=s3 _ _ h1;refine ⟨_,rfl,a,_,row,rfl,SqT.of h3,zan.ints,fun l ws hl hw=>?_⟩;rw[hw.toInts,zh7 (List.Pairwise.imp (fun {a b} (h:a < b)=>yaf (by omega)) hup)];have sl:=zaf hl (.lst (row.map V.int));refine ⟨l,_,rfl,.inl ⟨SqL.of zac,fun b hb=>?_⟩⟩;have sb:=zaf hb (.tup (row.map V.int));have s03:Same H H3:=s1.trans s3;exact q b _ (s03.free (sl.free hb)) (s03.trans (sl.trans sb)) zac
def zlb (H:Hp)(q:Addr)(n:Nat):Prop:=∃ xs,(H q=some (.lst xs)∨H q=some (.tup xs))∧xs.length=n
theorem znA (l:List Nat):(l.map fun n:Nat=>(n:Int)).sum=((l.sum:Nat):Int):=by
 induction l with
 | nil=>rfl
 | cons a l ih=>
  rw[yan,yaG,ih,yaG,Int.natCast_add]
def zjJ (K:Frag):Sp:=fun vs H Q _=>∃(a:Addr) (qs:List Addr) (ls:List Nat),vs=[.ref a]∧(H a=some (.lst (qs.map V.ref))∨H a=some (.tup (qs.map V.ref)))∧Paired (zlb H) qs ls∧ls.length≤900∧∀ H',Same H H'→Q (.int ((ls.sum:Nat):Int)) H'
theorem zp7 (T:Txt K mg)(qaT:DF K mg "long_together" zbJ zaY):FC P w K mg base 1 "long_together" zaY (zjJ K):=by
 refine qaT.ok qbZ (fun vs H Q E h=>?_) (fun f cdv A outer s H vs Q E hr h=>?_)
 ·obtain ⟨a,qs,ls,rfl,_⟩:=h;rfl
 obtain ⟨a,qs,ls,rfl,ha,hP,hz,q⟩:=h;have hl:=Paired.length hP;refine ⟨_,(zae (zas (zam (znc rfl) rfl T.qgX boot_sum (zaa (zb5 (N:=["each"]) (own:=1) (cap:=[]) rfl (zrp (pv 0)) ⟨rfl,rfl,rfl,rfl,rfl,rfl⟩ (fun _ _ _ _ _=>(zay (i:=0) (show List.Nodup (["each"]:List Str) by decide +kernel) rfl (Or.inl rfl))) (fun _ _ _ _ _=>zc2) (fun _ _ _ _ _=>(zam (zhI (K:=K)) rfl T.qaz boot_len (zaa (pv 0) zab)))) zab)))),?_⟩;have step:∀{D:Addr} (hD:H D=none) {i m:Nat} {x:V} {σ:L2.St} {H2:Hp} {fin:Nat→L2.St→Hp→Prop},(qs.map V.ref)[i]?=some x→i+m=(qs.map V.ref).length→(∀ b o,b≠D→H b=some o→H2 b=some o)→H2 D=some (.lst ((ls.take i).map nV))→∃ xs,(SqL K H2 (match x with | .ref q=>q | _=>0) xs∨SqT K H2 (match x with | .ref q=>q | _=>0) xs)∧(∃ q,x=.ref q)∧ls.take (i+1)=ls.take i++[xs.length]∧i < ls.length:=by
  intro D hD i m x σ H2 fin hx hm k2 h2;rw[yaq]at hx;obtain ⟨qq,hq,rfl⟩:=ybA.mp hx;obtain ⟨n,hn,hL⟩:∃ n,ls[i]?=some n∧zlb H qq n:=by
   have:∀{qs:List Addr} {ls:List Nat} {i:Nat},Paired (zlb H) qs ls→qs[i]?=some qq→∃ n,ls[i]?=some n∧zlb H qq n:=by
    intro qs ls i r
    induction r generalizing i with
    | nil=>intro h;simp at h
    | cons a _ ih=>
     intro h;cases i with
     | zero=>
      have e:=yad (show some _=some qq from h);subst e;exact ⟨_,rfl,a⟩
     | succ i=>
      obtain ⟨n,h1,h2⟩:=ih (i:=i) (by simpa using h);exact ⟨n,by simpa using h1,h2⟩
   exact this hP hq
  have hi:=(yap.mp hn).1;obtain ⟨xs,hxs,hxl⟩:=hL;refine ⟨xs,?_,⟨qq,rfl⟩,?_,hi⟩
  ·rcases hxs with hxs | hxs
   ·exact .inl (SqL.of (k2 _ _ (zad hxs hD) hxs))
   ·exact .inr (SqT.of (k2 _ _ (zad hxs hD) hxs))
  ·rw[yaU hi,(yap.mp hn).2,hxl]
 have end_:∀{D:Addr} {H2:Hp},H D=none→H2 D=some (.lst (ls.map nV))→But D H H2→(fun xs H Q=>∃(p:Addr) (ns:List Int),xs=[V.ref p]∧SqL K H p (ns.map V.int)∧Q (.int ns.sum) H) [V.ref D] H2 Q:=fun {D H2} hD h2 k2=>by
  refine ⟨D,ls.map fun n:Nat=>(n:Int),rfl,?_,?_⟩
  ·rw[ybl];exact SqL.of h2
  ·rw[znA];exact q H2 (fun b o e=>k2 b o (zad e hD) e)
 rcases ha with ha | ha
 ·refine ⟨_,rfl,a,rfl,.inl ⟨⟨_,SqL.of ha⟩,fun D hD=>?_⟩⟩;refine zcR (xs:=qs.map V.ref) (fun i σ H2=>∃ x0:Option V,σ=[x0]∧H2 D=some (.lst ((ls.take i).map nV))∧But D H H2) ?_ ?_ ?_ ?_
  ·exact ⟨_,rfl,zac,fun b o n e=>by rw[zaj n];exact e⟩
  ·rintro i σ H2 _ ⟨x0,rfl,_,k2⟩;exact k2.sq (SqL.of ha) hD
  ·rintro i m x σ H2 hx hm ⟨x0,rfl,h2,k2⟩;obtain ⟨xs,hS,⟨qq,rfl⟩,htk,hi⟩:=step hD (σ:=[x0]) (fin:=fun _ _ _=>True) hx hm k2 h2;rw[yab]at hm;refine zdZ ?_;refine ⟨_,rfl,qq,xs,rfl,hS,_,h2,zau (by rw[yab,yao];omega),m - 1,by omega,by rw[yab];omega,_,rfl,?_,fun b o n e=>by rw[zaj n];exact k2 b o n e⟩;rw[zac,htk,yaw];rfl
  ·rintro σ H2 ⟨x0,rfl,h2,k2⟩;rw[yab,yav (by omega)]at h2;exact end_ hD h2 k2
 ·refine ⟨_,rfl,a,rfl,.inr ⟨⟨_,SqT.of ha⟩,fun D hD=>?_⟩⟩;refine zeI (xs:=qs.map V.ref) (fun i σ H2=>∃ x0:Option V,σ=[x0]∧H2 D=some (.lst ((ls.take i).map nV))∧But D H H2) ?_ ?_ ?_ ?_
  ·exact ⟨_,rfl,zac,fun b o n e=>by rw[zaj n];exact e⟩
  ·rintro i σ H2 _ ⟨x0,rfl,_,k2⟩;exact SqT.of (k2 _ _ (zad ha hD) ha)
  ·rintro i m x σ H2 hx hm ⟨x0,rfl,h2,k2⟩;obtain ⟨xs,hS,⟨qq,rfl⟩,htk,hi⟩:=step hD (σ:=[x0]) (fin:=fun _ _ _=>True) hx hm k2 h2;rw[yab]at hm;refine zdZ ?_;refine ⟨_,rfl,qq,xs,rfl,hS,_,h2,zau (by rw[yab,yao];omega),m - 1,by omega,by rw[yab];omega,_,rfl,?_,fun b o n e=>by rw[zaj n];exact k2 b o n e⟩;rw[zac,htk,yaw];rfl
  ·rintro σ H2 ⟨x0,rfl,h2,k2⟩;rw[yab,yav (by omega)]at h2;exact end_ hD h2 k2
def zh2 (K:Frag):Sp:=fun vs H Q _=>∃(t r:Addr) (ps:List Nat) (rows:List (List Int)) (as:List Addr),vs=[.ref t,.ref r]∧H t=some (.tup (zbT ps))∧H r=some (.tup (as.map V.ref))∧zaN H as rows∧rows.length=ps.length+1∧zaD ps∧zaJ rows∧ps.length≤40∧zbP rows≤300∧
 ∀(st rs:Addr) (bs:List Addr) (H':Hp),H st=none→Same H H'→zbF H' st ps rows t rs bs→Q (.ref st) H'
theorem zaN.lens {H:Hp}:∀{as:List Addr} {rows:List (List Int)},zaN H as rows→Paired (zlb H) as (rows.map List.length)
 | _,_,.nil=>.nil
 | _,_,.cons h t=>.cons ⟨_,.inr h,by rw[yab]⟩ (zaN.lens t)
theorem zfI {rows:List (List Int)}{row:List Int}(h:row∈rows):row.length≤zbP rows:=by
 unfold zbP
 induction rows with
 | nil=>cases h
 | cons r rows ih=>
  rw[yan,yaG];rcases yah.mp h with e | e
  ·rw[e];omega
  ·have:=ih e;omega
theorem zkK (T:Txt K mg)(qbI:DF K mg "stand_of" zdA zc3)(qgc:FC P w K mg base 3 "row_of" zeq (zlC K))(qay:FC P w K mg base 1 "long_together" zaY (zjJ K)):FC P w K mg base 4 "stand_of" zc3 (zh2 K):=by
 refine qbI.ok qcw (fun vs H Q E h=>?_) (fun f cdv A outer s H vs Q E hr h=>?_)
 ·obtain ⟨t,r,ps,rows,as,rfl,_⟩:=h;rfl
 obtain ⟨t,r,ps,rows,as,rfl,ht,hr0,hA,hlen,hT,hR,hfew,hkeys,q⟩:=h;have hal:=hA.length;refine ⟨_,(zaz (zaP (zde (zbZ (zam ze2 rfl T.qap boot_isinstance (zaa (pv 1) (zaa (zaQ (zaa (zc8 (v:=.ty "list") rfl T.qbX boot_list rfl) (zaa (zc8 (v:=.ty "tuple") rfl T.qaK boot_tuple rfl) zab))) zab))))) (zae zba) zav)
   (zaz (zaP (zar znU (zam zak rfl T.qaz boot_len (zaa (pv 1) zab)) (zam zak rfl T.qaz boot_len (zaa (pv 0) zab)) (zaB _)) (zae zba) zav)
   (zai (zaq (i:=2) qcw.nd rfl (Or.inl rfl) (zaW zaS rfl T.qaK boot_tuple (zaa (zb5 (N:=["row"]) (own:=1) (cap:=[]) rfl (zf0 (pv 1)) ⟨rfl,rfl,rfl,rfl,rfl,rfl⟩ (fun _ _ _ _ _=>(zay (i:=0) (show List.Nodup (["row"]:List Str) by decide +kernel) rfl (Or.inl rfl))) (fun _ _ _ _ _=>zc2) (fun _ _ _ _ _=>(zaw qgc hr (zaa (pv 0) zab)))) zab)))
   (zaz (zaP (zar zkI (zaw qay hr (zaa (pv 2) zab)) (zc7 rfl T.qbh) (zaB _)) (zae zba) zav)
   (zae (zas (zaQ (zaa (pv 0) (zaa (pv 2) zab))))))))),?_⟩
 refine ⟨fun σ' H'=>σ'=[some (.ref t),some (.ref r),none]∧Same H H',?_,?_⟩
 ·refine ⟨_,rfl,(by show 2≤sizeLine;decide),fun p hp=>?_⟩;have sp:=zaf hp (.tup [.ty "list",.ty "tuple"]);refine ⟨r,p,rfl,zac,.inr ⟨_,sp _ _ hr0⟩,_,rfl,?_⟩;refine iteF ?_;exact ⟨rfl,sp⟩
 rintro σ' H1 ⟨rfl,s1⟩;have h1t:=s1 _ _ ht;have h1r:=s1 _ _ hr0;have A1:=hA.ext s1;refine ⟨fun σ' H'=>σ'=[some (.ref t),some (.ref r),none]∧H1=H',?_,?_⟩
 ·refine ⟨_,rfl,_,_,rfl,.inr (SqT.of h1r),_,rfl,_,_,rfl,.inr (SqT.of h1t),rfl,_,rfl,?_⟩;refine zil (by rw[yab,zat,hal,hlen]) ?_;exact ⟨rfl,rfl⟩
 rintro σ' H' ⟨rfl,rfl⟩;refine ⟨_,rfl,r,rfl,⟨_,SqT.of h1r⟩,fun D hD=>?_⟩;refine zeI (xs:=as.map V.ref) (fun i σ H2=>∃(bs:List Addr) (x0:Option V),σ=[x0]∧H2 D=some (.lst (bs.map V.ref))∧zaN H2 bs (rows.take i)∧But D H1 H2) ?_ ?_ ?_ ?_
 ·exact ⟨[],_,rfl,zac,.nil,fun b o n e=>by rw[zaj n];exact e⟩
 ·rintro i σ H2 _ ⟨bs,x0,rfl,_,_,k2⟩;exact SqT.of (k2 _ _ (zad h1r hD) h1r)
 ·rintro i m x σ H2 hx hm ⟨bs,x0,rfl,h2,hB,k2⟩;have hbl:=hB.length;rw[yao]at hbl;rw[yab]at hm;have hi:i < rows.length:=by
   have:=(yap.mp hx).1;rw[yab]at this;omega
  obtain ⟨b,hb1,hb2⟩:=A1.get hi;rw[yaq,hb1]at hx;have:=yad hx;subst this;have hmem:zal rows i∈rows:=by
   unfold zal;rw[yag,yac hi];exact yaT hi
  have hrl:=zfI hmem;have htk:rows.take (i+1)=rows.take i++[zal rows i]:=by
   rw[yaU hi];unfold zal;rw[yag,yac hi];rfl
  have h2b:=k2 _ _ (zad hb2 hD) hb2;refine zdZ ?_;refine ⟨_,rfl,b,zal rows i,rfl,h2b,hR.at_up i,hR.at_key i,by omega,fun c H3 hc s3 h3=>?_⟩;have h3D:=s3 _ _ h2;have ncD:∀{x:Addr} {o:List V},H3 x=some (.tup o)→x≠D:=fun {x o} e z=>by
   rw[z,h3D]at e;cases e
  have kD:∀ b o,b≠D→H3 b=some o→upd H3 D (.lst (bs.map V.ref++[.ref c])) b=some o:=fun b o n e=>by rw[zaj n];exact e
  refine ⟨_,h3D,zau (by rw[yab];omega),m - 1,by omega,by rw[yab];omega,bs++[c],_,rfl,?_,?_,fun b o n e=>kD _ _ n (s3 _ _ (k2 b o n e))⟩
  ·rw[zac,yaw];rfl
  ·rw[htk];exact zaN.snoc (zaN.keep (p:=D) (d:=D) (fun a row e=>ncD e) kD (hB.ext s3)) (kD _ _ (ncD h3) h3)
 rintro σ H2 ⟨bs,x0,rfl,h2,hB,k2⟩;rw[yab,yav (by omega)]at hB;have s2:Same H1 H2:=fun b o e=>k2 b o (zad e hD) e;refine ⟨D,_,rfl,.inl ⟨SqL.of h2,fun rs hrs=>?_⟩⟩;have s3:=zaf hrs (.tup (bs.map V.ref));have h3:upd H2 rs (.tup (bs.map V.ref)) rs=some (.tup (bs.map V.ref)):=zac;have s13:=s2.trans s3;have B3:=hB.ext s3;generalize upd H2 rs (.tup (bs.map V.ref))=H3 at s3 h3 s13 B3 ⊢;refine ⟨fun σ' H'=>σ'=[some (.ref t),some (.ref r),some (.ref rs)]∧Same H3 H',?_,?_⟩
 ·refine ⟨_,rfl,rs,bs,rows.map List.length,rfl,.inr h3,B3.lens,by rw[yab];omega,fun H4 s4=>?_⟩;have hk:(rows.map List.length).sum=zbP rows:=rfl;rw[hk];refine ⟨_,_,rfl,rfl,_,rfl,?_⟩;refine zqm (by omega) ?_;exact ⟨rfl,s4⟩
 rintro σ' H4 ⟨rfl,s4⟩;have s04:=s1.trans (s13.trans s4);refine ⟨_,rfl,_,rfl,(by show 2≤sizeLine;decide),fun st hst=>?_⟩;have ss:=zaf hst (.tup [.ref t,.ref rs]);exact q st rs bs _ (s04.free hst) (s04.trans ss) ⟨zac,ss _ _ (s04 _ _ ht),ss _ _ (s4 _ _ h3),(B3.ext s4).ext ss,hlen,hT,hR,hfew,by omega⟩
theorem zm8 (xs:List V)(a:Nat):cutV xs none (some (a:Int))=xs.take a:=by
 unfold cutV;rw[zcD,show HT.sIx xs.length 0 none=0 from rfl,ycc,Nat.sub_zero];by_cases h:a≤xs.length
 ·rw[ybs h]
 ·rw[ycp (by omega),yav (yaa _),yav (by omega)]
theorem zgi (xs:List V)(a:Nat):cutV xs (some (a:Int)) none=xs.drop a:=by
 unfold cutV;rw[zcD,show HT.sIx xs.length xs.length none=xs.length from rfl];by_cases h:a≤xs.length
 ·rw[ybs h,yav (by rw[yaN];exact yaa _)]
 ·rw[ycp (by omega),ya0 (yaa _),ya0 (show xs.length≤a by omega),List.take_nil]
theorem zlM {zs:List V}{k:Nat}{x:V}(h:k < zs.length):zs.set k x=zs.take k++[x]++zs.drop (k+1):=by
 rw[List.set_eq_take_append_cons_drop,if_pos h,yaM];rfl
def zh1 (K:Frag):Sp:=fun vs H Q _=>∃(st t rs:Addr) (zs:List V) (k:Nat) (x:V),vs=[.ref st,.int k,x]∧H st=some (.tup [.ref t,.ref rs])∧H rs=some (.tup zs)∧k < zs.length∧zs.length≤60∧
 ∀(st' rs':Addr) (H':Hp),Same H H'→H' st'=some (.tup [.ref t,.ref rs'])→H' rs'=some (.tup (zs.set k x))→Q (.ref st') H'
theorem zp0 (T:Txt K mg)(qbJ:DF K mg "with_row" zdz zbD):FC P w K mg base 1 "with_row" zbD (zh1 K):=by
 refine qbJ.ok qcx (fun vs H Q E h=>?_) (fun f cdv A outer s H vs Q E hr h=>?_)
 ·obtain ⟨st,t,rs,zs,k,x,rfl,_⟩:=h;rfl
 obtain ⟨st,t,rs,zs,k,x,rfl,hst,hrs,hk,hz,q⟩:=h;refine ⟨_,(zai (zaq (i:=3) qcx.nd rfl (Or.inl rfl) (zaK zaM (pv 0) zag (fun _ _=>rfl)))
   (zae (zas (zaQ (zaa (zaK zaM (pv 0) zag (fun _ _=>rfl)) (zaa (zax zf2 (zax zeU (zbB zcC (pv 3) zcE (zbL (pv 1))) (zaQ (zaa (pv 2) zab))) (zbB zcC (pv 3) (zbL (zax zbt (pv 1) zag)) zcE)) zab)))))),?_⟩
 refine ⟨_,rfl,_,_,_,_,rfl,rfl,SqT.of hst,rfl,?_⟩;refine ⟨_,rfl,_,_,_,_,rfl,rfl,SqT.of hst,rfl,?_⟩;refine ⟨_,rfl,_,rfl,_,rfl,rs,zs,rfl,SqT.of hrs,(fun z=>?_),fun _ p hp=>?_⟩
 ·have:=z.2;rw[zcD]at this;omega
 rw[zm8];have g1:=zaf hp (.tup (zs.take k));have w1:upd H p (.tup (zs.take k)) p=some (.tup (zs.take k)):=zac;generalize upd H p (.tup (zs.take k))=H1 at g1 w1 ⊢;refine ⟨_,rfl,(by show 1≤sizeLine;decide),fun m hm=>?_⟩;have g2:=zaf hm (.tup [x]);have w2:upd H1 m (.tup [x]) m=some (.tup [x]):=zac;have w12:=g2 _ _ w1;generalize upd H1 m (.tup [x])=H2 at g2 w2 w12 ⊢;have hl1:(zs.take k).length=k:=by rw[yao];omega
 have rest:∀(u:Addr) (H3:Hp),Same H2 H3→H3 u=some (.tup (zs.take k++[x]))→∀{Q':VK},(∀(v:Addr) (H':Hp),Same H3 H'→H' v=some (.tup (zs.set k x))→Q' (.ref v) H')→∀(p2:Addr) (H4:Hp),Same H3 H4→H4 p2=some (.tup (zs.drop (k+1)))→zpP K (.ref u) (.ref p2) H4 Q':=fun u H3 _ hu Q' q' p2 H4 s4 hp2=>by
  refine ⟨u,p2,_,_,rfl,rfl,SqT.of (s4 _ _ hu),SqT.of hp2,by simp,?_,fun z=>?_,fun z v hv=>?_⟩
  ·refine ya3 (zau ?_);rw[yas,hl1,yaN,ybk];omega
  ·refine q' u H4 s4 ?_;rw[zlM hk,z,yay];exact s4 _ _ hu
  ·refine q' v _ (s4.trans (zaf hv _)) ?_;rw[zac,zlM hk]
 have fin:∀(u:Addr) (H3:Hp),Same H2 H3→H3 u=some (.tup (zs.take k++[x]))→∀(v:Addr) (H':Hp),Same H3 H'→H' v=some (.tup (zs.set k x))→∀ p,H' p=none→Q (.ref p) (upd H' p (.tup [.ref t,.ref v])):=fun u H3 s3 _ v H' s' hv p hp=>by
  have gp:=zaf hp (.tup [.ref t,.ref v]);exact q p v _ (g1.trans (g2.trans (s3.trans (s'.trans gp)))) zac (gp _ _ hv)
 have e1k:(k:Int)+1=((k+1:Nat):Int):=by omega
 refine ⟨p,m,_,_,rfl,rfl,SqT.of w12,SqT.of w2,by simp,ya3 (zau (by rw[hl1];show k+1≤1000;omega)),fun z=>?_,fun z u hu=>?_⟩
 ·have e0:zs.take k++[x]=[x]:=by rw[z];rfl
  refine ⟨_,rfl,_,rfl,_,_,rfl,rfl,_,rfl,rs,zs,rfl,SqT.of (g2 _ _ (g1 _ _ hrs)),(fun z=>?_),fun _ p2 hp2=>?_⟩
  ·have:=z.1;rw[e1k,zcD]at this;omega
  rw[e1k,zgi];exact rest m H2 (fun _ _ e=>e) (by rw[e0];exact w2) (fun v H' s' hv=>⟨(by show 2≤sizeLine;decide),fin m H2 (fun _ _ e=>e) (by rw[e0];exact w2) v H' s' hv⟩) p2 _ (zaf hp2 _) zac
 ·have gu:=zaf hu (.tup (zs.take k++[x]));have wu:upd H2 u (.tup (zs.take k++[x])) u=some (.tup (zs.take k++[x])):=zac;generalize upd H2 u (.tup (zs.take k++[x]))=H3 at gu wu ⊢;refine ⟨_,rfl,_,rfl,_,_,rfl,rfl,_,rfl,rs,zs,rfl,SqT.of (gu _ _ (g2 _ _ (g1 _ _ hrs))),(fun z=>?_),fun _ p2 hp2=>?_⟩
  ·have:=z.1;rw[e1k,zcD]at this;omega
  rw[e1k,zgi];exact rest u H3 gu wu (fun v H' s' hv=>⟨(by show 2≤sizeLine;decide),fin u H3 gu wu v H' s' hv⟩) p2 _ (zaf hp2 _) zac
def zrc (P:Program)(w:World)(K:Frag)(mg:Str→Option Value)(base:Heap):Sp:=fun vs H Q _=>∃(n:Nat) (f:Addr) (ps:List Str) (sp:Sp) (b:Nat→Bool) (R:Hp→Prop),vs=[.int n,.ref f]∧FV P w K mg base 1 f ps sp∧R H∧
 (∀(i:Nat) (H1:Hp) (Q1:VK),i < n→R H1→(∀ H2,R H2→Q1 (.bl (b i)) H2)→sp [.int i] H1 Q1 E0)∧(∀ i j,i≤j→j < n→b j=true→b i=true)∧
 ∀(m:Nat) (H':Hp),m≤n→(∀ i,i < m→b i=true)→(∀ i,m≤i→i < n→b i=false)→R H'→Q (.int m) H'
def zqR:L2.St→Hp→Nat:=fun σ _=>match σ with
 | [_,_,some (.int lo),some (.int hi),_]=>(hi - lo).toNat
 | _=>0
theorem zrF (T:Txt K mg)(qaN:DF K mg "how_many_below" zbx zbm):FC P w K mg base 2 "how_many_below" zbm (zrc P w K mg base):=by
 refine qaN.ok qas (fun vs H Q E h=>?_) (fun f cdv A outer s H vs Q E hr h=>?_)
 ·obtain ⟨n,f,ps,sp,b,R,rfl,_⟩:=h;rfl
 obtain ⟨n,f,ps,sp,b,R,rfl,hF,hR,hask,hmono,q⟩:=h;refine ⟨_,(zai (zaq (i:=2) qas.nd rfl (Or.inl rfl) zag)
   (zai (zaq (i:=3) qas.nd rfl (Or.inl rfl) (pv 0))
   (zai (zhj PassesOwn.never (zar zhs (pv 2) (pv 3) (zaB _)) (zai (zaq (i:=4) qas.nd rfl (Or.inl rfl) (zax ziW (zax zbt (pv 2) (pv 3)) zag))
   (zae (zaP (zbZ (znQ (kr:=1) hr (pv 1) (zaa (pv 4) zab))) (zae (zaq (i:=2) qas.nd rfl (Or.inl rfl) (zax zbt (pv 4) zag))) (zae (zaq (i:=3) qas.nd rfl (Or.inl rfl) (pv 4)))))))
   (zae (zas (pv 2)))))),?_⟩
 refine ⟨_,rfl,?_⟩;refine zhN (fun σ H2=>∃(lo hi:Nat) (x4:Option V),σ=[some (.int n),some (.ref f),some (.int lo),some (.int hi),x4]∧lo≤hi∧hi≤n∧(∀ i,i < lo→b i=true)∧(∀ i,hi≤i→i < n→b i=false)∧R H2) (fun σ H2=>∃(lo:Nat) (x4:Option V),σ=[some (.int n),some (.ref f),some (.int lo),some (.int lo),x4]∧lo≤n∧(∀ i,i < lo→b i=true)∧(∀ i,lo≤i→i < n→b i=false)∧R H2) zqR ?_ ?_ ?_ ?_
 ·exact ⟨0,n,_,rfl,yaH _,yaa _,fun i h=>absurd h (ybG _),fun i h1 h2=>absurd h2 (Nat.not_lt.mpr h1),hR⟩
 ·rintro σ H2 ⟨lo,hi,x4,rfl,h1,h2,hb1,hb2,hR2⟩;refine ⟨_,rfl,_,rfl,_,_,rfl,rfl,_,rfl,?_⟩;refine ite2 (fun c=>?_) (fun c=>?_)
  ·have c1:(lo:Int) < (hi:Int):=yaK c;have em:((lo:Int)+(hi:Int)) / 2=(((lo+hi) / 2:Nat):Int):=by omega
   have m1:lo≤(lo+hi) / 2:=by omega
   have m2:(lo+hi) / 2 < hi:=by omega
   refine ⟨_,rfl,_,rfl,_,_,rfl,rfl,_,_,rfl,rfl,⟨by decide,by decide⟩,?_⟩;refine ⟨_,rfl,f,1,ps,sp,rfl,hF,yaa _,_,rfl,?_⟩;show sp [V.int (((lo:Int)+(hi:Int)) / 2)] H2 _ E0;rw[em];refine hask ((lo+hi) / 2) H2 _ (by omega) hR2 fun H3 hR3=>⟨_,rfl,?_⟩;cases hbm:b ((lo+hi) / 2) with
   | true=>
    refine iteT ?_;refine ⟨_,rfl,_,_,rfl,rfl,⟨(lo+hi) / 2+1,hi,some (V.int (((lo:Int)+(hi:Int)) / 2)),?_,by omega,h2,fun i hi'=>hmono i ((lo+hi) / 2) (by omega) (by omega) hbm,hb2,hR3⟩,?_⟩
    ·show [some (V.int n),some (V.ref f),some (V.int (((lo:Int)+(hi:Int)) / 2+1)),some (V.int hi),some (V.int (((lo:Int)+(hi:Int)) / 2))]=_;rw[em,Int.natCast_add];rfl
    ·show ((hi:Int) - (((lo:Int)+(hi:Int)) / 2+1)).toNat < ((hi:Int) - (lo:Int)).toNat;omega
   | false=>
    refine iteF ?_;refine ⟨_,rfl,⟨lo,(lo+hi) / 2,some (V.int (((lo:Int)+(hi:Int)) / 2)),?_,m1,by omega,hb1,fun i hi' hin=>?_,hR3⟩,?_⟩
    ·show [some (V.int n),some (V.ref f),some (V.int lo),some (V.int (((lo:Int)+(hi:Int)) / 2)),some (V.int (((lo:Int)+(hi:Int)) / 2))]=_;rw[em]
    ·cases hbi:b i with
     | false=>rfl
     | true=>
      have:=hmono ((lo+hi) / 2) i hi' hin hbi;rw[hbm]at this;cases this
    ·show ((((lo:Int)+(hi:Int)) / 2) - (lo:Int)).toNat < ((hi:Int) - (lo:Int)).toNat;omega
  ·have c1:¬ (lo:Int) < (hi:Int):=of_decide_eq_false (ybT.mpr c);have e:hi=lo:=by omega
   subst e;exact ⟨hi,_,rfl,h2,hb1,hb2,hR2⟩
 ·intro σ H Q Q' m h;obtain ⟨y1,e3,y2,e4,i2,j2,f2,g2,b2,e5,q⟩:=h;exact ⟨y1,e3,y2,e4,i2,j2,f2,g2,b2,e5,m _ _ q⟩
 rintro σ H2 ⟨lo,x4,rfl,h2,hb1,hb2,hR2⟩;refine ⟨_,rfl,?_⟩;exact q lo H2 h2 hb1 hb2 hR2
def zeJ (row:List Int)(key:Int):Nat:=(row.filter fun x=>decide (x < key)).length
theorem zoO {row:List Int}{key:Int}{m:Nat}(hm:m≤row.length)(h1:∀ i,i < m→decide (row.getD i 0 < key)=true)(h2:∀ i,m≤i→i < row.length→decide (row.getD i 0 < key)=false):zeJ row key=m:=by
 unfold zeJ
 conv=>lhs;rw[← yaO m row]
 rw[ybg,yas];have e1:(row.take m).filter (fun x=>decide (x < key))=row.take m:=by
  rw[List.filter_eq_self];intro x hx;obtain ⟨i,hi,rfl⟩:=ya1 hx;rw[yao]at hi;have:=h1 i (by omega);rw[yag,yac (by omega)]at this;rw[List.getElem_take];exact this
 have e2:(row.drop m).filter (fun x=>decide (x < key))=[]:=by
  rw[ybH];intro x hx;obtain ⟨i,hi,rfl⟩:=ya1 hx;rw[yaN]at hi;have:=h2 (m+i) (by omega) (by omega);rw[yag,yac (by omega)]at this;rw[List.getElem_drop];intro z;rw[show decide (row[m+i] < key)=false from this]at z;cases z
 rw[e1,e2,yao,ybq];omega
abbrev lamQ:Str:=(envOfC ("place" : Str) (zah zeQ) 0 0 .none).qual ++ "<lambda>"
abbrev zdf:Pos:=⟨56,36,56,60⟩
def zfR (K:Frag)(mp:Addr):Sp:=fun vs H Q _=>∃(r:Addr) (row:List Int) (key:Int),vs=[.ref r,.int key]∧H r=some (.tup (row.map V.int))∧row.Pairwise (· < ·)∧zbh H mp zdf lamQ∧
 ∀ H':Hp,Gro mp H H'→zbh H' mp zdf lamQ→Q (.int (zeJ row key:Nat)) H'
theorem znZ (T:Txt K mg){mc mp:Addr}(qd2:DFT K mg "place" zeQ zc4 mc mp)(hBM:BMAt mg base)(qb7:∀ base,FC P w K mg base 2 "how_many_below" zbm (zrc P w K mg base)):FC P w K mg base 3 "place" zc4 (zfR K mp):=by
 refine qd2.ok qfZ (fun vs H Q E h=>?_) (fun f A outer s H vs Q E hr h=>?_)
 ·obtain ⟨r,row,key,rfl,_⟩:=h;rfl
 obtain ⟨r,row,key,rfl,h0,hup,hT,q⟩:=h;refine ⟨_,(zae (zas (zkD (kf:=0) qb7 hr (zam zak rfl T.qaz boot_len (zaa (pv 0) zab)) (zrU (osc:=zah zeQ) (N:=["row","key"]) (ps:=["at"]) (caps:=["key","row"]) (cap:=[1,0]) ⟨rfl,rfl,rfl,by decide +kernel,by decide +kernel,by decide +kernel,by decide +kernel⟩ (by decide +kernel) (by decide +kernel) rfl rfl rfl rfl (fun _ _ _ _ us hl=>match us,hl with | [_],_=>rfl) (fun _=>rfl)) rfl qd2.hd hBM (fun _ _ _ _ _ _ _ _ _=>(zhn zhs (zaK (zmG (K:=K)) (pv 2) (pv 0) (fun _ _=>rfl)) (pv 1) (zaB _)))))),?_⟩
 refine ⟨_,rfl,_,_,rfl,.inr (SqT.of h0),hT,[.int key,.ref r],rfl,?_,fun base f c' H2 hg hT2 hC hV=>?_⟩
 ·intro j i v h1 h2;rcases j with _ | _ | j
  ·cases h1;cases h2;rfl
  ·cases h1;cases h2;rfl
  ·cases h1
 have nmp:r≠mp:=fun z=>by
  obtain ⟨tab,e,_⟩:=hT.ex;rw[← z,h0]at e;cases e
 have h2r:=hg _ _ nmp h0;rw[yab];refine ⟨row.length,f,_,_,fun i=>decide (row.getD i 0 < key),fun H'=>H'=H2,rfl,hV,rfl,fun i H1 Q1 hi hR hQ=>?_,fun i j hij hj hb=>?_,fun m H' hm hb1 hb2 hR=>?_⟩
 ·subst hR;refine ⟨rfl,hC,?_⟩;have hat:atI (row.map V.int) ((i:Nat):Int)=some (.int (row.getD i 0)):=zdw (by rw[yaq,yac hi,yag,yac hi];rfl);refine ⟨_,rfl,_,rfl,_,_,_,_,rfl,rfl,SqT.of h2r,hat,_,rfl,_,_,rfl,rfl,?_⟩;exact hQ _ rfl
 ·refine yaj ?_;have hb:=yaK hb;by_cases e:i=j
  ·subst e;exact hb
  ·have:=ybe.mp hup i j (by omega) hj (by omega);rw[yag,yac (by omega)]at hb ⊢;exact Int.lt_trans this hb
 ·subst hR;have e:=zoO hm hb1 hb2;have q2:=q _ hg hT2;rw[e]at q2;exact q2
theorem zfH {r:List Int}:∀{rows:List (List Int)} {kn:Nat},kn < rows.length→zbP (rows.set kn r)+(zal rows kn).length=zbP rows+r.length
 | [],_,h=>absurd h (ybG _)
 | a::rows,0,_=>by
  unfold zbP;rw[List.set_cons_zero,yan,yaG,yan,yaG];show r.length+_+a.length=_;omega
 | a::rows,kn+1,h=>by
  have ih:=zfH (r:=r) (rows:=rows) (kn:=kn) (Nat.lt_of_succ_lt_succ h);unfold zbP at ih ⊢;rw[List.set_cons_succ,yan,yaG,yan,yaG];have e:zal (a::rows) (kn+1)=zal rows kn:=rfl;rw[e];omega
theorem zeW (n:Int)(xs:List Int):inV (.int n) (xs.map V.int)=decide (n∈xs):=by
 unfold inV
 induction xs with
 | nil=>rfl
 | cons x xs ih=>
  rw[yan,ybc,ih];show (x == n || decide (n∈xs))=decide (n∈x::xs);by_cases h:x=n
  ·subst h;simp
  ·have h2:¬ n=x:=fun z=>h z.symm;simp[h,h2]
theorem zfU {H:Hp}:∀{as:List Addr} {rows:List (List Int)},zaN H as rows→Paired (zlb H) as (rows.map List.length)
 | _,_,.nil=>.nil
 | _,_,.cons h t=>.cons ⟨_,.inr h,by rw[yab]⟩ (zfU t)
section
variable {K:Frag}{H:Hp}{a b:Addr}{xs ys:List V}{n:Nat}{Q:VK}
theorem zpc (h:H a=some (.tup xs))(q:∀ v H',Same H H'→H' v=some (.tup (xs.take n))→Q (.ref v) H'):rSlX K (.ref a) none (some (n:Int)) H Q:=
 ⟨a,xs,rfl,SqT.of h,fun z=>q a H (fun _ _ e=>e) (by
  have:=z.2;rw[zcD]at this;rw[yav (by omega)];exact h),fun _ p hp=>q p _ (zaf hp _) (by rw[zac,zm8])⟩
theorem zjP (h:H a=some (.tup xs))(q:∀ v H',Same H H'→H' v=some (.tup (xs.drop n))→Q (.ref v) H'):rSlX K (.ref a) (some (n:Int)) none H Q:=
 ⟨a,xs,rfl,SqT.of h,fun z=>q a H (fun _ _ e=>e) (by
  have:=z.1;rw[zcD]at this;have e:xs.drop n=xs:=by
   rcases Nat.eq_zero_or_pos n with y | y
   ·rw[y];rfl
   ·have:xs=[]:=ycC.mp (by omega);rw[this];exact List.drop_nil
  rw[e];exact h),fun _ p hp=>q p _ (zaf hp _) (by rw[zac,zgi])⟩
theorem zkl (ha:H a=some (.tup xs))(hb:H b=some (.tup ys))(hy:ys≠[])(hl:xs.length+ys.length≤sizeLine)(q:∀ v H',Same H H'→H' v=some (.tup (xs++ys))→Q (.ref v) H'):zrk K (.ref a) (.ref b) H Q:=
 ⟨a,b,xs,ys,rfl,rfl,SqT.of ha,SqT.of hb,hy,hl,fun z=>q b H (fun _ _ e=>e) (by rw[z];exact hb),fun _ p hp=>q p _ (zaf hp _) zac⟩
theorem zoK (ha:H a=some (.tup xs))(hb:H b=some (.tup ys))(hx:xs≠[])(hl:xs.length+ys.length≤sizeLine)(q:∀ v H',Same H H'→H' v=some (.tup (xs++ys))→Q (.ref v) H'):zpP K (.ref a) (.ref b) H Q:=
 ⟨a,b,xs,ys,rfl,rfl,SqT.of ha,SqT.of hb,hx,hl,fun z=>q a H (fun _ _ e=>e) (by rw[z,yay];exact ha),fun _ p hp=>q p _ (zaf hp _) zac⟩
end
theorem zd4 {H:Hp}{v:Addr}{r:List Int}(hv:H v=some (.tup (r.map V.int))):∀{as:List Addr} {rows:List (List Int)} (kn:Nat),zaN H as rows→zaN H (as.set kn v) (rows.set kn r)
 | _,_,_,.nil=>.nil
 | _,_,0,.cons _ t=>.cons hv t
 | _,_,kn+1,.cons h t=>.cons h (zd4 hv kn t)
theorem zlU {row:List Int}{x:Int}:(putR row x).length=row.length+1:=by
 unfold putR;rw[yas,yas,yao,yaN];have:loN row x≤row.length:=ya9 _ _;show _+1+_=_;omega
theorem ziK {H H':Hp}{Pt b:Addr}{pos:Pos}{q:Str}(x:zbh H Pt pos q)(k:But b H H')(h1:∀ tab,H b≠some (.tbl tab))(h2:∀ f,H b≠some (.ext f)):zbh H' Pt pos q:=by
 obtain ⟨tab,e1,e2,e3⟩:=x.ex;refine ⟨tab,k _ _ (fun z=>h1 tab (z ▸ e1)) e1,e2,?_⟩;rcases e3 with e3 | ⟨c,e3,e4⟩
 ·exact .inl e3
 ·exact .inr ⟨c,e3,k _ _ (fun z=>h2 _ (z ▸ (show H c=_ from e4))) e4⟩
theorem zie {r:List (List Int)}(Q:zaJ r)(k:Nat):Rise (ownE r k):=by
 unfold ownE;exact List.Pairwise.map _ (R:=fun a b:Int=>a < b) (fun a b (h:a < b)=>zcF.mpr (.inl h)) (Q.at_up k)
def Kd (sh p mp:Addr)(H H':Hp):Prop:=∀ b o,b≠sh→b≠p→b≠mp→H b=some o→H' b=some o
def zjM (K:Frag)(CS mp:Addr)(f:List Int→Int→List Int)(ok:List (List Int)→Nat→Int→Prop):Sp:=fun vs H Q _=>∃(sh dx st p:Addr) (kn:Nat) (x:Int) (qs:List Addr) (ps:List Nat) (rows:List (List Int)) (t rs:Addr) (as:List Addr),vs=[.ref sh,.int kn,.int x]∧zaC K CS H sh dx st p qs ps rows t rs as∧kn < ps.length+1∧zgt x∧ok rows kn x∧zbh H mp zdf lamQ∧
 ∀(D:Addr) (us:List V) (m:Nat) (qs':List Addr) (st' rs':Addr) (as':List Addr) (H':Hp),zjt ps rows (rows.set kn (f (zal rows kn) x)) kn m→H D=none→(∀ q∈qs',q∈qs∨H q=none)→Kd sh p mp H H'→zaC K CS H' sh dx st' p qs' ps (rows.set kn (f (zal rows kn) x)) t rs' as'→zbh H' mp zdf lamQ→H' D=some (.lst us)→
  zbH K H' D (fun b=>H b=none∧b∉qs') (zdi ps rows (rows.set kn (f (zal rows kn) x)) kn m) us→Q (.ref D) H'
def zqb (rows:List (List Int))(kn:Nat)(x:Int):Prop:=x∉zal rows kn∧zbP rows < 300
def zqc (rows:List (List Int))(kn:Nat)(x:Int):Prop:=x∈zal rows kn
theorem ziu {K:Frag}{mp CS:Addr}{H H2 H8:Hp}{sh dx st p st' rs' v7 t rs:Addr}{qs as:List Addr}{ps:List Nat}{rows:List (List Int)}{kn:Nat}{r:List Int}(S:zaC K CS H sh dx st p qs ps rows t rs as)(S2:zaC K CS H2 sh dx st p qs ps rows t rs as)(hT2:zbh H2 mp zdf lamQ)
  (g:∀ b o,b≠mp→H b=some o→H2 b=some o) (s28:Same H2 H8) (h7:H8 v7=some (.tup (r.map V.int))) (h8:H8 st'=some (.tup [.ref t,.ref rs'])) (r8:H8 rs'=some (.tup ((as.map V.ref).set kn (.ref v7)))) (R':zaJ (rows.set kn r)) (hk:zbP (rows.set kn r)≤400) :
  zcp K CS (upd H8 sh (.ins CS dx (putF "kept" (.ref st') [("kept",.ref st),("fulls",.ref p)]))) sh dx st' p qs ps rows (rows.set kn r) t rs' (as.set kn v7) kn 0∧zbh (upd H8 sh (.ins CS dx (putF "kept" (.ref st') [("kept",.ref st),("fulls",.ref p)]))) mp zdf lamQ∧(∀ b o,b≠sh→b≠mp→H b=some o→upd H8 sh (.ins CS dx (putF "kept" (.ref st') [("kept",.ref st),("fulls",.ref p)])) b=some o)∧
  (∀{b},upd H8 sh (.ins CS dx (putF "kept" (.ref st') [("kept",.ref st),("fulls",.ref p)])) b=none→H b=none)∧∀{b},upd H8 sh (.ins CS dx (putF "kept" (.ref st') [("kept",.ref st),("fulls",.ref p)])) b=none→b∉qs:=by
 have i8:=s28 _ _ S2.ins;have i9:upd H8 sh (.ins CS dx (putF "kept" (.ref st') [("kept",.ref st),("fulls",.ref p)])) sh=some (.ins CS dx [("kept",.ref st'),("fulls",.ref p)]):=zac;have k9:But sh H8 (upd H8 sh (.ins CS dx (putF "kept" (.ref st') [("kept",.ref st),("fulls",.ref p)]))):=fun b o n e=>by rw[zaj n];exact e
 generalize upd H8 sh (.ins CS dx (putF "kept" (.ref st') [("kept",.ref st),("fulls",.ref p)]))=H9 at i9 k9 ⊢;have tp9:Tp H8 H9:=k9.tp fun us' z=>by rw[i8]at z;cases z
 have l9:∀ b us,H8 b=some (.lst us)→H9 b=some (.lst us):=fun b us e=>k9 b _ (fun z=>by rw[z,i8]at e;cases e) e
 have o9:=k9 _ _ (fun z=>by have:=S.own;rw[z,S.ins]at this;cases this) (s28 _ _ S2.own)
 have S9:zcp K CS H9 sh dx st' p qs ps rows (rows.set kn r) t rs' (as.set kn v7) kn 0:=by
  refine ⟨o9,i9,⟨tp9 _ _ h8,tp9 _ _ (s28 _ _ S2.stand.tr),?_,zd4 (tp9 _ _ h7) kn (ziR (fun b us e=>tp9 _ _ (s28 _ _ e)) S2.stand.at_),by rw[yb3];exact S.stand.len,S.stand.T,R',S.stand.few,hk⟩,(S2.full.ext s28.ext).tp tp9 l9⟩;rw[ybX];exact tp9 _ _ r8
 have T9:=ziK (hT2.ext s28.ext) k9 (fun tab z=>by rw[i8]at z;cases z) (fun f z=>by rw[i8]at z;cases z)
 refine ⟨S9,T9,fun b o n1 n2 e=>k9 b o n1 (s28 _ _ (g b o n2 e)),fun {b} e=>?_,fun {b} e z=>?_⟩
 ·cases eb:H b with
  | none=>rfl
  | some o=>
   by_cases z1:b=sh
   ·rw[z1,S9.ins]at e;cases e
   ·by_cases z2:b=mp
    ·obtain ⟨tab,e1,_⟩:=T9.ex;rw[z2,e1]at e;cases e
    ·rw[k9 b o z1 (s28 _ _ (g b o z2 eb))]at e;cases e
 ·obtain ⟨i,hi,ei⟩:=ya1 z;obtain ⟨ws,w1,_⟩:=S9.full.get i b (by rw[yac hi,ei]);rw[e]at w1;cases w1
theorem zrz (T:Txt K mg){mp:Addr}{CS:Addr}(O:OwnC K mg CS)(qaH:DM K CS "put" "Shelf.put" zcj zbj)(qau:FM P w K mg base CS 4 "row_for" zaH (zfp K CS))(qay:FC P w K mg base 1 "long_together" zaY (zjJ K))(qbm:FC P w K mg base 3 "place" zc4 (zfR K mp))(qaI:FC P w K mg base 1 "with_row" zbD (zh1 K))(qaq:FM P w K mg base CS 7 "carry_up" zaL (zfS K CS)):FM P w K mg base CS 8 "put" zbj (zjM K CS mp putR zqb):=by
 refine qaH.ok qaC (fun vs H Q E h=>?_) (fun f cdv A outer s H vs Q E hr h=>?_)
 ·obtain ⟨sh,dx,st,p,kn,x,qs,ps,rows,t,rs,as,rfl,_⟩:=h;rfl
 obtain ⟨sh,dx,st,p,kn,x,qs,ps,rows,t,rs,as,rfl,S,hk,hx,⟨hnx,hroom⟩,hT,q⟩:=h;refine ⟨_,(zai (zaq (i:=3) qaC.nd rfl (Or.inl rfl) (zfj qau O.cl hr (pv 0) (zaa (pv 1) (zaa (pv 2) zab))))
   (zaz (zaP (zar zeA (pv 2) (pv 3) (by with_unfolding_all rfl)) (zae zba) zav)
   (zaz (zaP (zar zl7 (zaw qay hr (zaa (zaK zaM (zbl (pv 0) rfl) zag (fun _ _=>rfl)) zab)) (zc7 rfl T.qbh) (zaB _)) (zae zba) zav)
   (zai (zaq (i:=4) qaC.nd rfl (Or.inl rfl) (zaw qbm hr (zaa (pv 3) (zaa (pv 2) zab))))
   (zai (zfY (pv 0) (zaw qaI hr (zaa (zbl (pv 0) rfl) (zaa (pv 1) (zaa (zax zf2 (zax zeU (zbB zcC (pv 3) zcE (zbL (pv 4))) (zaQ (zaa (pv 2) zab))) (zbB zcC (pv 3) (zbL (pv 4)) zcE)) zab)))) rfl)
   (zae (zas (zfj qaq O.cl hr (pv 0) (zaa (pv 1) (zaa (za5 zab) (zaa (za5 (zaa (zaQ (zaa (pv 2) (zaa (pv 1) zab))) zab)) zab))))))))))),?_⟩
 refine ⟨_,rfl,sh,dx,_,rfl,S.ins,rfl,_,rfl,_,rfl,sh,dx,st,p,kn,x,qs,ps,rows,t,rs,as,rfl,S,hk,hx,fun a ha hrow=>?_⟩;have hfl:((zal rows kn).map V.int).all zdW=true:=yaR.mpr fun y hy=>by
  obtain ⟨z,_,rfl⟩:=yax.mp hy;rfl
 refine ⟨fun σ' H'=>σ'=[some (.ref sh),some (.int kn),some (.int x),some (.ref a),none]∧H=H',?_,?_⟩
 ·refine ⟨_,rfl,_,rfl,a,_,rfl,.inr (SqT.of hrow),rfl,hfl,_,rfl,?_⟩;show if inV (.int x) ((zal rows kn).map V.int)=true then _ else _
  rw[zeW,yaf hnx];exact iteF ⟨rfl,rfl⟩
 rintro _ _ ⟨rfl,rfl⟩;have hfew:=S.stand.few;refine ⟨fun σ' H1=>σ'=[some (.ref sh),some (.int kn),some (.int x),some (.ref a),none]∧Same H H1,?_,?_⟩
 ·refine ⟨_,rfl,sh,CS,dx,_,_,rfl,S.ins,O.cl,O.n_kept,rfl,_,_,_,_,rfl,rfl,SqT.of S.stand.st,rfl,rs,as,_,rfl,.inr S.stand.rs,zfU S.stand.at_,by rw[yab,S.stand.len];omega,fun H1 s1=>?_⟩;refine ⟨_,_,rfl,rfl,_,rfl,?_⟩;exact zqm (show ¬ (300:Int)≤((zbP rows:Nat):Int) by omega) ⟨rfl,s1⟩
 rintro _ H1 ⟨rfl,s1⟩;have hrow1:=s1 _ _ hrow;refine ⟨_,rfl,_,rfl,a,zal rows kn,x,rfl,hrow1,S.stand.R.at_up kn,hT.ext s1.ext,fun H2 g2 hT2=>?_⟩;obtain ⟨tab,hmp⟩:∃ tab,H1 mp=some (.tbl tab):=by
  obtain ⟨tab,e,_⟩:=(hT.ext s1.ext).ex;exact ⟨tab,e⟩
 have keep2:∀{b:Addr} {o:HO},H b=some o→(∀ tab,o≠.tbl tab)→H2 b=some o:=fun {b o} e n=>g2 b o (fun z=>by
  rw[z]at e;have:=s1 _ _ e;rw[hmp]at this;exact n _ (yad this).symm) (s1 _ _ e)
 have tp2:Tp H H2:=fun b us e=>keep2 e (fun _ z=>nomatch z);have S2:zaC K CS H2 sh dx st p qs ps rows t rs as:=⟨keep2 S.own (fun _ z=>nomatch z),keep2 S.ins (fun _ z=>nomatch z),zb8 tp2 S.stand,S.full.tp tp2 fun b us e=>keep2 e (fun _ z=>nomatch z)⟩;have row2:=tp2 _ _ hrow;refine ⟨_,rfl,sh,CS,dx,_,_,rfl,S2.ins,O.cl,O.n_kept,rfl,_,rfl,?_⟩;refine ⟨_,rfl,_,rfl,_,rfl,zpc row2 fun v3 H3 s3 h3=>?_⟩;refine ⟨_,rfl,(by show 1≤sizeLine;decide),fun v4 hv4=>?_⟩;have s4:=zaf hv4 (.tup [.int x]);have h4:upd H3 v4 (.tup [.int x]) v4=some (.tup [.int x]):=zac;have h34:=s4 _ _ h3;have row4:=s4 _ _ (s3 _ _ row2);generalize upd H3 v4 (.tup [.int x])=H4 at s4 h4 h34 row4 ⊢;have hrl:(zal rows kn).length≤400:=by
  have:=S.stand.keys;refine yaB (zfI ?_) this;unfold zal;rw[yag,yac (show kn < rows.length by rw[S.stand.len];exact hk)];exact yaT _
 refine zkl h34 h4 (fun z=>nomatch z) (ya3 (zau (by rw[yao,yab];show _+1≤1000;omega))) fun v5 H5 s5 h5=>?_;refine ⟨_,rfl,_,rfl,_,rfl,?_⟩;unfold ziL;dsimp only;refine zjP (s5 _ _ row4) fun v6 H6 s6 h6=>?_;refine zoK (s6 _ _ h5) h6 (by simp) (ya3 (zau (by rw[yas,yao,yaN,yab];show _+1+_≤1000;omega))) fun v7 H7 s7 h7=>?_;have s27:Same H2 H7:=s3.trans (s4.trans (s5.trans (s6.trans s7)));have er:((zal rows kn).map V.int).take (zeJ (zal rows kn) x)++[V.int x]++((zal rows kn).map V.int).drop (zeJ (zal rows kn) x)=(putR (zal rows kn) x).map V.int:=by
  unfold putR;rw[yaw,yaw,ycr,List.map_drop];rfl
 rw[er]at h7;have hal:=S.stand.at_.length;refine ⟨st,t,rs,as.map V.ref,kn,.ref v7,rfl,s27 _ _ S2.stand.st,s27 _ _ S2.stand.rs,by rw[yab,hal,S.stand.len];exact hk,by rw[yab,hal,S.stand.len];omega,fun st' rs' H8 s8 h8 r8=>?_⟩;have s28:Same H2 H8:=s27.trans s8;have hkr:kn < rows.length:=by rw[S.stand.len];exact hk
 have R':zaJ (rows.set kn (putR (zal rows kn) x)):=zjS S.stand.R (zpf (S.stand.R.at_up kn) hnx) fun y hy=>by
  rcases ziS.mp hy with z | z
  ·exact S.stand.R.at_key kn y z
  ·rw[z];exact hx
 have hks:=zfH (r:=putR (zal rows kn) x) hkr;rw[zlU]at hks;refine ⟨_,rfl,sh,CS,dx,_,rfl,s28 _ _ S2.ins,O.cl,O.n_kept,(by show 2 < 1000;decide),?_⟩;obtain ⟨S9,T9,kd9,al,nq9⟩:=ziu (r:=putR (zal rows kn) x) S S2 hT2 (fun b o n e=>g2 b o n (s1 _ _ e)) s28 (s8 _ _ h7) h8 r8 R' (by omega);generalize upd H8 sh (.ins CS dx (putF "kept" (.ref st') [("kept",.ref st),("fulls",.ref p)]))=H9 at S9 T9 kd9 al nq9 ⊢;refine ⟨_,rfl,sh,dx,_,rfl,S9.ins,rfl,_,rfl,(by show 0≤sizeLine;decide),fun g hg=>?_⟩;have s10:=zaf hg (.lst []);have g10:upd H9 g (.lst []) g=some (.lst []):=zac;generalize upd H9 g (.lst [])=H10 at s10 g10 ⊢;refine ⟨_,rfl,_,rfl,(by show 2≤sizeLine;decide),fun u hu=>?_⟩;have s11:=zaf hu (.tup [.int x,.int kn]);have u11:upd H10 u (.tup [.int x,.int kn]) u=some (.tup [.int x,.int kn]):=zac;generalize upd H10 u (.tup [.int x,.int kn])=H11 at s11 u11 ⊢;refine ⟨(by show 1≤sizeLine;decide),fun c hc=>?_⟩;have s12:=zaf hc (.lst [.ref u]);have c12:upd H11 c (.lst [.ref u]) c=some (.lst [.ref u]):=zac;generalize upd H11 c (.lst [.ref u])=H12 at s12 c12 ⊢;have s92:Same H9 H12:=s10.trans (s11.trans s12);have S12:zcp K CS H12 sh dx st' p qs ps rows (rows.set kn (putR (zal rows kn) x)) t rs' (as.set kn v7) kn 0:=⟨s92 _ _ S9.own,s92 _ _ S9.ins,S9.stand.same s92,S9.full.ext s92.ext⟩;have L:=zin S.stand.T S.stand.R R' hk (zhK (rows:=rows) (r:=putR (zal rows kn) x));refine ⟨sh,dx,st',p,g,c,[],[.ref u],kn,qs,ps,rows,rows.set kn (putR (zal rows kn) x),t,rs',as.set kn v7,(fun b=>H b=none),rfl,S12,hk,zhK,S.stand.R,S.stand.len,S.stand.keys,s12 _ _ (s11 _ _ g10),?_,c12,?_,al hg,al (s10.free (s11.free hc)),(nq9 hg),(nq9 (s10.free (s11.free hc))),(fun z=>by have z:H p=none:=z;rw[S.full.at_]at z;cases z),(fun b z=>al (s92.free z)),fun D us m qs' H' st hD hq bb sh' hDl told=>?_⟩
 ·rw[← L.gone,znI hkr];exact .nil
 ·rw[← L.come,znJ hkr (S.stand.R.at_up kn) (zie R' kn) hnx];exact .cons ⟨u,.int x,.int kn,rfl,s12 _ _ u11,rfl,rfl⟩ .nil
 ·refine q D us m qs' st' rs' (as.set kn v7) H' st (al (s92.free hD)) (fun y hy=>(hq y hy).imp id fun z=>al (s92.free z)) (fun b o n1 n2 n3 e=>bb b o n2 (s92 _ _ (kd9 b o n1 n3 e))) sh' ?_ hDl told;have:=S12.full.at_;exact ziK (T9.ext s92.ext) bb (fun tab z=>by rw[this]at z;cases z) (fun f z=>by rw[this]at z;cases z)
section
variable {K:Frag}{H:Hp}{a b:Addr}{xs ys:List V}{Q:VK}
theorem zoL (ha:H a=some (.tup xs))(hb:H b=some (.tup ys))(hl:xs.length+ys.length≤sizeLine)(q:∀ v H',Same H H'→H' v=some (.tup (xs++ys))→Q (.ref v) H'):zrl K (.ref a) (.ref b) H Q:=
 ⟨a,b,xs,ys,rfl,rfl,SqT.of ha,SqT.of hb,hl,fun z=>q b H (fun _ _ e=>e) (by rw[z];exact hb),fun _=>⟨fun z=>q a H (fun _ _ e=>e) (by rw[z,yay];exact ha),fun _ p hp=>q p _ (zaf hp _) zac⟩⟩
end
theorem zrB (T:Txt K mg){mp:Addr}{CS:Addr}(O:OwnC K mg CS)(qaJ:DM K CS "out" "Shelf.out" zck zbk)(qau:FM P w K mg base CS 4 "row_for" zaH (zfp K CS))(qbm:FC P w K mg base 3 "place" zc4 (zfR K mp))(qaI:FC P w K mg base 1 "with_row" zbD (zh1 K))(qaq:FM P w K mg base CS 7 "carry_up" zaL (zfS K CS)):FM P w K mg base CS 8 "out" zbk (zjM K CS mp outR zqc):=by
 refine qaJ.ok qaD (fun vs H Q E h=>?_) (fun f cdv A outer s H vs Q E hr h=>?_)
 ·obtain ⟨sh,dx,st,p,kn,x,qs,ps,rows,t,rs,as,rfl,_⟩:=h;rfl
 obtain ⟨sh,dx,st,p,kn,x,qs,ps,rows,t,rs,as,rfl,S,hk,hx,hin,hT,q⟩:=h;refine ⟨_,(zai (zaq (i:=3) qaD.nd rfl (Or.inl rfl) (zfj qau O.cl hr (pv 0) (zaa (pv 1) (zaa (pv 2) zab))))
   (zaz (zaP (zar zb2 (pv 2) (pv 3) (by with_unfolding_all rfl)) (zae zba) zav)
   (zai (zaq (i:=4) qaD.nd rfl (Or.inl rfl) (zaw qbm hr (zaa (pv 3) (zaa (pv 2) zab))))
   (zai (zfY (pv 0) (zaw qaI hr (zaa (zbl (pv 0) rfl) (zaa (pv 1) (zaa (zax zl8 (zbB zcC (pv 3) zcE (zbL (pv 4))) (zbB zcC (pv 3) (zbL (zax zbt (pv 4) zag)) zcE)) zab)))) rfl)
   (zae (zas (zfj qaq O.cl hr (pv 0) (zaa (pv 1) (zaa (za5 (zaa (zaQ (zaa (pv 2) (zaa (pv 1) zab))) zab)) (zaa (za5 zab) zab)))))))))),?_⟩
 refine ⟨_,rfl,sh,dx,_,rfl,S.ins,rfl,_,rfl,_,rfl,sh,dx,st,p,kn,x,qs,ps,rows,t,rs,as,rfl,S,hk,hx,fun a ha hrow=>?_⟩;have hfl:((zal rows kn).map V.int).all zdW=true:=yaR.mpr fun y hy=>by
  obtain ⟨z,_,rfl⟩:=yax.mp hy;rfl
 refine ⟨fun σ' H'=>σ'=[some (.ref sh),some (.int kn),some (.int x),some (.ref a),none]∧H=H',?_,?_⟩
 ·refine ⟨_,rfl,_,rfl,a,_,rfl,.inr (SqT.of hrow),rfl,hfl,_,rfl,?_⟩;show if (!inV (.int x) ((zal rows kn).map V.int))=true then _ else _
  rw[zeW,yaj (show x∈zal rows kn from hin)];exact iteF ⟨rfl,rfl⟩
 rintro _ _ ⟨rfl,rfl⟩;have hfew:=S.stand.few;have s1:Same H H:=fun _ _ e=>e;have hrow1:=s1 _ _ hrow;refine ⟨_,rfl,_,rfl,a,zal rows kn,x,rfl,hrow1,S.stand.R.at_up kn,hT.ext s1.ext,fun H2 g2 hT2=>?_⟩;obtain ⟨tab,hmp⟩:∃ tab,H mp=some (.tbl tab):=by
  obtain ⟨tab,e,_⟩:=(hT.ext s1.ext).ex;exact ⟨tab,e⟩
 have keep2:∀{b:Addr} {o:HO},H b=some o→(∀ tab,o≠.tbl tab)→H2 b=some o:=fun {b o} e n=>g2 b o (fun z=>by
  rw[z]at e;have:=s1 _ _ e;rw[hmp]at this;exact n _ (yad this).symm) (s1 _ _ e)
 have tp2:Tp H H2:=fun b us e=>keep2 e (fun _ z=>nomatch z);have S2:zaC K CS H2 sh dx st p qs ps rows t rs as:=⟨keep2 S.own (fun _ z=>nomatch z),keep2 S.ins (fun _ z=>nomatch z),zb8 tp2 S.stand,S.full.tp tp2 fun b us e=>keep2 e (fun _ z=>nomatch z)⟩;have row2:=tp2 _ _ hrow;refine ⟨_,rfl,sh,CS,dx,_,_,rfl,S2.ins,O.cl,O.n_kept,rfl,_,rfl,?_⟩;refine ⟨_,rfl,_,rfl,_,rfl,zpc row2 fun v3 H3 s3 h3=>?_⟩;have hrl:(zal rows kn).length≤400:=by
  have:=S.stand.keys;refine yaB (zfI ?_) this;unfold zal;rw[yag,yac (show kn < rows.length by rw[S.stand.len];exact hk)];exact yaT _
 refine ⟨_,rfl,_,rfl,_,_,rfl,rfl,_,rfl,?_⟩;unfold ziL;dsimp only;rw[show ((zeJ (zal rows kn) x:Nat):Int)+1=((zeJ (zal rows kn) x+1:Nat):Int) from rfl];refine zjP (s3 _ _ row2) fun v6 H6 s6 h6=>?_;refine zoL (s6 _ _ h3) h6 (ya3 (zau (by rw[yao,yaN,yab];omega))) fun v7 H7 s7 h7=>?_;have s27:Same H2 H7:=s3.trans (s6.trans s7);have er:((zal rows kn).map V.int).take (zeJ (zal rows kn) x)++((zal rows kn).map V.int).drop (zeJ (zal rows kn) x+1)=(outR (zal rows kn) x).map V.int:=by
  unfold outR;rw[yaw,ycr,List.map_drop];rfl
 rw[er]at h7;have hal:=S.stand.at_.length;refine ⟨st,t,rs,as.map V.ref,kn,.ref v7,rfl,s27 _ _ S2.stand.st,s27 _ _ S2.stand.rs,by rw[yab,hal,S.stand.len];exact hk,by rw[yab,hal,S.stand.len];omega,fun st' rs' H8 s8 h8 r8=>?_⟩;have s28:Same H2 H8:=s27.trans s8;have hkr:kn < rows.length:=by rw[S.stand.len];exact hk
 have R':zaJ (rows.set kn (outR (zal rows kn) x)):=zjS S.stand.R ((S.stand.R.at_up kn).sublist (zeT _ _)) fun y hy=>S.stand.R.at_key kn y ((zeT _ _).mem hy);have hks:=zfH (r:=outR (zal rows kn) x) hkr;have hol:=(zeT (zal rows kn) x).length_le;have hkk:=S.stand.keys;refine ⟨_,rfl,sh,CS,dx,_,rfl,s28 _ _ S2.ins,O.cl,O.n_kept,(by show 2 < 1000;decide),?_⟩;obtain ⟨S9,T9,kd9,al,nq9⟩:=ziu (r:=outR (zal rows kn) x) S S2 hT2 (fun b o n e=>g2 b o n (s1 _ _ e)) s28 (s8 _ _ h7) h8 r8 R' (by omega);generalize upd H8 sh (.ins CS dx (putF "kept" (.ref st') [("kept",.ref st),("fulls",.ref p)]))=H9 at S9 T9 kd9 al nq9 ⊢;refine ⟨_,rfl,sh,dx,_,rfl,S9.ins,rfl,_,rfl,_,rfl,_,rfl,(by show 2≤sizeLine;decide),fun u hu=>?_⟩;have s10:=zaf hu (.tup [.int x,.int kn]);have u10:upd H9 u (.tup [.int x,.int kn]) u=some (.tup [.int x,.int kn]):=zac;generalize upd H9 u (.tup [.int x,.int kn])=H10 at s10 u10 ⊢;refine ⟨(by show 1≤sizeLine;decide),fun g hg=>?_⟩;have s11:=zaf hg (.lst [.ref u]);have g11:upd H10 g (.lst [.ref u]) g=some (.lst [.ref u]):=zac;generalize upd H10 g (.lst [.ref u])=H11 at s11 g11 ⊢;refine ⟨(by show 0≤sizeLine;decide),fun c hc=>?_⟩;have s12:=zaf hc (.lst []);have c12:upd H11 c (.lst []) c=some (.lst []):=zac;generalize upd H11 c (.lst [])=H12 at s12 c12 ⊢;have s92:Same H9 H12:=s10.trans (s11.trans s12);have S12:zcp K CS H12 sh dx st' p qs ps rows (rows.set kn (outR (zal rows kn) x)) t rs' (as.set kn v7) kn 0:=⟨s92 _ _ S9.own,s92 _ _ S9.ins,S9.stand.same s92,S9.full.ext s92.ext⟩;have L:=zin S.stand.T S.stand.R R' hk (zhK (rows:=rows) (r:=outR (zal rows kn) x));refine ⟨sh,dx,st',p,g,c,[.ref u],[],kn,qs,ps,rows,rows.set kn (outR (zal rows kn) x),t,rs',as.set kn v7,(fun b=>H b=none),rfl,S12,hk,zhK,S.stand.R,S.stand.len,S.stand.keys,s12 _ _ g11,?_,c12,?_,al (s10.free hg),al (s10.free (s11.free hc)),(nq9 (s10.free hg)),(nq9 (s10.free (s11.free hc))),(fun z=>by have z:H p=none:=z;rw[S.full.at_]at z;cases z),(fun b z=>al (s92.free z)),fun D us m qs' H' st hD hq bb sh' hDl told=>?_⟩
 ·rw[← L.gone,znS hkr (S.stand.R.at_up kn) (zie S.stand.R kn) hin];exact .cons ⟨u,.int x,.int kn,rfl,s12 _ _ (s11 _ _ u10),rfl,rfl⟩ .nil
 ·rw[← L.come,znT hkr];exact .nil
 ·refine q D us m qs' st' rs' (as.set kn v7) H' st (al (s92.free hD)) (fun y hy=>(hq y hy).imp id fun z=>al (s92.free z)) (fun b o n1 n2 n3 e=>bb b o n2 (s92 _ _ (kd9 b o n1 n3 e))) sh' ?_ hDl told;have:=S12.full.at_;exact ziK (T9.ext s92.ext) bb (fun tab z=>by rw[this]at z;cases z) (fun f z=>by rw[this]at z;cases z)
inductive AnyV (K:Frag)(H:Hp):V→Prop where
 | int (i:Int):AnyV K H (.int i)
 | oth (x:V) (h:∀ i,x≠.int i) (w:zgr K H x false):AnyV K H x
def zcQ (n:Nat)(x:V):Bool:=match x with
 | .int i=>decide (0≤i) && decide (i < n)
 | _=>false
theorem zgQ {n:Nat}{x:V}(h:∀ i,x≠.int i):zcQ n x=false:=by
 cases x with
 | int i=>exact absurd rfl (h i)
 | _=>rfl
def zjL (K:Frag):Sp:=fun vs H Q _=>∃(n:Nat) (x:V),vs=[.int n,x]∧AnyV K H x∧Q (.bl (zcQ n x)) H
theorem zmf (T:Txt K mg)(qat:DF K mg "is_one_of_first" za7 zaE)(qaZ:FC P w K mg base 1 "is_whole" zbU (zg4 K)):FC P w K mg base 2 "is_one_of_first" zaE (zjL K):=by
 refine qat.ok qaU (fun vs H Q E h=>?_) (fun f cdv A outer s H vs Q E hr h=>?_)
 ·obtain ⟨n,x,rfl,_⟩:=h;rfl
 obtain ⟨n,x,rfl,hx,q⟩:=h;refine ⟨_,(zae (zas (zj0 (zaw qaZ hr (zaa (pv 1) zab)) (zjX (zjZ znV zhs zag (pv 1) (pv 0)))))),?_⟩;cases hx with
 | oth x h w=>
  refine ⟨_,rfl,_,false,rfl,w,_,rfl,?_⟩;refine iteF ?_;rw[zgQ h]at q;exact q
 | int i=>
  refine ⟨_,rfl,_,true,rfl,.int i,_,rfl,?_⟩;refine iteT ?_;refine ⟨_,rfl,_,_,rfl,rfl,_,rfl,?_⟩;refine ite2 (fun c=>?_) (fun c=>?_)
  ·refine ⟨_,rfl,_,_,rfl,rfl,?_⟩;have e:zcQ n (.int i)=decide (i < (n:Int)):=by
    show (decide (0≤i) && decide (i < (n:Int)))=_;rw[show decide (0≤i)=true from c,Bool.true_and]
   rw[e]at q;exact q
  ·have e:zcQ n (.int i)=false:=by
    show (decide (0≤i) && decide (i < (n:Int)))=_;rw[show decide (0≤i)=false from ybT.mpr c,Bool.false_and]
   rw[e]at q;exact q
theorem _root_.L2.TyOf.same {K:Frag}{H H':Hp}{x:V}{n:String}(s:Same H H')(h:TyOf K H x (.type n)):TyOf K H' x (.type n):=by
 cases h with
 | non=>exact .non
 | bl b=>exact .bl b
 | int i=>exact .int i
 | str y=>exact .str y
 | flt y=>exact .flt y
 | lst e=>exact .lst (s _ _ e)
 | frz e=>exact .frz (s _ _ e)
 | tup e=>exact .tup (s _ _ e)
 | dK e=>exact .dK (s _ _ e)
 | dT e=>exact .dT (s _ _ e)
theorem AnyV.same {K:Frag}{H H':Hp}{x:V}(s:Same H H')(h:AnyV K H x):AnyV K H' x:=by
 cases h with
 | int i=>exact .int i
 | oth x h w=>
  refine .oth x h ?_;cases w with
  | bl b=>exact .bl b
  | oth x t ty h2=>
   exact .oth x t (ty.same s) h2
def zlF (K:Frag)(C:Addr):Sp:=fun vs H _ E=>∃(t:Addr) (x:V) (ps:List Nat),vs=[.ref t,x]∧H t=some (.tup (zbT ps))∧ps.length≤900∧AnyV K H x∧zcQ (ps.length+1) x=false∧E (.ref C) none H
theorem zn5 (T:Txt K mg){qaa qai qal qag qaf qab qad qac qae qah qam qaj qan:Addr}(CL:Cls K mg qaa qai qal qag qaf qab qad qac qae qah qam qaj qan)(qaG:DF K mg "need_knot" zci zaT)(qav:FC P w K mg base 2 "is_one_of_first" zaE (zjL K)):FX P w K mg base 3 "need_knot" zaT (zlF K qac):=by
 refine qaG.okx qbV (fun vs H Q E h=>?_) (fun f cdv A outer s H vs Q E hr h=>?_)
 ·obtain ⟨t,x,ps,rfl,_⟩:=h;rfl
 obtain ⟨t,x,ps,rfl,ht,hl,hx,hf,e⟩:=h;refine ⟨_,(zae (zaP (zde (zbZ (zaw qav hr (zaa (zam zak rfl T.qaz boot_len (zaa (pv 0) zab)) (zaa (pv 1) zab))))) (zae (zdH CL.qf4 thrX rfl rfl (zaa zaF zab))) zav)),?_⟩;refine ⟨_,rfl,_,_,rfl,.inr (SqT.of ht),_,rfl,?_⟩;rw[zat];refine ⟨ps.length+1,x,rfl,hx,?_⟩;rw[hf];refine ⟨_,rfl,iteT ?_⟩;exact ⟨(by show 1≤sizeLine;decide),e⟩
def zo8 (K:Frag)(C:Addr):Sp:=fun vs H _ E=>∃(x:V),vs=[x]∧zfm K H x false∧E (.ref C) none H
theorem zp8 (T:Txt K mg){qaa qai qal qag qaf qab qad qac qae qah qam qaj qan:Addr}(CL:Cls K mg qaa qai qal qag qaf qab qad qac qae qah qam qaj qan)(qaR:DF K mg "need_key" zcK zbE)(qbu:FC P w K mg base 2 "is_key" zcL (zg6 K)):FX P w K mg base 3 "need_key" zbE (zo8 K qae):=by
 refine qaR.okx qcv (fun vs H Q E h=>?_) (fun f cdv A outer s H vs Q E hr h=>?_)
 ·obtain ⟨x,rfl,_⟩:=h;rfl
 obtain ⟨x,rfl,hx,e⟩:=h;refine ⟨_,(zae (zaP (zde (zbZ (zaw qbu hr (zaa (pv 0) zab)))) (zae (zdH CL.qgt thrX rfl rfl (zaa zaF zab))) zav)),?_⟩;refine ⟨_,rfl,_,false,rfl,hx,_,rfl,?_⟩;refine iteT ?_;exact ⟨(by show 1≤sizeLine;decide),e⟩
def ziP (K:Frag)(C:Addr):Sp:=fun vs H Q E=>zg5 K vs H Q E∨zlF K C vs H Q E
def zrb (K:Frag)(C:Addr):Sp:=fun vs H Q E=>ziO K vs H Q E∨zo8 K C vs H Q E
def zjI (K:Frag)(CS CK CY:Addr):Sp:=fun vs H _ E=>∃(sh dx st p:Addr) (x y:V) (qs:List Addr) (ps:List Nat) (rows:List (List Int)) (t rs:Addr) (as:List Addr),vs=[.ref sh,x,y]∧zaC K CS H sh dx st p qs ps rows t rs as∧
 ((AnyV K H x∧zcQ (ps.length+1) x=false∧E (.ref CK) none H)∨(∃ kn:Nat,x=.int kn∧kn < ps.length+1∧zfm K H y false∧E (.ref CY) none H))
theorem zp3 (T:Txt K mg){qaa qai qal qag qaf qab qad qac qae qah qam qaj qan:Addr}(CL:Cls K mg qaa qai qal qag qaf qab qad qac qae qah qam qaj qan){CS:Addr}(O:OwnC K mg CS)(qaw:DM K CS "row_for" "Shelf.row_for" zbi zaH)(qax:FX P w K mg base 3 "need_knot" zaT (ziP K qac))(qbH:FX P w K mg base 3 "need_key" zbE (zrb K qae)):FMX P w K mg base CS 4 "row_for" zaH (zjI K CS qac qae):=by
 refine qaw.okx qa4 (fun vs H Q E h=>?_) (fun f cdv A outer s H vs Q E hr h=>?_)
 ·obtain ⟨sh,dx,st,p,x,y,qs,ps,rows,t,rs,as,rfl,_⟩:=h;rfl
 obtain ⟨sh,dx,st,p,x,y,qs,ps,rows,t,rs,as,rfl,S,hc⟩:=h;refine ⟨_,(zai (zbp (zjY qax hr zkE (zaa (zaK zaM (zbl (pv 0) rfl) zag (fun _ _=>rfl)) (zaa (pv 1) zab))))
   (zai (zbp (zjY qbH hr zkE (zaa (pv 2) zab)))
   (zae (zas (zaK zaM (zaK zaM (zbl (pv 0) rfl) zag (fun _ _=>rfl)) (pv 1) (fun _ _=>rfl)))))),?_⟩
 have hfew:=S.stand.few;rcases hc with ⟨hx,hf,e⟩ | ⟨kn,rfl,hk,hy,e⟩
 ·exact ⟨_,rfl,sh,CS,dx,_,_,rfl,S.ins,O.cl,O.n_kept,rfl,_,_,_,_,rfl,rfl,SqT.of S.stand.st,rfl,_,rfl,.inr ⟨t,x,ps,rfl,S.stand.tr,by omega,hx,hf,e⟩⟩
 ·refine ⟨_,rfl,sh,CS,dx,_,_,rfl,S.ins,O.cl,O.n_kept,rfl,_,_,_,_,rfl,rfl,SqT.of S.stand.st,rfl,_,rfl,.inl ⟨t,kn,ps,rfl,S.stand.tr,by omega,hk,?_⟩⟩;exact ⟨_,rfl,.inr ⟨y,rfl,hy,e⟩⟩
def zo5 (K:Frag)(CS CK CY:Addr):Sp:=fun vs H Q E=>zfp K CS vs H Q E∨zjI K CS CK CY vs H Q E
def zo6 (K:Frag)(CS CK CY CT CR:Addr):Sp:=fun vs H Q E=>zjI K CS CK CY vs H Q E∨∃(sh dx st p:Addr) (kn:Nat) (x:Int) (qs:List Addr) (ps:List Nat) (rows:List (List Int)) (t rs:Addr) (as:List Addr),vs=[.ref sh,.int kn,.int x]∧zaC K CS H sh dx st p qs ps rows t rs as∧kn < ps.length+1∧zgt x∧
 ((x∈zal rows kn∧E (.ref CT) none H)∨(x∉zal rows kn∧300≤zbP rows∧∀ H',Same H H'→E (.ref CR) none H'))
theorem zp4 (T:Txt K mg){qaa qai qal qag qaf qab qad qac qae qah qam qaj qan:Addr}(CL:Cls K mg qaa qai qal qag qaf qab qad qac qae qah qam qaj qan){mp:Addr}{CS:Addr}(O:OwnC K mg CS)(qaH:DM K CS "put" "Shelf.put" zcj zbj)(qau:FMX P w K mg base CS 4 "row_for" zaH (zo5 K CS qac qae))(qay:FC P w K mg base 1 "long_together" zaY (zjJ K))(qbm:FC P w K mg base 3 "place" zc4 (zfR K mp))(qaI:FC P w K mg base 1 "with_row" zbD (zh1 K))(qaq:FM P w K mg base CS 7 "carry_up" zaL (zfS K CS)):FMX P w K mg base CS 8 "put" zbj (zo6 K CS qac qae qaf qad):=by
 refine qaH.okx qaC (fun vs H Q E h=>?_) (fun f cdv A outer s H vs Q E hr h=>?_)
 ·rcases h with ⟨sh,dx,st,p,x,y,qs,ps,rows,t,rs,as,rfl,_⟩ | ⟨sh,dx,st,p,kn,x,qs,ps,rows,t,rs,as,rfl,_⟩ <;> rfl
 refine ⟨_,(zai (zaq (i:=3) qaC.nd rfl (Or.inl rfl) (zph qau O.cl hr zkE (pv 0) (zaa (pv 1) (zaa (pv 2) zab))))
   (zaz (zaP (zar zeA (pv 2) (pv 3) (by with_unfolding_all rfl)) (zae (zdH CL.qgx thrX rfl rfl (zaa zaF zab))) zav)
   (zaz (zaP (zar zl7 (zaw qay hr (zaa (zaK zaM (zbl (pv 0) rfl) zag (fun _ _=>rfl)) zab)) (zc7 rfl T.qbh) (zaB _)) (zae (zdH CL.qeK thrX rfl rfl (zaa zaF zab))) zav)
   (zai (zaq (i:=4) qaC.nd rfl (Or.inl rfl) (zaw qbm hr (zaa (pv 3) (zaa (pv 2) zab))))
   (zai (zfY (pv 0) (zaw qaI hr (zaa (zbl (pv 0) rfl) (zaa (pv 1) (zaa (zax zf2 (zax zeU (zbB zcC (pv 3) zcE (zbL (pv 4))) (zaQ (zaa (pv 2) zab))) (zbB zcC (pv 3) (zbL (pv 4)) zcE)) zab)))) rfl)
   (zae (zas (zfj qaq O.cl hr (pv 0) (zaa (pv 1) (zaa (za5 zab) (zaa (za5 (zaa (zaQ (zaa (pv 2) (zaa (pv 1) zab))) zab)) zab))))))))))),?_⟩
 rcases h with h | ⟨sh,dx,st,p,kn,x,qs,ps,rows,t,rs,as,rfl,S,hk,hx,hc⟩
 ·have h0:=h;obtain ⟨sh,dx,st,p,x,y,qs,ps,rows,t,rs,as,rfl,S,hc⟩:=h;exact ⟨_,rfl,sh,dx,_,rfl,S.ins,rfl,_,rfl,_,rfl,.inr h0⟩
 refine ⟨_,rfl,sh,dx,_,rfl,S.ins,rfl,_,rfl,_,rfl,.inl ⟨sh,dx,st,p,kn,x,qs,ps,rows,t,rs,as,rfl,S,hk,hx,fun a ha hrow=>?_⟩⟩;have hfl:((zal rows kn).map V.int).all zdW=true:=yaR.mpr fun y hy=>by
  obtain ⟨z,_,rfl⟩:=yax.mp hy;rfl
 have hfew:=S.stand.few;refine ⟨fun σ' H'=>x∉zal rows kn∧σ'=[some (.ref sh),some (.int kn),some (.int x),some (.ref a),none]∧H=H',?_,?_⟩
 ·refine ⟨_,rfl,_,rfl,a,_,rfl,.inr (SqT.of hrow),rfl,hfl,_,rfl,?_⟩;show if inV (.int x) ((zal rows kn).map V.int)=true then _ else _
  rw[zeW];rcases hc with ⟨hin,e⟩ | ⟨hni,_,_⟩
  ·rw[yaj hin];exact iteT ⟨(by show 1≤sizeLine;decide),e⟩
  ·rw[yaf hni];exact iteF ⟨hni,rfl,rfl⟩
 rintro _ _ ⟨hni,rfl,rfl⟩;rcases hc with ⟨hin,_⟩ | ⟨_,h300,e⟩
 ·exact absurd hin hni
 refine ⟨fun σ' H1=>False,?_,fun _ _ z=>z.elim⟩;refine ⟨_,rfl,sh,CS,dx,_,_,rfl,S.ins,O.cl,O.n_kept,rfl,_,_,_,_,rfl,rfl,SqT.of S.stand.st,rfl,rs,as,_,rfl,.inr S.stand.rs,zfU S.stand.at_,by rw[yab,S.stand.len];omega,fun H1 s1=>?_⟩;refine ⟨_,_,rfl,rfl,_,rfl,?_⟩;exact zql (show (300:Int)≤((zbP rows:Nat):Int) by omega) ⟨(by show 1≤sizeLine;decide),e _ s1⟩
def zo7 (K:Frag)(CS CK CY CM:Addr):Sp:=fun vs H Q E=>zjI K CS CK CY vs H Q E∨∃(sh dx st p:Addr) (kn:Nat) (x:Int) (qs:List Addr) (ps:List Nat) (rows:List (List Int)) (t rs:Addr) (as:List Addr),vs=[.ref sh,.int kn,.int x]∧zaC K CS H sh dx st p qs ps rows t rs as∧kn < ps.length+1∧zgt x∧x∉zal rows kn∧E (.ref CM) none H
theorem zp5 (T:Txt K mg){qaa qai qal qag qaf qab qad qac qae qah qam qaj qan:Addr}(CL:Cls K mg qaa qai qal qag qaf qab qad qac qae qah qam qaj qan){mp:Addr}{CS:Addr}(O:OwnC K mg CS)(qaJ:DM K CS "out" "Shelf.out" zck zbk)(qau:FMX P w K mg base CS 4 "row_for" zaH (zo5 K CS qac qae))(qbm:FC P w K mg base 3 "place" zc4 (zfR K mp))(qaI:FC P w K mg base 1 "with_row" zbD (zh1 K))(qaq:FM P w K mg base CS 7 "carry_up" zaL (zfS K CS)):FMX P w K mg base CS 8 "out" zbk (zo7 K CS qac qae qab):=by
 refine qaJ.okx qaD (fun vs H Q E h=>?_) (fun f cdv A outer s H vs Q E hr h=>?_)
 ·rcases h with ⟨sh,dx,st,p,x,y,qs,ps,rows,t,rs,as,rfl,_⟩ | ⟨sh,dx,st,p,kn,x,qs,ps,rows,t,rs,as,rfl,_⟩ <;> rfl
 refine ⟨_,(zai (zaq (i:=3) qaD.nd rfl (Or.inl rfl) (zph qau O.cl hr zkE (pv 0) (zaa (pv 1) (zaa (pv 2) zab))))
   (zaz (zaP (zar zb2 (pv 2) (pv 3) (by with_unfolding_all rfl)) (zae (zdH CL.qfm thrX rfl rfl (zaa zaF zab))) zav)
   (zai (zaq (i:=4) qaD.nd rfl (Or.inl rfl) (zaw qbm hr (zaa (pv 3) (zaa (pv 2) zab))))
   (zai (zfY (pv 0) (zaw qaI hr (zaa (zbl (pv 0) rfl) (zaa (pv 1) (zaa (zax zl8 (zbB zcC (pv 3) zcE (zbL (pv 4))) (zbB zcC (pv 3) (zbL (zax zbt (pv 4) zag)) zcE)) zab)))) rfl)
   (zae (zas (zfj qaq O.cl hr (pv 0) (zaa (pv 1) (zaa (za5 (zaa (zaQ (zaa (pv 2) (zaa (pv 1) zab))) zab)) (zaa (za5 zab) zab)))))))))),?_⟩
 rcases h with h | ⟨sh,dx,st,p,kn,x,qs,ps,rows,t,rs,as,rfl,S,hk,hx,hni,e⟩
 ·have h0:=h;obtain ⟨sh,dx,st,p,x,y,qs,ps,rows,t,rs,as,rfl,S,hc⟩:=h;exact ⟨_,rfl,sh,dx,_,rfl,S.ins,rfl,_,rfl,_,rfl,.inr h0⟩
 refine ⟨_,rfl,sh,dx,_,rfl,S.ins,rfl,_,rfl,_,rfl,.inl ⟨sh,dx,st,p,kn,x,qs,ps,rows,t,rs,as,rfl,S,hk,hx,fun a ha hrow=>?_⟩⟩;have hfl:((zal rows kn).map V.int).all zdW=true:=yaR.mpr fun y hy=>by
  obtain ⟨z,_,rfl⟩:=yax.mp hy;rfl
 refine ⟨fun σ' H'=>False,?_,fun _ _ z=>z.elim⟩;refine ⟨_,rfl,_,rfl,a,_,rfl,.inr (SqT.of hrow),rfl,hfl,_,rfl,?_⟩;show if (!inV (.int x) ((zal rows kn).map V.int))=true then _ else _
 rw[zeW,yaf hni];exact iteT ⟨(by show 1≤sizeLine;decide),e⟩
def znB (K:Frag)(CS CK:Addr):Sp:=fun vs H _ E=>∃(sh dx st p:Addr) (x:V) (qs:List Addr) (ps:List Nat) (rows:List (List Int)) (t rs:Addr) (as:List Addr),vs=[.ref sh,x]∧zaC K CS H sh dx st p qs ps rows t rs as∧AnyV K H x∧zcQ (ps.length+1) x=false∧E (.ref CK) none H
theorem zn8 (T:Txt K mg){qaa qai qal qag qaf qab qad qac qae qah qam qaj qan:Addr}(CL:Cls K mg qaa qai qal qag qaf qab qad qac qae qah qam qaj qan){CS:Addr}(O:OwnC K mg CS)(qbb:DM K CS "hang" "Shelf.hang" zcw zcc)(qax:FX P w K mg base 3 "need_knot" zaT (ziP K qac)):FMX P w K mg base CS 4 "hang" zcc (znB K CS qac):=by
 refine qbb.okx qbs (fun vs H Q E h=>?_) (fun f cdv A outer s H vs Q E hr h=>?_)
 ·obtain ⟨sh,dx,st,p,x,qs,ps,rows,t,rs,as,rfl,_⟩:=h;rfl
 obtain ⟨sh,dx,st,p,x,qs,ps,rows,t,rs,as,rfl,S,hx,hf,e⟩:=h;refine ⟨_,(zai (zaq (i:=2) qbs.nd rfl (Or.inl rfl) (zaK zaM (zbl (pv 0) rfl) zag (fun _ _=>rfl)))
   (zai (zbp (zjY qax hr zkE (zaa (pv 2) (zaa (pv 1) zab))))
   (zaz (zaP (zar zl7 (zam zak rfl T.qaz boot_len (zaa (pv 2) zab)) (zc7 rfl T.qbY) (zaB _)) (zae (zdH CL.qeK thrX rfl rfl (zaa zaF zab))) zav)
   (zai (zfY (pv 0) (zaQ (zaa (zax zeU (pv 2) (zaQ (zaa (pv 1) zab))) (zaa (zax zeU (zaK zaM (zbl (pv 0) rfl) zag (fun _ _=>rfl)) (zaQ (zaa (zaQ zab) zab))) zab))) rfl)
   (zai (zbp (zgz F.plainAttrs_list F.slot_list_append F.type_list_append zbO (zbl (pv 0) rfl) (zaa (za5 zab) zab)))
   (zae (zas (zam zak rfl T.qaz boot_len (zaa (pv 2) zab))))))))),?_⟩
 have hfew:=S.stand.few;refine ⟨_,rfl,sh,CS,dx,_,_,rfl,S.ins,O.cl,O.n_kept,rfl,_,_,_,_,rfl,rfl,SqT.of S.stand.st,rfl,?_⟩;exact ⟨_,rfl,_,rfl,.inr ⟨t,x,ps,rfl,S.stand.tr,by omega,hx,hf,e⟩⟩
theorem zoa (T:Txt K mg){qaa qai qal qag qaf qab qad qac qae qah qam qaj qan:Addr}(CL:Cls K mg qaa qai qal qag qaf qab qad qac qae qah qam qaj qan){CS:Addr}(O:OwnC K mg CS)(qaE:DM K CS "full" "Shelf.full" zbY zbb)(qax:FX P w K mg base 3 "need_knot" zaT (ziP K qac)):FMX P w K mg base CS 4 "full" zbb (znB K CS qac):=by
 refine qaE.okx qbt (fun vs H Q E h=>?_) (fun f cdv A outer s H vs Q E hr h=>?_)
 ·obtain ⟨sh,dx,st,p,x,qs,ps,rows,t,rs,as,rfl,_⟩:=h;rfl
 obtain ⟨sh,dx,st,p,x,qs,ps,rows,t,rs,as,rfl,S,hx,hf,e⟩:=h;refine ⟨_,(zai (zbp (zjY qax hr zkE (zaa (zaK zaM (zbl (pv 0) rfl) zag (fun _ _=>rfl)) (zaa (pv 1) zab))))
   (zae (zas (zaW zcB rfl T.qbX boot_list (zaa (zaK zaX (zbl (pv 0) rfl) (pv 1) (fun _ _=>rfl)) zab))))),?_⟩
 have hfew:=S.stand.few;exact ⟨_,rfl,sh,CS,dx,_,_,rfl,S.ins,O.cl,O.n_kept,rfl,_,_,_,_,rfl,rfl,SqT.of S.stand.st,rfl,_,rfl,.inr ⟨t,x,ps,rfl,S.stand.tr,by omega,hx,hf,e⟩⟩
def dl (Av:List Addr)(H:Hp):Hp:=fun b=>if b∈Av then none else H b
def KpV (Av:List Addr)(H H':Hp):Prop:=∀ b o,b∉Av→H b=some o→H' b=some o
section
variable {Av:List Addr}{H H':Hp}
theorem zsN {b:Addr}(h:b∉Av):dl Av H b=H b:=if_neg h
theorem zcH:Same (dl Av H) H:=fun b o e=>by
 unfold dl at e;split at e
 ·cases e
 ·exact e
theorem zit (k:KpV Av H H'):Same (dl Av H) (dl Av H'):=fun b o e=>by
 unfold dl at e ⊢;split at e
 ·cases e
 ·rename_i n;rw[if_neg n];exact k b o n e
theorem zco {b:Addr}{o:HO}(e:H b=some o)(h:b∉Av):dl Av H b=some o:=by rw[zsN h];exact e
def zgs (Av:List Addr)(H:Hp):Prop:=∀ a∈Av,∀ us,H a≠some (.tup us)
theorem zgs.out (n:zgs Av H){b:Addr}{us:List V}(e:H b=some (.tup us)):b∉Av:=fun z=>n b z us e
theorem zgs.dl (n:zgs Av H){b:Addr}{us:List V}(e:H b=some (.tup us)):dl Av H b=some (.tup us):=zco e (n.out e)
theorem zgs.tp (n:zgs Av H):Tp H (My.dl Av H):=fun _ _ e=>n.dl e
theorem KpV.of (s:Same H H'):KpV Av H H':=fun c o _ e=>s c o e
theorem KpV.tp (k:KpV Av H H')(n:zgs Av H):Tp H H':=fun b us e=>k b _ (n.out e) e
theorem zps {α:Type}[Rep α]{K:Frag}{a:α}{v:V}(h:Rep.has K (dl Av H) a v):Rep.has K H a v:=Rep.mono zcH.ext h
theorem zr8 {α:Type}[Rep α]{K:Frag}{a:α}{v:V}(k:KpV Av H H')(h:Rep.has K (dl Av H) a v):Rep.has K (dl Av H') a v:=Rep.mono (zit k).ext h
end
theorem zsE {c A B:Prop}[Decidable c](hc:¬ c)(h:A):if (!decide c)=true then A else B:=by
 rw[yaf hc];exact h
def zjg (b:Bool)(row:List Int)(x:Int):List Int:=if b then putR row x else outR row x
def zjh (rows:List (List Int))(kn:Nat)(x:Int)(b:Bool):List (List Int):=rows.set kn (zjg b (zal rows kn) x)
structure zcU (H:Hp)(r:Addr)(as:List Addr)(rows:List (List Int)):Prop where
 at_:H r=some (.tup (as.map V.ref))
 rows:zaN H as rows
theorem zcU.tp {H H':Hp}{r:Addr}{as:List Addr}{rows:List (List Int)}(h:zcU H r as rows)(e:Tp H H'):zcU H' r as rows:=⟨e _ _ h.at_,ziR e h.rows⟩
theorem zcU.get {H:Hp}{r:Addr}{as:List Addr}{rows:List (List Int)}(h:zcU H r as rows){k:Nat}(hk:k < rows.length):∃ a,atI (as.map V.ref) (k:Int)=some (.ref a)∧H a=some (.tup ((zal rows k).map V.int)):=by
 obtain ⟨a,h1,h2⟩:=h.rows.get hk;exact ⟨a,zfg h1,h2⟩
theorem zrN {L d:Addr}{H':Hp}{p:Addr}{o:List V}(s:LS K L d H')(hp:H' p=some (.tup o)):p≠d:=fun z=>by
 obtain ⟨_,_,_,e,_⟩:=s.ex;rw[← z,hp]at e;cases e
theorem zrO {L d:Addr}{H':Hp}{p:Addr}(s:LS K L d H')(hp:H' p=none):p≠d:=fun z=>by
 obtain ⟨_,_,_,e,_⟩:=s.ex;rw[← z,hp]at e;cases e
theorem zfk {L d:Addr}{H H':Hp}(s:LS K L d H)(k:Keep d H H'):Tp H H':=fun b us e=>k b _ (zrN s e) e
def zo3 (K:Frag):Sp:=fun vs H Q _=>∃(d L t r:Addr) (ps:List Nat) (rows:List (List Int)) (as:List Addr),vs=[.ref d,.ref t,.ref r]∧H t=some (.tup (zbT ps))∧ps.length≤40∧zcU H r as rows∧rows.length=ps.length+1∧zaJ rows∧(∀ k,(zal rows k).length≤400)∧LS K L d H∧
 ∀(u:Addr) (kn:Nat) (x:Int) (H':Hp),H u=none→kn < ps.length+1→zgt x→H' u=some (.tup [.int kn,.int x,.bl (!decide (x∈zal rows kn))])→Keep d H H'→LS K L d H'→Q (.ref u) H'
theorem zp2 (T:Txt K mg)(qd3:DF K mg "_law_step" zfw zet)(qak:FC P w K mg base 2 "_law_take" zbq (ze8 K))(qcU:FC P w K mg base 3 "_law_key" zdJ (znC K)):FC P w K mg base 4 "_law_step" zet (zo3 K):=by
 refine qd3.ok qbr (fun vs H Q E h=>?_) (fun f cdv A outer s H vs Q E hr h=>?_)
 ·obtain ⟨d,L,t,r,ps,rows,as,rfl,_⟩:=h;rfl
 obtain ⟨d,L,t,r,ps,rows,as,rfl,ht,hps,hR,hlen,R,hz,hs,q⟩:=h;refine ⟨_,(zai (zaq (i:=3) qbr.nd rfl (Or.inl rfl) (zaw qak hr (zaa (pv 0) (zaa (zam zak rfl T.qaz boot_len (zaa (pv 1) zab)) zab))))
   (zai (zaq (i:=4) qbr.nd rfl (Or.inl rfl) (zaw qcU hr (zaa (pv 0) zab)))
   (zaz (zaP (PW.pt (zia (zar zkI (zam zak rfl T.qaz boot_len (zaa (zaK zaM (pv 2) (pv 3) (fun _ _=>rfl)) zab)) zag (zaB _)) (zfX (zar zdV (zaw qak hr (zaa (pv 0) (zaa zag zab))) zag (zaB _))))) (zae (zaq (i:=4) qbr.nd rfl (Or.inl rfl) (zaK zaM (zaK zaM (pv 2) (pv 3) (fun _ _=>rfl)) (zaw qak hr (zaa (pv 0) (zaa (zam zak rfl T.qaz boot_len (zaa (zaK zaM (pv 2) (pv 3) (fun _ _=>rfl)) zab)) zab))) (fun _ _=>rfl)))) zav)
   (zae (zas (zaQ (zaa (pv 3) (zaa (pv 4) (zaa (zhn zb2 (pv 4) (zaK zaM (pv 2) (pv 3) (fun _ _=>rfl)) (by with_unfolding_all rfl)) zab))))))))),?_⟩
 have el:=zat ps;refine ⟨_,rfl,_,rfl,_,_,rfl,.inr (SqT.of ht),?_⟩;rw[el];refine ⟨d,L,((ps.length+1:Nat):Int),rfl,⟨by omega,by omega⟩,hs,fun n H1 n0 n1 k1 s1=>?_⟩;obtain ⟨kn,rfl⟩:∃ kn:Nat,n=kn:=⟨n.toNat,by omega⟩;have hkn:kn < ps.length+1:=by omega
 refine ⟨_,rfl,d,L,rfl,s1,fun x H2 x0 x1 k2 s2=>?_⟩;have k02:=k1.trans k2;have R2:=hR.tp (zfk hs k02);obtain ⟨a,ha,hrow⟩:=R2.get (k:=kn) (by omega);have hl:=hz kn;refine ⟨fun σ' H'=>∃ x:Int,σ'=[some (.ref d),some (.ref t),some (.ref r),some (.int kn),some (.int x)]∧zgt x∧Keep d H H'∧LS K L d H',?_,?_⟩
 ·refine ⟨_,rfl,_,rfl,_,_,_,_,rfl,rfl,SqT.of R2.at_,ha,_,_,rfl,.inr (SqT.of hrow),_,_,rfl,rfl,_,rfl,?_⟩;refine ite2 (fun c=>?_) (fun c=>?_)
  ·have c':(0:Int) < (((zal rows kn).map V.int).length:Int):=yaK c;rw[yab]at c';refine ⟨_,rfl,d,L,2,rfl,by decide,s2,fun v H3 _ _ k3 s3=>⟨rfl,_,rfl,?_⟩⟩;have R3:=R2.tp (zfk s2 k3);have hrow3:=zfk s2 k3 _ _ hrow;refine ite2 (fun _=>?_) (fun _=>?_)
   ·refine ⟨_,rfl,_,rfl,_,_,_,_,rfl,rfl,SqT.of R3.at_,ha,_,rfl,_,rfl,_,rfl,_,_,_,_,rfl,rfl,SqT.of R3.at_,ha,_,_,rfl,.inr (SqT.of hrow3),?_⟩;rw[yab];refine ⟨d,L,(((zal rows kn).length:Nat):Int),rfl,⟨by omega,by omega⟩,s3,fun n H4 n0 n1 k4 s4=>?_⟩;obtain ⟨i,rfl⟩:∃ i:Nat,n=i:=⟨n.toNat,by omega⟩;have hi:i < (zal rows kn).length:=by omega
    have hrow4:=zfk s3 k4 _ _ hrow3;refine ⟨_,_,_,_,rfl,rfl,SqT.of hrow4,zdw (v:=.int ((zal rows kn)[i])) (by rw[yaq,yac hi];rfl),?_⟩;exact ⟨_,rfl,R.at_key kn _ (yaT hi),k02.trans (k3.trans k4),s4⟩
   ·exact ⟨x,rfl,⟨x0,x1⟩,k02.trans k3,s3⟩
  ·refine iteF ?_;exact ⟨x,rfl,⟨x0,x1⟩,k02,s2⟩
 rintro _ H3 ⟨x,rfl,hx,k3,s3⟩;have R3:=hR.tp (zfk hs k3);obtain ⟨a,ha,hrow⟩:=R3.get (k:=kn) (by omega);have hfl:((zal rows kn).map V.int).all zdW=true:=yaR.mpr fun y hy=>by
  obtain ⟨z,_,rfl⟩:=yax.mp hy;rfl
 refine ⟨_,rfl,_,rfl,_,rfl,_,rfl,_,rfl,_,_,_,_,rfl,rfl,SqT.of R3.at_,ha,a,_,rfl,.inr (SqT.of hrow),rfl,hfl,(by show 3≤sizeLine;decide),fun u hu=>?_⟩;rw[zeW];have su:=zaf hu (.tup [.int kn,.int x,.bl (!decide (x∈zal rows kn))]);have hu0:H u=none:=by
  cases e:H u with
  | none=>rfl
  | some o=>
   have:=k3 u o (zrO s3 hu) e;rw[hu]at this;cases this
 exact q u kn x _ hu0 hkn hx zac (fun b o n e=>su _ _ (k3 b o n e)) (s3.same su)
theorem zlm {l:List Int}(h:l.Pairwise (· < ·)):l.Pairwise fun a b=>Srt.blt b a=false:=List.Pairwise.imp (fun {a b} (h:a < b)=>yaf (by omega)) h
theorem zjz {l:List Int}(h:l.Pairwise (· < ·)):l.Nodup:=List.Pairwise.imp (fun {a b} (q:a < b)=>by omega) h
theorem zsn {l m:List Int}(h1:l.Pairwise (· < ·))(h2:m.Pairwise (· < ·))(e:∀ x,x∈l↔x∈m):l=m:=by
 have p:=(ycA (zjz h1) (zjz h2)).mpr e;rw[zef p (zlm h1),zh7 (zlm h2)]
theorem znH {row:List Int}{x:Int}(h:row.Pairwise (· < ·))(n:x∉row):zcY (row++[x])=putR row x:=by
 refine (zef ?_ (zlm (zpf h n))).symm;unfold putR;have:=(ybO (l₁:=[x]) (l₂:=row.drop (loN row x))).append_left (row.take (loN row x));rwa[← yaM,← yaM,yaO]at this
theorem zkG {row:List Int}{x:Int}(h:row.Pairwise (· < ·))(hx:x∈row):row.filter (fun y=>!decide (y=x))=outR row x:=by
 refine zsn (h.sublist List.filter_sublist) (h.sublist (zeT _ _)) fun y=>?_;rw[zl4 h hx,yba];simp
def zjN (K:Frag):Sp:=fun vs H Q _=>∃(r:Addr) (kn:Nat) (x:Int) (b:Bool) (rows:List (List Int)) (as:List Addr),vs=[.ref r,.int kn,.int x,.bl b]∧zcU H r as rows∧kn < rows.length∧rows.length≤60∧zaJ rows∧(∀ k,(zal rows k).length≤400)∧(b=!decide (x∈zal rows kn))∧
 ∀(r':Addr) (as':List Addr) (H':Hp),H r'=none→Same H H'→zcU H' r' as' (zjh rows kn x b)→Q (.ref r') H'
theorem zmg (T:Txt K mg)(qbK:DF K mg "_law_behind" zdB zc5):FC P w K mg base 1 "_law_behind" zc5 (zjN K):=by
 refine qbK.ok qcy (fun vs H Q E h=>?_) (fun f cdv A outer s H vs Q E hr h=>?_)
 ·obtain ⟨r,kn,x,b,rows,as,rfl,_⟩:=h;rfl
 obtain ⟨r,kn,x,b,rows,as,rfl,hR,hkn,hz0,R,hz,hb,q⟩:=h;refine ⟨_,(zai (zaq (i:=4) qcy.nd rfl (Or.inl rfl) (zaW zcB rfl T.qbX boot_list (zaa (pv 0) zab)))
   (zaz (zaP (zbZ (pv 3)) (zae (zfZ (zaW zaS rfl T.qaK boot_tuple (zaa (zam (zgU Int) rfl T.qct boot_sorted (zaa (zax zeU (zaK zaX (pv 4) (pv 1) (fun _ _=>rfl)) (zaQ (zaa (pv 2) zab))) zab)) zab)) (zid (pv 4) (pv 1) zeg))) (zae (zfZ (zaW zaS rfl T.qaK boot_tuple (zaa (zb5 (N:=["_law_other","_law_key_here"]) (own:=1) (cap:=[2]) rfl (zf0 (zaK zaX (pv 4) (pv 1) (fun _ _=>rfl))) ⟨rfl,rfl,rfl,rfl,rfl,rfl⟩ (fun _ _ _ _ _=>(zay (i:=0) (show List.Nodup (["_law_other","_law_key_here"]:List Str) by decide +kernel) rfl (Or.inl rfl))) (fun _ _ _ _ _=>(zeR (zar znU (pv 0) (pv 1) (zaB _)))) (fun _ _ _ _ _=>(pv 0))) zab)) (zid (pv 4) (pv 1) zeg))))
   (zae (zas (zaW zaS rfl T.qaK boot_tuple (zaa (pv 4) zab)))))),?_⟩
 obtain ⟨a,ha,hrow⟩:=hR.get hkn;have hl:=hz kn;have hal:=hR.rows.length;refine ⟨_,rfl,r,_,rfl,.inr (SqT.of hR.at_),fun l hl0=>?_⟩;have s1:=zaf hl0 (.lst (as.map V.ref));have h1:upd H l (.lst (as.map V.ref)) l=some (.lst (as.map V.ref)):=zac;generalize upd H l (.lst (as.map V.ref))=H1 at s1 h1 ⊢;refine ⟨fun σ' H'=>∃ v:Addr,σ'=[some (.ref r),some (.int kn),some (.int x),some (.bl b),some (.ref l)]∧H' l=some (.lst ((as.map V.ref).set kn (.ref v)))∧H' v=some (.tup ((zjg b (zal rows kn) x).map V.int))∧Same H H',?_,?_⟩
 ·have ha1:=s1 _ _ hrow;have nal:∀{c:Addr} {us:List V} {H':Hp},H' l=some (.lst (as.map V.ref))→H' c=some (.tup us)→c≠l:=fun e1 e2 z=>by rw[z,e1]at e2;cases e2
  have fin:∀(v:Addr) (H':Hp),Same H1 H'→H' v=some (.tup ((zjg b (zal rows kn) x).map V.int))→∃ v':Addr,[some (V.ref r),some (.int kn),some (.int x),some (.bl b),some (.ref l)]=[some (.ref r),some (.int kn),some (.int x),some (.bl b),some (.ref l)]∧upd H' l (.lst ((as.map V.ref).set kn (.ref v))) l=some (.lst ((as.map V.ref).set kn (.ref v')))∧upd H' l (.lst ((as.map V.ref).set kn (.ref v))) v'=some (.tup ((zjg b (zal rows kn) x).map V.int))∧Same H (upd H' l (.lst ((as.map V.ref).set kn (.ref v)))):=fun v H' s' hv=>
   ⟨v,rfl,zac,by rw[zaj (nal (s' _ _ h1) hv)];exact hv,fun c o e=>by rw[zaj (zad e hl0)];exact s' _ _ (s1 _ _ e)⟩
  refine ⟨_,rfl,_,rfl,?_⟩;cases b with
  | true=>
   refine iteT ?_;have hx:x∉zal rows kn:=fun z=>by rw[yaj z]at hb;cases hb
   refine ⟨_,rfl,_,rfl,_,_,_,_,rfl,rfl,SqL.of h1,ha,_,rfl,(by show 1≤sizeLine;decide),fun u hu=>?_⟩;have s2:=zaf hu (.tup [.int x]);have h2:upd H1 u (.tup [.int x]) u=some (.tup [.int x]):=zac;generalize upd H1 u (.tup [.int x])=H2 at s2 h2 ⊢;refine zkl (s2 _ _ ha1) h2 (fun z=>nomatch z) (ya3 (zau (by rw[yab];show _+1≤1000;omega))) fun v3 H3 s3 h3=>?_;rw[show (zal rows kn).map V.int++[V.int x]=(zal rows kn++[x]).map V.int by rw[yaw];rfl]at h3;refine ⟨v3,_,zal rows kn++[x],rfl,SqT.of h3,zan.ints,fun l4 ws hl4 hw=>?_⟩;rw[hw.toInts,znH (R.at_up kn) hx];have s4:=zaf hl4 (.lst ((putR (zal rows kn) x).map V.int));refine ⟨l4,_,rfl,.inl ⟨SqL.of zac,fun v5 hv5=>?_⟩⟩;have s5:=zaf hv5 (.tup ((putR (zal rows kn) x).map V.int));have s15:Same H1 _:=s2.trans (s3.trans (s4.trans s5));refine ⟨_,rfl,_,rfl,l,_,_,kn,rfl,rfl,s15 _ _ h1,zgb (by rw[yab,hal];exact hkn),?_⟩;exact fin v5 _ s15 zac
  | false=>
   refine iteF ?_;have hx:x∈zal rows kn:=Classical.byContradiction fun z=>by rw[yaf z]at hb;cases hb
   refine ⟨_,rfl,_,rfl,_,_,_,_,rfl,rfl,SqL.of h1,ha,a,rfl,⟨_,SqT.of ha1⟩,fun D hD=>?_⟩;refine zeI (xs:=(zal rows kn).map V.int) (fun i σ H2=>∃ x0:Option V,σ=[x0,some (.int x)]∧H2 D=some (.lst ((((zal rows kn).take i).filter (fun y=>!decide (y=x))).map V.int))∧But D H1 H2) ?_ ?_ ?_ ?_
   ·exact ⟨_,rfl,zac,fun b o n e=>by rw[zaj n];exact e⟩
   ·rintro i σ H2 _ ⟨x0,rfl,_,k2⟩;exact SqT.of (k2 _ _ (zad ha1 hD) ha1)
   ·rintro i m v σ H2 hv hm ⟨x0,rfl,h2,k2⟩;rw[yab]at hm;rw[yaq]at hv;obtain ⟨y,hy,rfl⟩:=ybA.mp hv;obtain ⟨hi,rfl⟩:=yap.mp hy;have hfl:=ya9 (fun y=>!decide (y=x)) ((zal rows kn).take i);rw[yao]at hfl;rw[yaU hi,ybg];refine ⟨_,rfl,_,rfl,rfl,_,rfl,?_⟩;by_cases c:(zal rows kn)[i]=x
    ·refine zil (show V.int _=V.int _ by rw[c]) ?_;refine ⟨m - 1,by omega,by rw[yab];omega,_,rfl,?_,k2⟩;rw[ybW (by rw[yaj c];decide),List.filter_nil,yay];exact h2
    ·refine zsE (fun z=>c (V.int.inj z)) ?_;refine ⟨_,rfl,_,h2,zau (by rw[yab];omega),m - 1,by omega,by rw[yab];omega,_,rfl,?_,fun b o n e=>by rw[zaj n];exact k2 b o n e⟩;rw[zac,ybw (by rw[yaf c];rfl),List.filter_nil,yaw];rfl
   ·rintro σ H2 ⟨x0,rfl,h2,k2⟩;rw[yab,yav (yaa _),zkG (R.at_up kn) hx]at h2;have s2:Same H1 H2:=fun b o e=>k2 b o (zad e hD) e;refine ⟨D,_,rfl,.inl ⟨SqL.of h2,fun v5 hv5=>?_⟩⟩;have s15:Same H1 _:=s2.trans (zaf hv5 (.tup ((outR (zal rows kn) x).map V.int)));refine ⟨_,rfl,_,rfl,l,_,_,kn,rfl,rfl,s15 _ _ h1,zgb (by rw[yab,hal];exact hkn),?_⟩;exact fin v5 _ s15 zac
 rintro _ H2 ⟨v,rfl,h2,hv,s2⟩;refine ⟨_,rfl,l,_,rfl,.inl ⟨SqL.of h2,fun r' hr'=>?_⟩⟩;have s3:=zaf hr' (.tup ((as.map V.ref).set kn (.ref v)));have s03:=s2.trans s3;refine q r' (as.set kn v) _ (s2.free hr') s03 ⟨?_,zd4 (s3 _ _ hv) kn (hR.rows.ext s03)⟩;rw[zac,ybX]
def optL (ps:List Nat):List (Option Int):=none::ps.map fun (p:Nat)=>some (Int.ofNat p)
theorem zjD {K:Frag}{H:Hp}(ps:List Nat):zan K H (optL ps) (zbT ps):=by
 refine .cons rfl ?_
 induction ps with
 | nil=>exact .nil
 | cons p ps ih=>exact .cons rfl ih
theorem zhf {K:Frag}{H:Hp}:∀{as:List Addr} {rows:List (List Int)},zaN H as rows→zan K H (rows.map Tup.mk) (as.map V.ref)
 | _,_,.nil=>.nil
 | _,_,.cons h t=>.cons ⟨_,_,rfl,SqT.of h,zan.ints⟩ (zhf t)
abbrev StD:Type:=Tup (Option Int)×Tup (Tup Int)
def zhZ (ps:List Nat)(rows:List (List Int)):StD:=(⟨optL ps⟩,⟨rows.map Tup.mk⟩)
theorem zfQ {K:Frag}{H:Hp}{st t rs:Addr}{ps:List Nat}{rows:List (List Int)}{as:List Addr}(S:zbF H st ps rows t rs as):Rep.has K H (zhZ ps rows) (.ref st):=
 ⟨st,_,_,rfl,S.st,⟨_,_,rfl,SqT.of S.tr,zjD ps⟩,⟨_,_,rfl,SqT.of S.rs,zhf S.at_⟩⟩
def zmS (ps:List Nat)(rows:List (List Int)):List (List En):=(List.range (ps.length+1)).map (zao ps rows)
structure ze6 (Av:List Addr)(H:Hp):Prop where
 some:∀ a∈Av,H a≠none
 tup:zgs Av H
theorem ze6.fresh {Av:List Addr}{H:Hp}(A:ze6 Av H){b:Addr}(h:H b=none):b∉Av:=fun z=>A.some b z h
abbrev ToT:Type:=Tri Int (List En) (List En)
section
variable {ps:List Nat}{rows rows':List (List Int)}{k:Nat}
theorem zlk {m:Nat}(h:upN ps k m=none):∀ d,upN ps k (m+d)=none
 | 0=>h
 | d+1=>by
  show (upN ps k (m+d)).bind (par ps)=none;rw[zlk h d];rfl
theorem zhU {m:Nat}(h:upN ps k m=none):∀ d,zdi ps rows rows' k (m+d)=zdi ps rows rows' k m
 | 0=>rfl
 | d+1=>by
  show zdi ps rows rows' k (m+d)++((upN ps k (m+d)).map (znv ps rows rows')).toList=_;rw[zhU h d,zlk h d];exact yay _
theorem zlu {m n:Nat}(h1:zjt ps rows rows' k m)(h2:zjt ps rows rows' k n)(h:m≤n):zdi ps rows rows' k n=zdi ps rows rows' k m:=by
 rcases ybt m n with z | z
 ·rcases h1.2 with y | ⟨j,y1,y2,y3⟩
  ·have:=zhU (rows:=rows) (rows':=rows') y (n - m);rwa[show m+(n - m)=n by omega]at this
  ·exact absurd ⟨y2,y3⟩ (h2.1 m j z y1)
 ·rw[show m=n by omega]
theorem znu {m n:Nat}(h1:zjt ps rows rows' k m)(h2:zjt ps rows rows' k n):zdi ps rows rows' k m=zdi ps rows rows' k n:=by
 rcases Nat.le_total m n with z | z
 ·exact (zlu h1 h2 z).symm
 ·exact zlu h2 h1 z
end
section
variable {rows:List (List Int)}{kn:Nat}{x:Int}{b:Bool}
theorem zk2 (hk:kn < rows.length):zbP (zjh rows kn x b)≤zbP rows+1:=by
 have:=zfH (r:=zjg b (zal rows kn) x) hk;unfold zjh;cases b with
 | true=>
  have e:(zjg true (zal rows kn) x).length=(zal rows kn).length+1:=zlU;omega
 | false=>
  have e:(zjg false (zal rows kn) x).length≤(zal rows kn).length:=(zeT _ _).length_le;omega
end
structure zcV (K:Frag)(CS mp:Addr)(H H':Hp)(sh dx p D:Addr)(us:List V)(m:Nat)(qs qs':List Addr)(st' t rs':Addr)(as':List Addr)(ps:List Nat)(rows rows':List (List Int))(kn:Nat):Prop where
 stops:zjt ps rows rows' kn m
 new:H D=none
 qn:∀ q∈qs',q∈qs∨H q=none
 kd:Kd sh p mp H H'
 shelf:zaC K CS H' sh dx st' p qs' ps rows' t rs' as'
 tab:zbh H' mp zdf lamQ
 at_:H' D=some (.lst us)
 told:zbH K H' D (fun b=>H b=none∧b∉qs') (zdi ps rows rows' kn m) us
theorem zqn {K:Frag}{H:Hp}{R:ToT→V→Prop}(h:∀ e v,R e v→Rep.has K H e v){es:List ToT}{us:List V}(p:Paired R es us):zan K H es us:=by
 induction p with
 | nil=>exact .nil
 | cons a _ ih=>exact .cons (h _ _ a) ih
theorem zbH.dl {K:Frag}{H H':Hp}{D:Addr}{Av qs:List Addr}(A:ze6 Av H)(A':zgs Av H'){es:List ToT}{us:List V}(h:zbH K H' D (fun b=>H b=none∧b∉qs) es us):zan K (dl Av H') es us:=zqn (fun e v z=>by
 obtain ⟨u,g,c,gw,cw,e1,e2,e3,e4,e5,e6,n1,n2,n3,n4⟩:=z.ex;exact ⟨u,_,_,_,e1,A'.dl e2,rfl,⟨g,gw,rfl,SqL.of (zco e3 (A.fresh n3.1)),zbo A'.tp e4⟩,⟨c,cw,rfl,SqL.of (zco e5 (A.fresh n4.1)),zbo A'.tp e6⟩⟩) h
section
variable {K:Frag}{CS mp:Addr}{H H':Hp}{sh dx p D:Addr}{us:List V}{m:Nat}{qs qs':List Addr}{st' t rs':Addr}{as':List Addr}{ps:List Nat}{rows rows':List (List Int)}{kn:Nat}{Av:List Addr}
theorem zcV.apart (X:zcV K CS mp H H' sh dx p D us m qs qs' st' t rs' as' ps rows rows' kn)(A:ze6 Av H):ze6 Av H':=by
 have h:∀ a∈Av,∃ o,H' a=some o∧∀ us,o≠.tup us:=fun a ha=>by
  by_cases z1:a=sh
  ·rw[z1];exact ⟨_,X.shelf.ins,fun _ z=>by cases z⟩
  ·by_cases z2:a=p
   ·rw[z2];exact ⟨_,X.shelf.full.at_,fun _ z=>by cases z⟩
   ·by_cases z3:a=mp
    ·obtain ⟨tab,e,_⟩:=X.tab.ex;rw[z3];exact ⟨_,e,fun _ z=>by cases z⟩
    ·cases e:H a with
     | none=>exact absurd e (A.some a ha)
     | some o=>exact ⟨o,X.kd a o z1 z2 z3 e,fun us z=>A.tup a ha us (by rw[e,z])⟩
 refine ⟨fun a ha z=>?_,fun a ha us z=>?_⟩
 ·obtain ⟨o,e,_⟩:=h a ha;rw[e]at z;cases z
 ·obtain ⟨o,e,n⟩:=h a ha;rw[e]at z;exact n us (yad z)
theorem zcV.kp (X:zcV K CS mp H H' sh dx p D us m qs qs' st' t rs' as' ps rows rows' kn)(h1:sh∈Av)(h2:p∈Av)(h3:mp∈Av):KpV Av H H':=fun b o n e=>X.kd b o (fun z=>n (z ▸ h1)) (fun z=>n (z ▸ h2)) (fun z=>n (z ▸ h3)) e
theorem zcV.data (X:zcV K CS mp H H' sh dx p D us m qs qs' st' t rs' as' ps rows rows' kn)(A:ze6 Av H):Rep.has K (dl Av H') (zdi ps rows rows' kn m) (.ref D):=
 ⟨D,us,rfl,SqL.of (zco X.at_ (A.fresh X.new)),X.told.dl A (X.apart A).tup⟩
theorem zaC.same (S:zaC K CS H sh dx st' p qs ps rows t rs' as')(s:Same H H'):zaC K CS H' sh dx st' p qs ps rows t rs' as':=⟨s _ _ S.own,s _ _ S.ins,S.stand.same s,S.full.ext s.ext⟩
theorem zaC.ext (S:zaC K CS H sh dx st' p qs ps rows t rs' as')(e:Ext H H'):zaC K CS H' sh dx st' p qs ps rows t rs' as':=⟨e _ _ S.own (fun _ z=>nomatch z),e _ _ S.ins (fun _ z=>nomatch z),zb8 (fun b us h=>e _ _ h (fun _ z=>nomatch z)) S.stand,S.full.ext e⟩
theorem zaC.dl (S:zaC K CS H sh dx st' p qs ps rows t rs' as')(A:zgs Av H)(h1:sh∉Av)(h2:dx∉Av)(h3:p∉Av)(h4:∀ q∈qs,q∉Av):zaC K CS (dl Av H) sh dx st' p qs ps rows t rs' as':=by
 refine ⟨zco S.own h2,zco S.ins h1,zb8 A.tp S.stand,zco S.full.at_ h3,S.full.len,S.full.nd,S.full.np,fun j q hq=>?_⟩;obtain ⟨ws,g1,g2⟩:=S.full.get j q hq;exact ⟨ws,zco g1 (h4 q (yaJ hq)),zbo A.tp g2⟩
end
def Kp0 (H H':Hp):Prop:=∀ b o,(∀ tab,o≠.tbl tab)→H b=some o→H' b=some o
theorem zrP {L d:Addr}{H H':Hp}(s:LS K L d H)(g:Kp0 H H'):LS K L d H':=by
 obtain ⟨ns,a,l,e,q⟩:=s.ex;refine ⟨ns,a,l,g _ _ (fun _ z=>nomatch z) e,?_⟩;rcases q with (q | ⟨o,q⟩) | q
 ·exact .inl (.inl (g _ _ (fun _ z=>nomatch z) q))
 ·exact .inl (.inr ⟨o,g _ _ (fun _ z=>nomatch z) q⟩)
 ·exact .inr q
theorem zmt {L d:Addr}{Bv:List Addr}{H H':Hp}(s:LS K L d (dl Bv H))(k:Keep d H H')(s':LS K L d H'):LS K L d (dl Bv H'):=by
 obtain ⟨ns,a,l,e,q⟩:=s.ex;obtain ⟨ns',a',l',e',_⟩:=s'.ex;have nd:d∉Bv:=fun z=>by
  unfold dl at e;rw[if_pos z]at e;cases e
 have k':Keep d (dl Bv H) (dl Bv H'):=fun b o n h=>by
  unfold dl at h ⊢;split at h
  ·cases h
  ·rename_i nb;rw[if_neg nb];exact k b o n h
 exact ⟨ns,a',l',zco e' nd,zfq e k' q⟩
theorem zgL {K:Frag}{CS:Addr}{H:Hp}{sh dx st:Addr}{ps:List Nat}{rows:List (List Int)}{t rs:Addr}{as:List Addr}{Q:VK}{E:XK}(S:zbF H st ps rows t rs as)(hsh:H sh=none)(hdx:H dx=none)(hne:dx≠sh)
  (q:∀(p:Addr) (qs:List Addr) (H':Hp),H p=none→(∀ q∈qs,H q=none)→Same H H'→zaC K CS H' sh dx st p qs ps rows t rs as→Q .non H'):zlH K CS [.ref sh,.ref st] (upd (upd H dx (.own sh)) sh (.ins CS dx [])) Q E:=by
 have s1:=zaf hdx (.own sh);have hsh1:upd H dx (.own sh) sh=none:=by rw[zaj (Ne.symm hne)];exact hsh
 have s2:=zaf hsh1 (.ins CS dx []);have s12:=s1.trans s2;refine ⟨sh,dx,st,ps,rows,t,rs,as,rfl,s2 _ _ zac,zac,S.same s12,fun p qs H' hp hq hb S'=>?_⟩;exact q p qs H' (s12.free hp) (fun x hx=>s12.free (hq x hx)) (fun b o e=>hb b o (zad e hsh) (s12 _ _ e)) S'
theorem zoQ {Av:List Addr}{H:Hp}(all:∀ b∈Av,∃ o,H b=some o∧∀ us,o≠.tup us):ze6 Av H:=by
 refine ⟨fun b hb z=>?_,fun b hb us z=>?_⟩
 ·obtain ⟨o,e,_⟩:=all b hb;rw[e]at z;cases z
 ·obtain ⟨o,e,n⟩:=all b hb;rw[e]at z;exact n us (yad z)
structure SNow (K:Frag)(CS mp a:Addr)(H:Hp)(d sh p:Addr)(qs:List Addr)(ps:List Nat)(rows:List (List Int)):Prop where
 shelf:∃ dx st t rs as,zaC K CS H sh dx st p qs ps rows t rs as
 tab:zbh H mp zdf lamQ
 ls:LS K a d (dl [sh,p,mp] H)
section
variable {K:Frag}{CS mp a d sh p:Addr}{H H':Hp}{qs:List Addr}{ps:List Nat}{rows:List (List Int)}
theorem SNow.lsH (h:SNow K CS mp a H d sh p qs ps rows):LS K a d H:=h.ls.same zcH
theorem SNow.apart (h:SNow K CS mp a H d sh p qs ps rows):ze6 [d,sh,p,mp] H:=by
 obtain ⟨dx,st,t,rs,as,S⟩:=h.shelf;obtain ⟨ns,x,l,e,_⟩:=h.lsH.ex;obtain ⟨tab,e2,_⟩:=h.tab.ex;refine zoQ fun b hb=>?_;simp only[yah,yaQ,or_false]at hb;rcases hb with rfl | rfl | rfl | rfl
 ·exact ⟨_,e,fun _ z=>by cases z⟩
 ·exact ⟨_,S.ins,fun _ z=>by cases z⟩
 ·exact ⟨_,S.full.at_,fun _ z=>by cases z⟩
 ·exact ⟨_,e2,fun _ z=>by cases z⟩
theorem SNow.same (h:SNow K CS mp a H d sh p qs ps rows)(s:Same H H'):SNow K CS mp a H' d sh p qs ps rows:=by
 obtain ⟨dx,st,t,rs,as,S⟩:=h.shelf;exact ⟨⟨dx,st,t,rs,as,S.same s⟩,h.tab.ext s.ext,h.ls.same (zit (KpV.of s))⟩
theorem SNow.take (h:SNow K CS mp a H d sh p qs ps rows)(k:Keep d H H')(s:LS K a d H'):SNow K CS mp a H' d sh p qs ps rows:=by
 obtain ⟨dx,st,t,rs,as,S⟩:=h.shelf;have e:=h.lsH.ext k;exact ⟨⟨dx,st,t,rs,as,S.ext e⟩,h.tab.ext e,zmt h.ls k s⟩
theorem SNow.new {H0:Hp}{dx st t rs:Addr}{as:List Addr}(s0:LS K a d H0)(hT:zbh H0 mp zdf lamQ)(s:Same H0 H)(hsh:H0 sh=none)(hp:H0 p=none)(S:zaC K CS H sh dx st p qs ps rows t rs as):SNow K CS mp a H d sh p qs ps rows:=by
 refine ⟨⟨dx,st,t,rs,as,S⟩,hT.ext s.ext,zrP s0 fun b o n e=>zco (s _ _ e) fun z=>?_⟩;simp only[yah,yaQ,or_false]at z;rcases z with rfl | rfl | rfl
 ·rw[hsh]at e;cases e
 ·rw[hp]at e;cases e
 ·obtain ⟨tab,e2,_⟩:=hT.ex;rw[e2]at e;exact n _ (yad e).symm
end
theorem zmC {m:Nat}:∀{rows:List (List Int)},(∀ row∈rows,row.length≤m)→zbP rows≤rows.length * m
 | [],_=>yaH _
 | r::rows,h=>by
  have h1:=h r yaA;have h2:=zmC (m:=m) (rows:=rows) fun x hx=>h x (yau _ hx);unfold zbP at h2 ⊢;rw[yan,yaG,yaI,Nat.succ_mul];omega
theorem zhg {rows:List (List Int)}(k:Nat):(zal rows k).length≤zbP rows:=by
 unfold zal;rw[yag];cases e:rows[k]? with
 | none=>exact yaH _
 | some r=>exact zfI (yaJ e)
def zrI (b:Bool)(rows:List (List Int))(kn:Nat)(x:Int):Prop:=(b=true→zqb rows kn x)∧(b=false→zqc rows kn x)
theorem zmh {b:Bool}{rows:List (List Int)}{kn:Nat}{x:Int}(hb:b=!decide (x∈zal rows kn))(hk:zbP rows < 300):zrI b rows kn x:=
 ⟨fun z=>⟨fun y=>(by rw[z,yaj y]at hb;cases hb),hk⟩,fun z=>show x∈zal rows kn from Classical.byContradiction fun y=>by rw[z,yaf y]at hb;cases hb⟩
theorem FA.snoc {K:Frag}{H:Hp}{p:Addr}{qs:List Addr}{n:Nat}{f:Nat→List En}{E:Addr}{ws:List V}(h:FA K H p qs n f)(hE:H E=none)(hw:zan K H (f n) ws):FA K (upd (upd H E (.lst ws)) p (.lst (qs.map V.ref++[.ref E]))) p (qs++[E]) (n+1) f:=by
 have s1:=zaf hE (.lst ws);have e1:upd H E (.lst ws) E=some (.lst ws):=zac;have nEp:E≠p:=fun z=>by rw[z,h.at_]at hE;cases hE
 have p1:=s1 _ _ h.at_;have nq:E∉qs:=fun z=>by
  obtain ⟨i,hi,ei⟩:=ya1 z;obtain ⟨ws,w1,_⟩:=h.get i E (by rw[yac hi,ei]);rw[hE]at w1;cases w1
 have hl:=h.len;refine ⟨by rw[zac,yaw];rfl,by rw[yas,ybk,hl],?_,?_,fun j q hj=>?_⟩
 ·rw[ya8];exact ⟨h.nd,yaS.mpr ⟨(fun z=>nomatch z),ybd⟩,fun a ha b hb e=>nq ((e.trans (yal.mp hb)) ▸ ha)⟩
 ·intro z;rcases yak.mp z with y | y
  ·exact h.np y
  ·exact nEp (yal.mp y).symm
 ·rcases ybt j qs.length with c | c
  ·rw[ybn c]at hj;obtain ⟨us,g1,g2⟩:=h.get j q hj;have hne:q≠p:=fun z=>h.np (z ▸ yaJ hj);exact ⟨us,by rw[zaj hne];exact s1 _ _ g1,zbN p1 (g2.mono s1.ext)⟩
  ·rw[ybj c]at hj;have hj0:j - qs.length=0:=by
    have:=(yap.mp hj).1;rw[ybk]at this;omega
   rw[hj0]at hj;cases hj
   have:j=n:=by omega
   subst this;exact ⟨ws,by rw[zaj nEp];exact e1,zbN p1 (hw.mono s1.ext)⟩
inductive RefW (K:Frag)(H:Hp)(ps:List Nat)(rows:List (List Int)):Str→V→V→Nat→Prop where
 | knot (w:Str) (x y:V) (hw:w = "put"∨w = "out"∨w = "hang"∨w = "full") (h1:AnyV K H x) (h2:zcQ (ps.length+1) x=false):RefW K H ps rows w x y 0
 | key (w:Str) (kn:Nat) (y:V) (hw:w = "put"∨w = "out") (h1:kn < ps.length+1) (h2:zfm K H y false):RefW K H ps rows w (.int kn) y 1
 | twice (kn:Nat) (k:Int) (h1:kn < ps.length+1) (h2:zgt k) (h3:k∈zal rows kn):RefW K H ps rows "put" (.int kn) (.int k) 2
 | missing (kn:Nat) (k:Int) (h1:kn < ps.length+1) (h2:zgt k) (h3:k∉zal rows kn):RefW K H ps rows "out" (.int kn) (.int k) 3
theorem RefW.lt {K:Frag}{H:Hp}{ps:List Nat}{rows:List (List Int)}{w:Str}{x y:V}{c:Nat}(h:RefW K H ps rows w x y c):c < 4:=by cases h <;> decide
structure ClsF (K:Frag)(os:List Addr)(c0 c1 c2 c3 C:Addr)(c:Nat):Prop where
 x:ExcC K C
 v:kitOne K (.ref C) (.type "ValueError")=some true
 o:PySem.W.kitAny K (.ref C) (os.map Value.ref)=some false
 k0:kitOne K (.ref C) (.ref c0)=some (decide (c=0))
 k1:kitOne K (.ref C) (.ref c1)=some (decide (c=1))
 k2:kitOne K (.ref C) (.ref c2)=some (decide (c=2))
 k3:kitOne K (.ref C) (.ref c3)=some (decide (c=3))
def refS:Nat→Str
 | 0 => "knot"
 | 1 => "key"
 | 2 => "twice"
 | _ => "missing"
theorem zhC {K:Frag}{C:Addr}:∀{os:List Addr},(∀ o∈os,kitOne K (.ref C) (.ref o)=some false)→PySem.W.kitAny K (.ref C) (os.map Value.ref)=some false:=fun {os}=>by
 induction os with
 | nil=>exact fun _=>rfl
 | cons o os ih=>
  intro h;have h1:=h o yaA;have h2:=ih fun x hx=>h x (yau _ hx);simp only[List.map,PySem.W.kitAny,h1,h2]
theorem zqF {qaa qai qal qag qaf qab qad qac qae qah qam qaj qan:Addr}(CL:Cls K mg qaa qai qal qag qaf qab qad qac qae qah qam qaj qan)(c:Nat)(hc:c < 4):∃ C,ClsF K [qah,qad,qam,qag,qaj,qai,qal] qac qae qaf qab C c∧zdx K C qaa∧(c=0→C=qac)∧(c=1→C=qae)∧(c=2→C=qaf)∧(c=3→C=qab):=by
 have all:∀{P:Addr→Prop},P qah→P qad→P qam→P qag→P qaj→P qai→P qal→∀ o∈[qah,qad,qam,qag,qaj,qai,qal],P o:=fun h1 h2 h3 h4 h5 h6 h7 o ho=>by
  simp only[yah,yaQ,or_false]at ho;rcases ho with rfl | rfl | rfl | rfl | rfl | rfl | rfl <;> assumption
 rcases c with _ | _ | _ | _ | c
 ·exact ⟨qac,⟨CL.qf5,CL.qf7,zhC (all CL.qb2 CL.qcA CL.qdl CL.qb0 CL.qcC CL.qcz CL.qdi),CL.qcB,CL.qdk,CL.qdj,CL.qb1⟩,CL.qf6,fun _=>rfl,(fun z=>nomatch z),(fun z=>nomatch z),(fun z=>nomatch z)⟩
 ·exact ⟨qae,⟨CL.qgu,CL.qgw,zhC (all CL.qcF CL.qdn CL.qdO CL.qcD CL.qdp CL.qdm CL.qdL),CL.qdo,CL.qdN,CL.qdM,CL.qcE⟩,CL.qgv,(fun z=>nomatch z),fun _=>rfl,(fun z=>nomatch z),(fun z=>nomatch z)⟩
 ·exact ⟨qaf,⟨CL.qgy,CL.qgA,zhC (all CL.qcI CL.qdr CL.qdS CL.qcG CL.qdt CL.qdq CL.qdP),CL.qds,CL.qdR,CL.qdQ,CL.qcH⟩,CL.qgz,(fun z=>nomatch z),(fun z=>nomatch z),fun _=>rfl,(fun z=>nomatch z)⟩
 ·exact ⟨qab,⟨CL.qfn,CL.qfp,zhC (all CL.qbE CL.qb4 CL.qcM CL.qbC CL.qb6 CL.qb3 CL.qcJ),CL.qb5,CL.qcL,CL.qcK,CL.qbD⟩,CL.qfo,(fun z=>nomatch z),(fun z=>nomatch z),(fun z=>nomatch z),fun _=>rfl⟩
 ·omega
def zgy (c:Nat):List Bool:=[decide (c=0),decide (c=1),decide (c=2),decide (c=3)]
theorem zlQ {c:Nat}(h:c < 4):(zgy c).filter id=[true]∧(zgy c)[c]?=some true∧(∀ j,j < c→(zgy c)[j]?≠some true)∧atI [V.str "knot",.str "key",.str "twice",.str "missing"] (c:Int)=some (.str (refS c)):=by
 rcases c with _ | _ | _ | _ | c
 ·exact ⟨rfl,rfl,(fun j hj=>by omega),rfl⟩
 ·refine ⟨rfl,rfl,fun j hj=>?_,rfl⟩;have:j=0:=by omega
  subst this;decide
 ·refine ⟨rfl,rfl,fun j hj=>?_,rfl⟩;rcases j with _ | _ | j
  ·decide
  ·decide
  ·omega
 ·refine ⟨rfl,rfl,fun j hj=>?_,rfl⟩;rcases j with _ | _ | _ | j
  ·decide
  ·decide
  ·decide
  ·omega
 ·omega
theorem znf {K:Frag}{H:Hp}{bs:List Bool}:zan K H bs (bs.map V.bl):=by
 induction bs with
 | nil=>exact .nil
 | cons b bs ih=>exact .cons rfl ih
def zh3 (K:Frag)(CS:Addr):Sp:=fun vs H Q _=>∃(sh dx st p:Addr) (w:Str) (x y:V) (c:Nat) (qs:List Addr) (ps:List Nat) (rows:List (List Int)) (t rs:Addr) (as:List Addr),vs=[.ref sh,.str w,x,y]∧zaC K CS H sh dx st p qs ps rows t rs as∧RefW K H ps rows w x y c∧∀ H',Same H H'→Q (.str (refS c)) H'
theorem zkL (T:Txt K mg){qaa qai qal qag qaf qab qad qac qae qah qam qaj qan:Addr}(CL:Cls K mg qaa qai qal qag qaf qab qad qac qae qah qam qaj qan){CS:Addr}(O:OwnC K mg CS)(qbn:DF K mg "_law_refused" zcZ zcx)(qa1:FMX P w K mg base CS 8 "put" zbj (zo6 K CS qac qae qaf qad))(qa2:FMX P w K mg base CS 8 "out" zbk (zo7 K CS qac qae qab))(qeb:FMX P w K mg base CS 4 "hang" zcc (znB K CS qac))(qaW:FMX P w K mg base CS 4 "full" zbb (znB K CS qac)):FC P w K mg base 9 "_law_refused" zcx (zh3 K CS):=by
 refine qbn.ok qaB (fun vs H Q E h=>?_) (fun f cdv A outer s H vs Q E hr h=>?_)
 ·obtain ⟨sh,dx,st,p,w,x,y,c,qs,ps,rows,t,rs,as,rfl,_⟩:=h;rfl
 obtain ⟨sh,dx,st,p,w,x,y,c,qs,ps,rows,t,rs,as,rfl,S,hR,q⟩:=h;refine ⟨_,(zai (zaq (i:=4) qaB.nd rfl (Or.inl rfl) ze9)
   (zaz (zpT (i:=5) (zlT (zar zdV (pv 1) zaF (zaB _)) (zfC (zfW qa1 O.cl hr (pv 0) (zaa (pv 2) (zaa (pv 3) zab)))) (zlT (zar zdV (pv 1) zaF (zaB _)) (zfC (zfW qa2 O.cl hr (pv 0) (zaa (pv 2) (zaa (pv 3) zab)))) (zlT (zar zdV (pv 1) zaF (zaB _)) (zfC (zfW qeb O.cl hr (pv 0) (zaa (pv 2) zab))) (zfC (zfW qaW O.cl hr (pv 0) (zaa (pv 2) zab)))))) rfl rfl qaB.nd rfl rfl CL.qdK rfl (fun _=>(zae (zaq (i:=4) qaB.nd rfl (Or.inl rfl) (pv 5)))))
   (zaz (zaP (zar zrx (pv 4) ze9 (zaB _)) (zae (zas ze9)) zav)
   (zaz (zaP (zbZ (zam zcT rfl T.qap boot_isinstance (zaa (pv 4) (zaa (zaQ (zaa (zb4 (v:=.ref qah) rfl CL.qfh rfl) (zaa (zb4 (v:=.ref qad) rfl CL.qf1 rfl) (zaa (zb4 (v:=.ref qam) rfl CL.qgs rfl) (zaa (zb4 (v:=.ref qag) rfl CL.qff rfl) (zaa (zb4 (v:=.ref qaj) rfl CL.qf3 rfl) (zaa (zb4 (v:=.ref qai) rfl CL.qf0 rfl) (zaa (zb4 (v:=.ref qal) rfl CL.qgp rfl) zab)))))))) zab)))) (zae (zas zaF)) zav)
   (zaz (zaP (zde (zbZ (zam zcT rfl T.qap boot_isinstance (zaa (pv 4) (zaa (zc8 (v:=.ty "ValueError") rfl T.qd8 (by decide +kernel) rfl) zab))))) (zae (zas zaF)) zav)
   (zai (zaq (i:=6) qaB.nd rfl (Or.inl rfl) (za5 (zaa (zam zcT rfl T.qap boot_isinstance (zaa (pv 4) (zaa (zb4 (v:=.ref qac) rfl CL.qf2 rfl) zab))) (zaa (zam zcT rfl T.qap boot_isinstance (zaa (pv 4) (zaa (zb4 (v:=.ref qae) rfl CL.qgr rfl) zab))) zab))))
   (zai (zaq (i:=6) qaB.nd rfl (Or.inl rfl) (zax zpi (pv 6) (za5 (zaa (zam zcT rfl T.qap boot_isinstance (zaa (pv 4) (zaa (zb4 (v:=.ref qaf) rfl CL.qgq rfl) zab))) (zaa (zam zcT rfl T.qap boot_isinstance (zaa (pv 4) (zaa (zb4 (v:=.ref qab) rfl CL.qfg rfl) zab))) zab)))))
   (zaz (zaP (zar znU (zam zak rfl T.qaz boot_len (zaa (zb5 (N:=["_law_one"]) (own:=1) (cap:=[]) rfl (zd6 (pv 6)) ⟨rfl,rfl,rfl,rfl,rfl,rfl⟩ (fun _ _ _ _ _=>(zay (i:=0) (show List.Nodup (["_law_one"]:List Str) by decide +kernel) rfl (Or.inl rfl))) (fun _ _ _ _ _=>(zeR (zbZ (pv 0)))) (fun _ _ _ _ _=>(pv 0))) zab)) zag (zaB _)) (zae (zas zaF)) zav)
   (zae (zas (zaK zaX (za5 (zaa zaF (zaa zaF (zaa zaF (zaa zaF zab))))) (zgz F.plainAttrs_list F.slot_list_index F.type_list_index (zmj Bool (huD hr)) (pv 6) (zaa zdU zab)) (fun _ _=>rfl)))))))))))),?_⟩
 have hc4:=hR.lt;obtain ⟨C,F,hC,e0,e1,e2,e3⟩:=zqF CL c hc4;refine ⟨fun σ' H'=>∃ a,σ'=[some (.ref sh),some (.str w),some x,some y,some (.ref a),none,none]∧H' a=some (zis a (.ref C))∧Same H H',?_,?_⟩
 ·refine ⟨_,rfl,rfl,_,rfl,?_⟩;cases hR with
  | knot w x y hw h1 h2=>
   cases e0 rfl
   rcases hw with rfl | rfl | rfl | rfl
   ·exact iteT ⟨_,rfl,sh,dx,_,rfl,S.ins,rfl,_,rfl,_,rfl,.inl ⟨sh,dx,st,p,x,y,qs,ps,rows,t,rs,as,rfl,S,.inl ⟨h1,h2,⟨_,rfl,hC,fun a ha=>⟨_,rfl,a,rfl,zac,zaf ha _⟩⟩⟩⟩⟩
   ·refine iteF ⟨_,rfl,rfl,_,rfl,iteT ?_⟩;exact ⟨_,rfl,sh,dx,_,rfl,S.ins,rfl,_,rfl,_,rfl,.inl ⟨sh,dx,st,p,x,y,qs,ps,rows,t,rs,as,rfl,S,.inl ⟨h1,h2,⟨_,rfl,hC,fun a ha=>⟨_,rfl,a,rfl,zac,zaf ha _⟩⟩⟩⟩⟩
   ·refine iteF ⟨_,rfl,rfl,_,rfl,iteF ⟨_,rfl,rfl,_,rfl,iteT ?_⟩⟩;exact ⟨_,rfl,sh,dx,_,rfl,S.ins,rfl,_,rfl,sh,dx,st,p,x,qs,ps,rows,t,rs,as,rfl,S,h1,h2,⟨_,rfl,hC,fun a ha=>⟨_,rfl,a,rfl,zac,zaf ha _⟩⟩⟩
   ·refine iteF ⟨_,rfl,rfl,_,rfl,iteF ⟨_,rfl,rfl,_,rfl,iteF ?_⟩⟩;exact ⟨_,rfl,sh,dx,_,rfl,S.ins,rfl,_,rfl,sh,dx,st,p,x,qs,ps,rows,t,rs,as,rfl,S,h1,h2,⟨_,rfl,hC,fun a ha=>⟨_,rfl,a,rfl,zac,zaf ha _⟩⟩⟩
  | key w kn y hw h1 h2=>
   cases e1 rfl
   rcases hw with rfl | rfl
   ·exact iteT ⟨_,rfl,sh,dx,_,rfl,S.ins,rfl,_,rfl,_,rfl,.inl ⟨sh,dx,st,p,.int kn,y,qs,ps,rows,t,rs,as,rfl,S,.inr ⟨kn,rfl,h1,h2,⟨_,rfl,hC,fun a ha=>⟨_,rfl,a,rfl,zac,zaf ha _⟩⟩⟩⟩⟩
   ·refine iteF ⟨_,rfl,rfl,_,rfl,iteT ?_⟩;exact ⟨_,rfl,sh,dx,_,rfl,S.ins,rfl,_,rfl,_,rfl,.inl ⟨sh,dx,st,p,.int kn,y,qs,ps,rows,t,rs,as,rfl,S,.inr ⟨kn,rfl,h1,h2,⟨_,rfl,hC,fun a ha=>⟨_,rfl,a,rfl,zac,zaf ha _⟩⟩⟩⟩⟩
  | twice kn k h1 h2 h3=>
   cases e2 rfl
   exact iteT ⟨_,rfl,sh,dx,_,rfl,S.ins,rfl,_,rfl,_,rfl,.inr ⟨sh,dx,st,p,kn,k,qs,ps,rows,t,rs,as,rfl,S,h1,h2,.inl ⟨h3,⟨_,rfl,hC,fun a ha=>⟨_,rfl,a,rfl,zac,zaf ha _⟩⟩⟩⟩⟩
  | missing kn k h1 h2 h3=>
   cases e3 rfl
   refine iteF ⟨_,rfl,rfl,_,rfl,iteT ?_⟩;exact ⟨_,rfl,sh,dx,_,rfl,S.ins,rfl,_,rfl,_,rfl,.inr ⟨sh,dx,st,p,kn,k,qs,ps,rows,t,rs,as,rfl,S,h1,h2,h3,⟨_,rfl,hC,fun a ha=>⟨_,rfl,a,rfl,zac,zaf ha _⟩⟩⟩⟩
 clear hR e0 e1 e2 e3;rintro _ H1 ⟨a,rfl,ha,s1⟩;refine ⟨fun σ' H'=>σ'=[some (.ref sh),some (.str w),some x,some y,some (.ref a),none,none]∧H1=H',⟨_,rfl,rfl,_,rfl,iteF ⟨rfl,rfl⟩⟩,?_⟩;rintro _ _ ⟨rfl,rfl⟩;refine ⟨fun σ' H'=>σ'=[some (.ref sh),some (.str w),some x,some y,some (.ref a),none,none]∧Same H1 H',?_,?_⟩
 ·refine ⟨_,rfl,(by show 7≤sizeLine;decide),fun tp htp=>?_⟩;have st:=zaf htp (.tup [.ref qah,.ref qad,.ref qam,.ref qag,.ref qaj,.ref qai,.ref qal]);exact ⟨a,C,_,false,rfl,st _ _ ha,F.x,.inr (.inr ⟨tp,[qah,qad,qam,qag,qaj,qai,qal],rfl,zac,F.o⟩),_,rfl,iteF ⟨rfl,st⟩⟩
 rintro _ H2 ⟨rfl,s2⟩;have ha2:=s2 _ _ ha;refine ⟨fun σ' H'=>σ'=[some (.ref sh),some (.str w),some x,some y,some (.ref a),none,none]∧H2=H',⟨_,rfl,a,C,_,true,rfl,ha2,F.x,.inr (.inl ⟨_,rfl,F.v⟩),_,rfl,iteF ⟨rfl,rfl⟩⟩,?_⟩;rintro _ _ ⟨rfl,rfl⟩;refine ⟨_,rfl,a,C,_,_,rfl,ha2,F.x,.inl ⟨_,rfl,F.k0⟩,_,rfl,a,C,_,_,rfl,ha2,F.x,.inl ⟨_,rfl,F.k1⟩,(by show 2≤sizeLine;decide),fun l1 hl1=>?_⟩;have s3:=zaf hl1 (.lst [.bl (decide (c=0)),.bl (decide (c=1))]);have h3:upd H2 l1 (.lst [.bl (decide (c=0)),.bl (decide (c=1))]) l1=some (.lst [.bl (decide (c=0)),.bl (decide (c=1))]):=zac;generalize upd H2 l1 (.lst [.bl (decide (c=0)),.bl (decide (c=1))])=H3 at s3 h3 ⊢;have ha3:=s3 _ _ ha2;refine ⟨_,rfl,_,rfl,a,C,_,_,rfl,ha3,F.x,.inl ⟨_,rfl,F.k2⟩,_,rfl,a,C,_,_,rfl,ha3,F.x,.inl ⟨_,rfl,F.k3⟩,(by show 2≤sizeLine;decide),fun l2 hl2=>?_⟩;have s4:=zaf hl2 (.lst [.bl (decide (c=2)),.bl (decide (c=3))]);have h4:upd H3 l2 (.lst [.bl (decide (c=2)),.bl (decide (c=3))]) l2=some (.lst [.bl (decide (c=2)),.bl (decide (c=3))]):=zac;generalize upd H3 l2 (.lst [.bl (decide (c=2)),.bl (decide (c=3))])=H4 at s4 h4 ⊢;refine ⟨l1,l2,_,_,rfl,rfl,s4 _ _ h3,h4,(by show 4≤sizeLine;decide),fun l3 hl3=>?_⟩;have s5:=zaf hl3 (.lst ((zgy c).map V.bl));have h5:upd H4 l3 (.lst ((zgy c).map V.bl)) l3=some (.lst ((zgy c).map V.bl)):=zac;change zqV _ _ _ _ (upd H4 l3 (.lst ((zgy c).map V.bl)));generalize upd H4 l3 (.lst ((zgy c).map V.bl))=H5 at s5 h5 ⊢;obtain ⟨b1,b2,b3,b4⟩:=zlQ hc4;have hbl:(zgy c).length=4:=rfl;generalize zgy c=bs at b1 b2 b3 hbl h5;refine ⟨fun σ' H'=>σ'=[some (.ref sh),some (.str w),some x,some y,some (.ref a),none,some (.ref l3)]∧Same H5 H',?_,?_⟩
 ·refine ⟨_,rfl,l3,rfl,⟨_,SqL.of h5⟩,fun D hD=>?_⟩;refine zcR (xs:=bs.map V.bl) (fun i σ H6=>∃ x0:Option V,σ=[x0]∧H6 D=some (.lst (((bs.take i).filter id).map V.bl))∧But D H5 H6) ?_ ?_ ?_ ?_
  ·exact ⟨_,rfl,zac,fun b o n e=>by rw[zaj n];exact e⟩
  ·rintro i σ H6 _ ⟨x0,rfl,_,k6⟩;exact SqL.of (k6 _ _ (zad h5 hD) h5)
  ·rintro i m v σ H6 hv hm ⟨x0,rfl,h6,k6⟩;rw[yab]at hm;rw[yaq]at hv;obtain ⟨b,hb,rfl⟩:=ybA.mp hv;obtain ⟨hi,rfl⟩:=yap.mp hb;have hfl:=ya9 id (bs.take i);rw[yao]at hfl;rw[yaU hi,ybg];refine ⟨_,rfl,_,rfl,?_⟩;cases hbi:bs[i] with
   | false=>
    refine iteF ⟨m - 1,by omega,by rw[yab];omega,_,rfl,?_,k6⟩;rw[show [false].filter id=[] from rfl,yay];exact h6
   | true=>
    refine iteT ⟨_,rfl,_,h6,zau (by rw[yab];omega),m - 1,by omega,by rw[yab];omega,_,rfl,?_,fun b o n e=>by rw[zaj n];exact k6 b o n e⟩;rw[zac,show [true].filter id=[true] from rfl,yaw];rfl
  ·rintro σ H6 ⟨x0,rfl,h6,k6⟩;rw[yab,yav (yaa _),b1]at h6;refine ⟨_,_,rfl,.inl (SqL.of h6),rfl,_,rfl,?_⟩;exact zil rfl ⟨rfl,fun b o e=>k6 b o (zad e hD) e⟩
 rintro _ H6 ⟨rfl,s6⟩;refine ⟨(by show 4≤sizeLine;decide),fun l4 hl4=>?_⟩;have s7:=zaf hl4 (.lst [.str "knot",.str "key",.str "twice",.str "missing"]);have h7:upd H6 l4 (.lst [.str "knot",.str "key",.str "twice",.str "missing"]) l4=some (.lst [.str "knot",.str "key",.str "twice",.str "missing"]):=zac;generalize upd H6 l4 (.lst [.str "knot",.str "key",.str "twice",.str "missing"])=H7 at s7 h7 ⊢;have h57:=s7 _ _ (s6 _ _ h5);refine ⟨_,rfl,.inl ⟨rfl,_,SqL.of h57⟩,l3,_,bs,true,.bl true,c,rfl,rfl,h57,znf,rfl,by omega,b2,b3,?_⟩;refine ⟨_,_,_,_,rfl,rfl,SqL.of h7,b4,?_⟩;exact q _ (s1.trans (s2.trans (s3.trans (s4.trans (s5.trans (s6.trans s7))))))
theorem zpH {l:List Int}:∀{row:List Int},l.Nodup→(∀ x∈l,x∈row)→l.length≤row.length:=by
 induction l with
 | nil=>exact fun _ _=>yaH _
 | cons a l ih=>
  intro row nd h;rw[yaS]at nd;have ha:=h a yaA;have:=ih (row:=row.erase a) nd.2 fun x hx=>(List.mem_erase_of_ne (fun (z:x=a)=>nd.1 (z ▸ hx))).mpr (h x (yau _ hx));rw[List.length_erase_of_mem ha]at this;have hl:=List.length_pos_of_mem ha;rw[yaI];omega
theorem zlR {row:List Int}{k:Int}(hl:row.length≤400):¬ ∀ j:Nat,1≤j→j < 500→(k+j) % 1000∈row:=fun h=>by
 have nd:((List.range 450).map fun j:Nat=>(k+((j+1:Nat):Int)) % 1000).Nodup:=by
  rw[List.nodup_iff_pairwise_ne,ybu];refine ybe.mpr fun i j hi hj hij=>?_;rw[ya4]at hi hj;rw[List.getElem_range,List.getElem_range];omega
 have:=zpH nd (row:=row) fun x hx=>by
  obtain ⟨j,hj,rfl⟩:=yax.mp hx;have:=ya5.mp hj;exact h (j+1) (by omega) (by omega)
 rw[yab,ya4]at this;omega
theorem zfm.same {K:Frag}{H H':Hp}{x:V}{b:Bool}(s:Same H H')(h:zfm K H x b):zfm K H' x b:=by
 cases h with
 | int i b h=>exact .int i b h
 | bl b=>exact .bl b
 | oth x t ty h1 h2=>exact .oth x t (ty.same s) h1 h2
theorem zhL {zs:List V}{n:Int}(h0:0≤n)(h1:n < zs.length):∃ z,z∈zs∧atI zs n=some z:=by
 obtain ⟨j,rfl⟩:∃ j:Nat,n=j:=⟨n.toNat,by omega⟩;have hj:j < zs.length:=by omega
 exact ⟨zs[j],yaT hj,zdw (yac hj)⟩
theorem zir {n:Nat}{i:Int}(h:(n:Int)≤i):zcQ n (.int i)=false:=by
 have e:zcQ n (.int i)=(decide (0≤i) && decide (i < (n:Int))):=rfl;rw[e,yaf (show ¬ i < (n:Int) by omega),yb4]
structure BadL (K:Frag)(d:Addr)(H:Hp)(n:Nat)(kl yl:Addr)(zs ys:List V):Prop where
 kn:H kl=some (.lst zs)
 kz:zs.length=10
 ka:∀ z∈zs,AnyV K (dl [d] H) z∧zcQ n z=false
 kd:kl≠d
 yn:H yl=some (.lst ys)
 yz:ys.length=10
 ya:∀ z∈ys,zfm K (dl [d] H) z false
 yd:yl≠d
theorem BadL.keep {K:Frag}{d:Addr}{H H':Hp}{n:Nat}{kl yl:Addr}{zs ys:List V}(h:BadL K d H n kl yl zs ys)(k:Keep d H H'):BadL K d H' n kl yl zs ys:=by
 have s:Same (dl [d] H) (dl [d] H'):=zit fun b o n e=>k b o (fun z=>n (z ▸ yaA)) e;exact ⟨k _ _ h.kd h.kn,h.kz,fun z hz=>⟨(h.ka z hz).1.same s,(h.ka z hz).2⟩,h.kd,k _ _ h.yd h.yn,h.yz,fun z hz=>(h.ya z hz).same s,h.yd⟩
def zre (K:Frag):Sp:=fun vs H Q _=>∃(d L t r:Addr) (ps:List Nat) (rows:List (List Int)) (as:List Addr),vs=[.ref d,.ref t,.ref r]∧H t=some (.tup (zbT ps))∧ps.length≤40∧zcU H r as rows∧rows.length=ps.length+1∧zaJ rows∧(∀ k,(zal rows k).length≤400)∧LS K L d H∧
 ∀(u:Addr) (w:Str) (x y:V) (c:Nat) (H':Hp),H' u=some (.tup [.str w,x,y,.str (refS c)])→RefW K H' ps rows w x y c→Keep d H H'→LS K L d H'→Q (.ref u) H'
theorem zrH (T:Txt K mg)(qev:DF K mg "_law_bad" zhe zfF)(qak:FC P w K mg base 2 "_law_take" zbq (ze8 K))(qcU:FC P w K mg base 3 "_law_key" zdJ (znC K)):FC P w K mg base 4 "_law_bad" zfF (zre K):=by
 refine qev.ok qaV (fun vs H Q E h=>?_) (fun f cdv A outer s H vs Q E hr h=>?_)
 ·obtain ⟨d,L,t,r,ps,rows,as,rfl,_⟩:=h;rfl
 obtain ⟨d,L,t,r,ps,rows,as,rfl,ht,hps,hR,hlen,R,hz,hs,q⟩:=h;refine ⟨_,(zaA (zaq (i:=3) qaV.nd rfl (Or.inl rfl) (za5 (zaa (znM zjC zag) (zaa (zam zak rfl T.qaz boot_len (zaa (pv 1) zab)) (zaa (zax zey zag zag) (zaa zdU (zaa ze9 (zaa zaF (zaa (za5 (zaa zag zab)) (zaa (zaQ (zaa zag zab)) (zaa zfG (zaa zdU zab))))))))))))
   (zaA (zaq (i:=4) qaV.nd rfl (Or.inl rfl) (za5 (zaa zdU (zaa ze9 (zaa zaF (zaa (za5 (zaa zag zab)) (zaa (zaQ (zaa zag zab)) (zaa zfG (zaa (zax zey zag zag) (zaa (zax zcM zag (zax zey zag zag)) (zaa zdU (zaa zaF zab))))))))))))
   (zaA (zaq (i:=5) qaV.nd rfl (Or.inl rfl) (zaw qak hr (zaa (pv 0) (zaa zag zab))))
   (zaA (zaq (i:=6) qaV.nd rfl (Or.inl rfl) (zaw qak hr (zaa (pv 0) (zaa (zam zak rfl T.qaz boot_len (zaa (pv 1) zab)) zab))))
   (zaA (zaq (i:=7) qaV.nd rfl (Or.inl rfl) (zaw qcU hr (zaa (pv 0) zab)))
   (zaA (zaq (i:=8) qaV.nd rfl (Or.inl rfl) (zaK zaX (za5 (zaa zaF (zaa zaF zab))) (zaw qak hr (zaa (pv 0) (zaa zag zab))) (fun _ _=>rfl)))
   (zdm (zaP (zar zdV (pv 5) zag (zaB _)) (zae (zas (zaQ (zaa (zaK zaX (za5 (zaa zaF (zaa zaF (zaa zaF (zaa zaF zab))))) (zaw qak hr (zaa (pv 0) (zaa zag zab))) (fun _ _=>rfl)) (zaa (zaK zaX (pv 3) (zaw qak hr (zaa (pv 0) (zaa zag zab))) (fun _ _=>rfl)) (zaa (pv 7) (zaa zaF zab))))))) zav)
   (zdm (zaP (zar zdV (pv 5) zag (zaB _)) (zae (zas (zaQ (zaa (pv 8) (zaa (zaK zaX (pv 3) (zaw qak hr (zaa (pv 0) (zaa zag zab))) (fun _ _=>rfl)) (zaa (zaK zaX (pv 4) (zaw qak hr (zaa (pv 0) (zaa zag zab))) (fun _ _=>rfl)) (zaa zaF zab))))))) zav)
   (zdm (zaP (zar zdV (pv 5) zag (zaB _)) (zae (zas (zaQ (zaa (pv 8) (zaa (pv 6) (zaa (zaK zaX (pv 4) (zaw qak hr (zaa (pv 0) (zaa zag zab))) (fun _ _=>rfl)) (zaa zaF zab))))))) zav)
   (zdm (zaP (PW.pt (zia (zar zdV (pv 5) zag (zaB _)) (zfX (zar zkI (zam zak rfl T.qaz boot_len (zaa (zaK zaM (pv 2) (pv 6) (fun _ _=>rfl)) zab)) zag (zaB _))))) (zae (zas (zaQ (zaa zaF (zaa (pv 6) (zaa (zaK zaM (zaK zaM (pv 2) (pv 6) (fun _ _=>rfl)) (zaw qak hr (zaa (pv 0) (zaa (zam zak rfl T.qaz boot_len (zaa (zaK zaM (pv 2) (pv 6) (fun _ _=>rfl)) zab)) zab))) (fun _ _=>rfl)) (zaa zaF zab))))))) zav)
   (zaA (zhj PassesOwn.never (zar zeA (pv 7) (zaK zaM (pv 2) (pv 6) (fun _ _=>rfl)) (by with_unfolding_all rfl)) (zae (zaq (i:=7) qaV.nd rfl (Or.inl rfl) (zax zez (zax zbt (pv 7) zag) zag))))
   (zae (zas (zaQ (zaa zaF (zaa (pv 6) (zaa (pv 7) (zaa zaF zab)))))))))))))))))),?_⟩
 have el:=zat ps;have nd:∀{H':Hp} {a:Addr},LS K L d H'→H' a=none→a≠d:=fun {H' a} s e z=>by
  obtain ⟨_,_,_,e2,_⟩:=s.ex;rw[← z,e]at e2;cases e2
 intro N1 n1;refine ⟨_,rfl,_,rfl,_,_,rfl,.inr (SqT.of ht),?_⟩;refine ⟨_,_,rfl,rfl,⟨by decide,by decide,by decide⟩,?_⟩;refine ⟨(by show 1≤sizeLine;decide),fun f1 hf1=>?_⟩;have g1:=zaf hf1 (.lst [V.int 0]);have q1:upd H f1 (.lst [V.int 0]) f1=some (.lst [V.int 0]):=zac;have d1:=nd hs hf1;have r1:=hs.same g1;generalize upd H f1 (.lst [V.int 0])=A1 at g1 q1 r1 ⊢;refine ⟨(by show 1≤sizeLine;decide),fun f2 hf2=>?_⟩;have g2:=zaf hf2 (.tup [V.int 0]);have q2:upd A1 f2 (.tup [V.int 0]) f2=some (.tup [V.int 0]):=zac;have d2:=nd r1 hf2;have r2:=r1.same g2;generalize upd A1 f2 (.tup [V.int 0])=A2 at g2 q2 r2 ⊢;refine fun f3 hf3=>?_;have g3:=zaf hf3 (.dK []);have q3:upd A2 f3 (.dK []) f3=some (.dK []):=zac;have d3:=nd r2 hf3;have r3:=r2.same g3;generalize upd A2 f3 (.dK [])=A3 at g3 q3 r3 ⊢;rw[el];refine ⟨(by show 10≤sizeLine;decide),fun kl hkl=>n1 _ _ ?_⟩;obtain ⟨zs,ezs⟩:∃ zs,zs=[V.int (-1),.int ((ps.length+1:Nat):Int),.int (10 ^ (59:Int).toNat),.bl true,.non,.str "0",.ref f1,.ref f2,.ref f3,.bl false]:=⟨_,rfl⟩;have g4:=zaf hkl (.lst zs);have q4:upd A3 kl (.lst zs) kl=some (.lst zs):=zac;have dk:=nd r3 hkl;have r4:=r3.same g4;have ka:∀ z∈zs,AnyV K (dl [d] (upd A3 kl (.lst zs))) z∧zcQ (ps.length+1) z=false:=by
  have nm:∀{b:Addr},b≠d→b∉[d]:=fun h z=>h (yal.mp z);have ob:∀{x:V} {t:String},(∀ i,x≠.int i)→TyOf K (dl [d] (upd A3 kl (.lst zs))) x (.type t)→kitO t "int" = some false→AnyV K (dl [d] (upd A3 kl (.lst zs))) x∧zcQ (ps.length+1) x=false:=fun {x t} h ty k=>⟨.oth x h (.oth x t ty k),zgQ h⟩;have c1:=zco (g4 _ _ (g3 _ _ (g2 _ _ q1))) (nm d1);have c2:=zco (g4 _ _ (g3 _ _ q2)) (nm d2);have c3:=zco (g4 _ _ q3) (nm d3);generalize dl [d] (upd A3 kl (.lst zs))=HX at ob c1 c2 c3 ⊢;intro z hz;rw[ezs]at hz;simp only[yah,yaQ,or_false]at hz;rcases hz with rfl | rfl | rfl | rfl | rfl | rfl | rfl | rfl | rfl | rfl
  ·exact ⟨.int _,rfl⟩
  ·exact ⟨.int _,zir (Int.le_refl _)⟩
  ·exact ⟨.int _,zir (by have:((10:Int) ^ (59:Int).toNat)=10 ^ 59:=rfl;rw[this];omega)⟩
  ·exact ⟨.oth _ (fun _ z=>nomatch z) (.bl true),rfl⟩
  ·exact ob (fun _ z=>nomatch z) .non zpo
  ·exact ob (fun _ z=>nomatch z) (.str _) zmB
  ·exact ob (fun _ z=>nomatch z) (.lst c1) zpp
  ·exact ob (fun _ z=>nomatch z) (.tup c2) zpm
  ·exact ob (fun _ z=>nomatch z) (.dK c3) zpq
  ·exact ⟨.oth _ (fun _ z=>nomatch z) (.bl false),rfl⟩
 have kz:zs.length=10:=by rw[ezs];rfl
 rw[← ezs];have k4:Same H (upd A3 kl (.lst zs)):=g1.trans (g2.trans (g3.trans g4));clear ezs g1 q1 d1 r1 g2 q2 d2 r2 g3 q3 d3 r3 g4;generalize upd A3 kl (.lst zs)=H1 at q4 r4 ka k4 ⊢;intro N2 n2;refine ⟨(by show 1≤sizeLine;decide),fun f1 hf1=>?_⟩;have g1:=zaf hf1 (.lst [V.int 1]);have q1:upd H1 f1 (.lst [V.int 1]) f1=some (.lst [V.int 1]):=zac;have d1:=nd r4 hf1;have r1:=r4.same g1;generalize upd H1 f1 (.lst [V.int 1])=A1 at g1 q1 r1 ⊢;refine ⟨(by show 1≤sizeLine;decide),fun f2 hf2=>?_⟩;have g2:=zaf hf2 (.tup [V.int 1]);have q2:upd A1 f2 (.tup [V.int 1]) f2=some (.tup [V.int 1]):=zac;have d2:=nd r1 hf2;have r2:=r1.same g2;generalize upd A1 f2 (.tup [V.int 1])=A2 at g2 q2 r2 ⊢;refine fun f3 hf3=>?_;have g3:=zaf hf3 (.dK []);have q3:upd A2 f3 (.dK []) f3=some (.dK []):=zac;have d3:=nd r2 hf3;have r3:=r2.same g3;generalize upd A2 f3 (.dK [])=A3 at g3 q3 r3 ⊢;refine ⟨_,_,rfl,rfl,⟨by decide,by decide,by decide⟩,?_⟩;refine ⟨_,_,rfl,rfl,⟨by decide,by decide,by decide⟩,_,_,rfl,rfl,?_⟩;refine ⟨(by show 10≤sizeLine;decide),fun yl hyl=>n2 _ _ ?_⟩;obtain ⟨ys,eys⟩:∃ ys,ys=[V.bl true,.non,.str "1",.ref f1,.ref f2,.ref f3,.int (10 ^ (60:Int).toNat),.int (0 - 10 ^ (60:Int).toNat),.bl false,.str ""]:=⟨_,rfl⟩;have g4:=zaf hyl (.lst ys);have q5:upd A3 yl (.lst ys) yl=some (.lst ys):=zac;have dy:=nd r3 hyl;have r4:=r3.same g4;have k5:Same H1 (upd A3 yl (.lst ys)):=g1.trans (g2.trans (g3.trans g4));have ya:∀ z∈ys,zfm K (dl [d] (upd A3 yl (.lst ys))) z false:=by
  have nm:∀{b:Addr},b≠d→b∉[d]:=fun h z=>h (yal.mp z);have c1:=zco (g4 _ _ (g3 _ _ (g2 _ _ q1))) (nm d1);have c2:=zco (g4 _ _ (g3 _ _ q2)) (nm d2);have c3:=zco (g4 _ _ q3) (nm d3);generalize dl [d] (upd A3 yl (.lst ys))=HX at c1 c2 c3 ⊢;intro z hz;rw[eys]at hz;simp only[yah,yaQ,or_false]at hz;rcases hz with rfl | rfl | rfl | rfl | rfl | rfl | rfl | rfl | rfl | rfl
  ·exact .bl _
  ·exact .oth _ _ .non zrW zpo
  ·exact .oth _ _ (.str _) zpn zmB
  ·exact .oth _ _ (.lst c1) zrX zpp
  ·exact .oth _ _ (.tup c2) zrV zpm
  ·exact .oth _ _ (.dK c3) zr0 zpq
  ·exact .int _ _ (by decide +kernel)
  ·exact .int _ _ (by decide +kernel)
  ·exact .bl _
  ·exact .oth _ _ (.str _) zpn zmB
 have yz:ys.length=10:=by rw[eys];rfl
 rw[← eys];clear eys g1 q1 d1 r1 g2 q2 d2 r2 g3 q3 d3 r3 g4;generalize upd A3 yl (.lst ys)=H2 at q5 r4 ya k5 ⊢;have B2:BadL K d H2 (ps.length+1) kl yl zs ys:=⟨k5 _ _ q4,kz,fun z hz=>⟨(ka z hz).1.same (zit (KpV.of k5)),(ka z hz).2⟩,dk,q5,yz,ya,dy⟩;have k02:Keep d H H2:=fun b o _ e=>k5 _ _ (k4 _ _ e);clear q4 ka kz dk q5 ya yz dy k4 k5;intro N3 n3;refine ⟨_,rfl,d,L,5,rfl,by decide,r4,fun wy H3 w0 w1 k3 s3=>n3 _ _ ?_⟩;have k03:=k02.trans k3;intro N4 n4;refine ⟨_,rfl,_,rfl,_,_,rfl,.inr (SqT.of (zfk hs k03 _ _ ht)),?_⟩;rw[el];refine ⟨d,L,((ps.length+1:Nat):Int),rfl,⟨by omega,by omega⟩,s3,fun n H4 m0 m1 k4 s4=>n4 _ _ ?_⟩;obtain ⟨kn,rfl⟩:∃ kn:Nat,n=kn:=⟨n.toNat,by omega⟩;have hkn:kn < ps.length+1:=by omega
 intro N5 n5;refine ⟨_,rfl,d,L,rfl,s4,fun k0 H5 x0 x1 k5 s5=>n5 _ _ ?_⟩;have hk0:zgt k0:=⟨x0,x1⟩;intro N6 n6;refine ⟨(by show 2≤sizeLine;decide),fun lw hlw=>?_⟩;have g6:=zaf hlw (.lst [.str "put",.str "out"]);have q6:upd H5 lw (.lst [.str "put",.str "out"]) lw=some (.lst [.str "put",.str "out"]):=zac;have dw:=nd s5 hlw;have s6:=s5.same g6;generalize upd H5 lw (.lst [.str "put",.str "out"])=H6 at g6 q6 s6 ⊢;refine ⟨_,rfl,d,L,2,rfl,by decide,s6,fun v H7 v0 v1 k7 s7=>?_⟩;obtain ⟨w,hw,hat⟩:∃ w:Str,(w = "put"∨w = "out")∧atI [V.str "put",.str "out"] v=some (.str w):=by
  have:v=0∨v=1:=by omega
  rcases this with rfl | rfl
  ·exact ⟨_,.inl rfl,rfl⟩
  ·exact ⟨_,.inr rfl,rfl⟩
 refine ⟨_,_,_,_,rfl,rfl,SqL.of (k7 _ _ dw q6),hat,n6 _ _ ?_⟩;have k57:Keep d H5 H7:=fun b o n e=>k7 _ _ n (g6 _ _ e);have k07:Keep d H H7:=k03.trans (k4.trans (k5.trans k57));have B7:=B2.keep (k3.trans (k4.trans (k5.trans k57)));clear q6 dw s6 s5 s4 s3 r4 g6 k7 k57 k5 k4 k3 k03 k02 B2 hat;have R7:=hR.tp (zfk hs k07);obtain ⟨a,ha,hrow⟩:=R7.get (k:=kn) (by omega);have hl:=hz kn;have fin:∀(w:Str) (x y:V) (c:Nat) (H':Hp),Keep d H7 H'→LS K L d H'→RefW K H' ps rows w x y c→[V.str w,x,y,.str (refS c)].length≤sizeLine∧∀ u,H' u=none→Q (.ref u) (upd H' u (.tup [.str w,x,y,.str (refS c)])):=fun w x y c H' k' s' hW=>⟨(by show 4≤sizeLine;decide),fun u hu=>by
  have su:=zaf hu (.tup [.str w,x,y,.str (refS c)]);refine q u w x y c _ zac ?_ (fun b o n e=>su _ _ (k' b o n (k07 b o n e))) (s'.same su);cases hW with
  | knot w x y hw h1 h2=>exact .knot w x y hw (h1.same su) h2
  | key w kn y hw h1 h2=>exact .key w kn y hw h1 (h2.same su)
  | twice kn k h1 h2 h3=>exact .twice kn k h1 h2 h3
  | missing kn k h1 h2 h3=>exact .missing kn k h1 h2 h3⟩
 refine ⟨fun σ' H'=>σ'=[some (.ref d),some (.ref t),some (.ref r),some (.ref kl),some (.ref yl),some (.int wy),some (.int kn),some (.int k0),some (.str w)]∧H7=H',?_,?_⟩
 ·intro N7 n7;refine ⟨_,rfl,rfl,_,rfl,?_⟩;refine ite2 (fun _=>?_) (fun _=>n7 _ _ ⟨rfl,rfl⟩);refine ⟨(by show 4≤sizeLine;decide),fun l4 hl4=>?_⟩;have g8:=zaf hl4 (.lst [.str "put",.str "out",.str "hang",.str "full"]);have q8:upd H7 l4 (.lst [.str "put",.str "out",.str "hang",.str "full"]) l4=some (.lst [.str "put",.str "out",.str "hang",.str "full"]):=zac;have d8:=nd s7 hl4;have s8:=s7.same g8;generalize upd H7 l4 (.lst [.str "put",.str "out",.str "hang",.str "full"])=H8 at g8 q8 s8 ⊢;refine ⟨_,rfl,d,L,4,rfl,by decide,s8,fun v H9 v0 v1 k9 s9=>?_⟩;obtain ⟨w,hw,hat⟩:∃ w:Str,(w = "put"∨w = "out"∨w = "hang"∨w = "full")∧atI [V.str "put",.str "out",.str "hang",.str "full"] v=some (.str w):=by
   have:v=0∨v=1∨v=2∨v=3:=by omega
   rcases this with rfl | rfl | rfl | rfl
   ·exact ⟨_,.inl rfl,rfl⟩
   ·exact ⟨_,.inr (.inl rfl),rfl⟩
   ·exact ⟨_,.inr (.inr (.inl rfl)),rfl⟩
   ·exact ⟨_,.inr (.inr (.inr rfl)),rfl⟩
  refine ⟨_,_,_,_,rfl,rfl,SqL.of (k9 _ _ d8 q8),hat,?_⟩;have k79:Keep d H7 H9:=fun b o n e=>k9 _ _ n (g8 _ _ e);refine ⟨_,rfl,_,rfl,d,L,10,rfl,by decide,s9,fun v H10 v0 v1 k10 s10=>?_⟩;have B10:=B7.keep (k79.trans k10);obtain ⟨z,hzm,hzat⟩:=zhL v0 (show v < zs.length by rw[B10.kz];omega);refine ⟨_,_,_,_,rfl,rfl,SqL.of B10.kn,hzat,_,rfl,?_⟩;exact fin w z (.int k0) 0 H10 (k79.trans k10) s10 (.knot w z _ hw ((B10.ka z hzm).1.same zcH) (B10.ka z hzm).2)
 rintro _ _ ⟨rfl,rfl⟩;refine ⟨fun σ' H'=>σ'=[some (.ref d),some (.ref t),some (.ref r),some (.ref kl),some (.ref yl),some (.int wy),some (.int kn),some (.int k0),some (.str w)]∧H7=H',?_,?_⟩
 ·intro N7 n7;refine ⟨_,rfl,rfl,_,rfl,?_⟩;refine ite2 (fun _=>?_) (fun _=>n7 _ _ ⟨rfl,rfl⟩);refine ⟨_,rfl,_,rfl,_,rfl,d,L,10,rfl,by decide,s7,fun v H10 v0 v1 k10 s10=>?_⟩;have B10:=B7.keep k10;obtain ⟨z,hzm,hzat⟩:=zhL v0 (show v < zs.length by rw[B10.kz];omega);refine ⟨_,_,_,_,rfl,rfl,SqL.of B10.kn,hzat,_,rfl,_,rfl,d,L,10,rfl,by decide,s10,fun v H11 v0 v1 k11 s11=>?_⟩;have B11:=B10.keep k11;obtain ⟨y,hym,hyat⟩:=zhL v0 (show v < ys.length by rw[B11.yz];omega);refine ⟨_,_,_,_,rfl,rfl,SqL.of B11.yn,hyat,?_⟩;exact fin w z y 0 H11 (k10.trans k11) s11 (.knot w z _ (hw.imp id .inl) ((B11.ka z hzm).1.same zcH) (B11.ka z hzm).2)
 rintro _ _ ⟨rfl,rfl⟩;refine ⟨fun σ' H'=>σ'=[some (.ref d),some (.ref t),some (.ref r),some (.ref kl),some (.ref yl),some (.int wy),some (.int kn),some (.int k0),some (.str w)]∧H7=H',?_,?_⟩
 ·intro N7 n7;refine ⟨_,rfl,rfl,_,rfl,?_⟩;refine ite2 (fun _=>?_) (fun _=>n7 _ _ ⟨rfl,rfl⟩);refine ⟨_,rfl,_,rfl,_,rfl,_,rfl,d,L,10,rfl,by decide,s7,fun v H11 v0 v1 k11 s11=>?_⟩;have B11:=B7.keep k11;obtain ⟨y,hym,hyat⟩:=zhL v0 (show v < ys.length by rw[B11.yz];omega);refine ⟨_,_,_,_,rfl,rfl,SqL.of B11.yn,hyat,?_⟩;exact fin w (.int kn) y 1 H11 k11 s11 (.key w kn _ hw hkn ((B11.ya y hym).same zcH))
 rintro _ _ ⟨rfl,rfl⟩;refine ⟨fun σ' H'=>σ'=[some (.ref d),some (.ref t),some (.ref r),some (.ref kl),some (.ref yl),some (.int wy),some (.int kn),some (.int k0),some (.str w)]∧H7=H',?_,?_⟩
 ·intro N7 n7;refine ⟨_,rfl,rfl,_,rfl,?_⟩;refine ite2 (fun _=>?_) (fun _=>iteF (n7 _ _ ⟨rfl,rfl⟩));refine ⟨_,rfl,_,rfl,_,_,_,_,rfl,rfl,SqT.of R7.at_,ha,_,_,rfl,.inr (SqT.of hrow),_,_,rfl,rfl,_,rfl,?_⟩;refine ite2 (fun c=>?_) (fun _=>n7 _ _ ⟨rfl,rfl⟩);have c':(0:Int) < (((zal rows kn).map V.int).length:Int):=yaK c;rw[yab]at c';refine ⟨_,rfl,_,rfl,_,rfl,_,_,_,_,rfl,rfl,SqT.of R7.at_,ha,_,rfl,_,rfl,_,rfl,_,_,_,_,rfl,rfl,SqT.of R7.at_,ha,_,_,rfl,.inr (SqT.of hrow),?_⟩;rw[yab];refine ⟨d,L,(((zal rows kn).length:Nat):Int),rfl,⟨by omega,by omega⟩,s7,fun n H8 n0 n1 k8 s8=>?_⟩;obtain ⟨i,rfl⟩:∃ i:Nat,n=i:=⟨n.toNat,by omega⟩;have hi:i < (zal rows kn).length:=by omega
  refine ⟨_,_,_,_,rfl,rfl,SqT.of (zfk s7 k8 _ _ hrow),zdw (v:=.int ((zal rows kn)[i])) (by rw[yaq,yac hi];rfl),?_⟩;exact fin "put" (.int kn) _ 2 H8 k8 s8 (.twice kn _ hkn (R.at_key kn _ (yaT hi)) (yaT hi))
 rintro _ _ ⟨rfl,rfl⟩;intro N8 n8;have hfl:((zal rows kn).map V.int).all zdW=true:=yaR.mpr fun y hy=>by
  obtain ⟨z,_,rfl⟩:=yax.mp hy;rfl
 refine ⟨fun m σ H'=>∃(i:Nat) (k:Int),m+i=500∧σ=[some (.ref d),some (.ref t),some (.ref r),some (.ref kl),some (.ref yl),some (.int wy),some (.int kn),some (.int k),some (.str w)]∧H7=H'∧zgt k∧(i=0→k=k0)∧(0 < i→k=(k0+i) % 1000)∧∀ j:Nat,1≤j→j < i→(k0+j) % 1000∈zal rows kn,⟨500,0,k0,rfl,rfl,rfl,hk0,(fun _=>rfl),(fun z=>nomatch z),fun j _ z=>absurd z (ybG _)⟩,?_⟩;rintro m _ _ ⟨i,k,hm,rfl,rfl,hk,i0,i1,old⟩;refine ⟨_,rfl,_,rfl,_,rfl,_,_,_,_,rfl,rfl,SqT.of R7.at_,ha,a,_,rfl,.inr (SqT.of hrow),rfl,hfl,_,rfl,?_⟩;rw[zeW];refine ite2 (fun c=>?_) (fun c=>n8 _ _ ?_)
 ·have c':k∈zal rows kn:=yaK c;have hi:i < 500:=by
   refine Nat.lt_of_not_le fun z=>zlR (k:=k0) hl fun j j1 j2=>old j j1 (by omega)
  refine ⟨fun σ' H'=>σ'=[some (.ref d),some (.ref t),some (.ref r),some (.ref kl),some (.ref yl),some (.int wy),some (.int kn),some (.int ((k+1) % 1000)),some (.str w)]∧H7=H',?_,?_⟩
  ·rintro _ _ ⟨rfl,rfl⟩;refine ⟨m - 1,by omega,i+1,_,by omega,rfl,rfl,⟨by omega,by omega⟩,(fun z=>nomatch z),fun _=>?_,fun j j1 j2=>?_⟩
   ·rcases Nat.eq_zero_or_pos i with z | z
    ·rw[i0 z,z];rfl
    ·have:=i1 z;omega
   ·rcases ybt j i with z | z
    ·exact old j j1 z
    ·have:j=i:=by omega
     subst this;rw[← i1 (by omega)];exact c'
  ·exact ⟨_,rfl,_,_,rfl,rfl,_,_,rfl,rfl,(by show (0:Int) < 1000;decide),rfl,rfl⟩
 ·have c':k∉zal rows kn:=fun z=>c (yaj z);refine ⟨_,rfl,_,rfl,?_⟩;exact fin "out" (.int kn) (.int k) 3 H7 (fun b o _ e=>e) s7 (.missing kn k hkn hk c')
theorem zaC.kp0 {K:Frag}{CS:Addr}{H H':Hp}{sh dx st p:Addr}{qs:List Addr}{ps:List Nat}{rows:List (List Int)}{t rs:Addr}{as:List Addr}(S:zaC K CS H sh dx st p qs ps rows t rs as)(k:Kp0 H H'):zaC K CS H' sh dx st p qs ps rows t rs as:=by
 have tp:Tp H H':=fun b us e=>k _ _ (fun _ z=>nomatch z) e;refine ⟨k _ _ (fun _ z=>nomatch z) S.own,k _ _ (fun _ z=>nomatch z) S.ins,zb8 tp S.stand,S.full.tp tp fun b us e=>k _ _ (fun _ z=>nomatch z) e⟩
theorem zoY {H:Hp}{mp:Addr}{pos:Pos}{q:Str}{Av:List Addr}(x:zbh H mp pos q)(h:∀ b∈Av,∃ o,H b=some o∧(∀ tab,o≠.tbl tab)∧(∀ f,o≠.ext f)):zbh (dl Av H) mp pos q:=by
 obtain ⟨tab,e,r1,r2⟩:=x.ex;refine ⟨tab,zco e fun z=>?_,r1,?_⟩
 ·obtain ⟨o,e2,n,_⟩:=h _ z;rw[e]at e2;exact n _ (yad e2).symm
 rcases r2 with z | ⟨c,z1,z2⟩
 ·exact .inl z
 ·refine .inr ⟨c,z1,?_⟩;refine zco z2 fun z=>?_;obtain ⟨o,e2,_,n⟩:=h _ z;unfold zgv at z2;rw[z2]at e2;exact n _ (yad e2).symm
section
variable {K:Frag}{CS mp a d sh p sh' p':Addr}{H H':Hp}{qs qs1 qs1':List Addr}{ps:List Nat}{rows rows1 rows':List (List Int)}{Av:List Addr}{dx D st' t rs':Addr}{zs:List V}{m kn:Nat}{as':List Addr}
theorem SNow.deedV (h:SNow K CS mp a (dl Av H) d sh p qs ps rows)(A:∀ b∈Av,∃ o,H b=some o∧(∀ us,o≠.tup us)∧(∀ tab,o≠.tbl tab)∧(∀ f,o≠.ext f)∧∀ s,o≠.own s)(X:zcV K CS mp H H' sh dx p D zs m qs qs1' st' t rs' as' ps rows rows' kn):SNow K CS mp a (dl Av H') d sh p qs1' ps rows':=by
 obtain ⟨dx0,st0,t0,rs0,as0,S⟩:=h.shelf;obtain ⟨tab,et,_⟩:=h.tab.ex;have dlS:∀{b:Addr} {o:HO},dl Av H b=some o→b∉Av:=fun {b o} e z=>by
  unfold dl at e;rw[if_pos z]at e;cases e
 have n1:=dlS S.ins;have n2:=dlS S.full.at_;have n3:=dlS et;have kp:∀ b o,b∈Av→H b=some o→H' b=some o:=fun b o hb e=>X.kd b o (fun z=>n1 (z ▸ hb)) (fun z=>n2 (z ▸ hb)) (fun z=>n3 (z ▸ hb)) e;have A':∀ b∈Av,∃ o,H' b=some o∧(∀ us,o≠.tup us)∧(∀ tab,o≠.tbl tab)∧(∀ f,o≠.ext f)∧∀ s,o≠.own s:=fun b hb=>by
  obtain ⟨o,e,r⟩:=A b hb;exact ⟨o,kp b o hb e,r⟩
 have no:zgs Av H':=fun b hb us z=>by
  obtain ⟨o,e,r,_⟩:=A' b hb;rw[e]at z;exact r _ (yad z)
 refine ⟨⟨dx,st',t,rs',as',X.shelf.dl no n1 (fun z=>?_) n2 fun q hq z=>?_⟩,zoY X.tab fun b hb=>?_,?_⟩
 ·obtain ⟨o,e,_,_,_,r⟩:=A' _ z;rw[X.shelf.own]at e;exact r _ (yad e).symm
 ·rcases X.qn q hq with y | y
  ·obtain ⟨j,hj,ej⟩:=ya1 y;obtain ⟨ws,g,_⟩:=S.full.get j q (by rw[yac hj,ej]);exact dlS g z
  ·obtain ⟨o,e,_⟩:=A _ z;rw[e]at y;cases y
 ·obtain ⟨o,e,_,r1,r2,_⟩:=A' b hb;exact ⟨o,e,r1,r2⟩
 ·refine h.ls.same (zit fun b o n e=>?_);have kb:KpV [sh,p,mp] H H':=X.kp (by simp) (by simp) (by simp);exact zco (kb b o n (zcH _ _ e)) (dlS e)
theorem SNow.deedO (h:SNow K CS mp a (dl [sh',p'] H) d sh p qs ps rows)(X:zcV K CS mp H H' sh' dx p' D zs m qs1 qs1' st' t rs' as' ps rows1 rows' kn):SNow K CS mp a (dl [sh',p'] H') d sh p qs ps rows:=by
 obtain ⟨dx0,st0,t0,rs0,as0,S⟩:=h.shelf;obtain ⟨tab,et,_⟩:=h.tab.ex;have k0:∀ b o,b≠mp→dl [sh',p'] H b=some o→dl [sh',p'] H' b=some o:=fun b o n e=>by
  by_cases z:b∈[sh',p']
  ·unfold dl at e;rw[if_pos z]at e;cases e
  ·refine zco (X.kd b o (fun y=>z (by simp[y])) (fun y=>z (by simp[y])) n (zcH _ _ e)) z
 refine ⟨⟨dx0,st0,t0,rs0,as0,S.kp0 fun b o n e=>k0 b o (fun z=>?_) e⟩,zoY X.tab fun b hb=>?_,h.ls.same (zit fun b o n e=>k0 b o (fun z=>n (by simp[z])) e)⟩
 ·rw[z,et]at e;exact n _ (yad e).symm
 ·simp only[yah,yaQ,or_false]at hb;rcases hb with rfl | rfl
  ·exact ⟨_,X.shelf.ins,(fun _ z=>nomatch z),(fun _ z=>nomatch z)⟩
  ·exact ⟨_,X.shelf.full.at_,(fun _ z=>nomatch z),(fun _ z=>nomatch z)⟩
theorem SNow.takeV (h:SNow K CS mp a (dl Av H) d sh p qs ps rows)(k:Keep d H H')(s:LS K a d H'):SNow K CS mp a (dl Av H') d sh p qs ps rows:=by
 have k':Keep d (dl Av H) (dl Av H'):=fun b o n e=>by
  have nb:b∉Av:=fun z=>by unfold dl at e;rw[if_pos z]at e;cases e
  exact zco (k b o n (zcH _ _ e)) nb
 exact h.take k' (zmt h.lsH k s)
end
structure TNow (K:Frag)(CS mp a:Addr)(H:Hp)(d sh1 p1 sh2 p2:Addr)(qs1 qs2:List Addr)(ps:List Nat)(rows1 rows2:List (List Int)):Prop where
 one:SNow K CS mp a (dl [sh2,p2] H) d sh1 p1 qs1 ps rows1
 two:SNow K CS mp a (dl [sh1,p1] H) d sh2 p2 qs2 ps rows2
section
variable {K:Frag}{CS mp a d sh1 p1 sh2 p2:Addr}{H H':Hp}{qs1 qs2 qs':List Addr}{ps:List Nat}{rows1 rows2 rows':List (List Int)}{dx D st' t rs':Addr}{zs:List V}{m kn:Nat}{as':List Addr}
theorem SNow.kinds {sh p:Addr}{qs:List Addr}{rows:List (List Int)}(h:SNow K CS mp a H d sh p qs ps rows):∀ b∈[sh,p],∃ o,H b=some o∧(∀ us,o≠.tup us)∧(∀ tab,o≠.tbl tab)∧(∀ f,o≠.ext f)∧∀ s,o≠.own s:=fun b hb=>by
 obtain ⟨dx,st,t,rs,as,S⟩:=h.shelf;simp only[yah,yaQ,or_false]at hb;rcases hb with rfl | rfl
 ·exact ⟨_,S.ins,(fun _ z=>nomatch z),(fun _ z=>nomatch z),(fun _ z=>nomatch z),(fun _ z=>nomatch z)⟩
 ·exact ⟨_,S.full.at_,(fun _ z=>nomatch z),(fun _ z=>nomatch z),(fun _ z=>nomatch z),(fun _ z=>nomatch z)⟩
theorem TNow.real1 (h:TNow K CS mp a H d sh1 p1 sh2 p2 qs1 qs2 ps rows1 rows2):SNow K CS mp a H d sh1 p1 qs1 ps rows1:=h.one.same zcH
theorem TNow.real2 (h:TNow K CS mp a H d sh1 p1 sh2 p2 qs1 qs2 ps rows1 rows2):SNow K CS mp a H d sh2 p2 qs2 ps rows2:=h.two.same zcH
theorem TNow.same (h:TNow K CS mp a H d sh1 p1 sh2 p2 qs1 qs2 ps rows1 rows2)(s:Same H H'):TNow K CS mp a H' d sh1 p1 sh2 p2 qs1 qs2 ps rows1 rows2:=⟨h.one.same (zit (KpV.of s)),h.two.same (zit (KpV.of s))⟩
theorem TNow.take (h:TNow K CS mp a H d sh1 p1 sh2 p2 qs1 qs2 ps rows1 rows2)(k:Keep d H H')(s:LS K a d H'):TNow K CS mp a H' d sh1 p1 sh2 p2 qs1 qs2 ps rows1 rows2:=⟨h.one.takeV k s,h.two.takeV k s⟩
theorem TNow.swap (h:TNow K CS mp a H d sh1 p1 sh2 p2 qs1 qs2 ps rows1 rows2):TNow K CS mp a H d sh2 p2 sh1 p1 qs2 qs1 ps rows2 rows1:=⟨h.two,h.one⟩
theorem TNow.deed (h:TNow K CS mp a H d sh1 p1 sh2 p2 qs1 qs2 ps rows1 rows2)(X:zcV K CS mp H H' sh1 dx p1 D zs m qs1 qs' st' t rs' as' ps rows1 rows' kn):TNow K CS mp a H' d sh1 p1 sh2 p2 qs' qs2 ps rows' rows2:=
 ⟨h.one.deedV h.real2.kinds X,h.two.deedO X⟩
theorem TNow.new {H0 H6:Hp}{dx2 st2 t2 rs2:Addr}{as2:List Addr}(s0:LS K a d H0)(hT:zbh H0 mp zdf lamQ)(s06:Same H0 H6)(h1:H0 sh1=none)(h2:H0 p1=none)(M:SNow K CS mp a H6 d sh1 p1 qs1 ps rows1)(s6:Same H6 H)(h3:H6 sh2=none)(h4:H6 p2=none)(h5:∀ q∈qs2,H6 q=none)(S:zaC K CS H sh2 dx2 st2 p2 qs2 ps rows2 t2 rs2 as2):TNow K CS mp a H d sh1 p1 sh2 p2 qs1 qs2 ps rows1 rows2:=by
 have kk:=M.kinds;have fr:∀{b:Addr},H6 b=none→b∉[sh1,p1]:=fun {b} e z=>by
  obtain ⟨o,e2,_⟩:=kk b z;rw[e]at e2;cases e2
 refine ⟨M.same fun b o e=>zco (s6 _ _ e) fun z=>?_,SNow.new s0 hT (fun b o e=>zco (s6 _ _ (s06 _ _ e)) fun z=>?_) (s06.free h3) (s06.free h4) (S.dl (fun b hb us z=>?_) (fr h3) (fun z=>?_) (fr h4) fun q hq=>fr (h5 q hq))⟩
 ·simp only[yah,yaQ,or_false]at z;rcases z with rfl | rfl
  ·rw[h3]at e;cases e
  ·rw[h4]at e;cases e
 ·simp only[yah,yaQ,or_false]at z;rcases z with rfl | rfl
  ·rw[h1]at e;cases e
  ·rw[h2]at e;cases e
 ·obtain ⟨o,e,n,_⟩:=kk b hb;rw[s6 _ _ e]at z;exact n _ (yad z)
 ·obtain ⟨o,e,_,_,_,n⟩:=kk _ z;have:=S.own;rw[s6 _ _ e]at this;exact n _ (yad this)
end
def zlB (K:Frag)(CS:Addr):Sp:=fun vs H Q _=>∃(sh1 dx1 st1 p1 sh2 dx2 st2 p2 t:Addr) (qs1 qs2:List Addr) (ps:List Nat) (rows:List (List Int)) (t1 rs1 t2 rs2:Addr) (as1 as2:List Addr),vs=[.ref sh1,.ref sh2,.ref t]∧zaC K CS H sh1 dx1 st1 p1 qs1 ps rows t1 rs1 as1∧zaC K CS H sh2 dx2 st2 p2 qs2 ps rows t2 rs2 as2∧H t=some (.tup (zbT ps))∧∀ H',Same H H'→Q (.bl true) H'
theorem znX (T:Txt K mg){CS:Addr}(O:OwnC K mg CS)(qd4:DF K mg "_law_same" zfx zeu)(qaW:FM P w K mg base CS 4 "full" zbb (zlJ K CS))(qaQ:FM P w K mg base CS 1 "stand" zbr (ziN CS)):FC P w K mg base 5 "_law_same" zeu (zlB K CS):=by
 refine qd4.ok qfe (fun vs H Q E h=>?_) (fun f cdv A outer s H vs Q E hr h=>?_)
 ·obtain ⟨sh1,dx1,st1,p1,sh2,dx2,st2,p2,t,qs1,qs2,ps,rows,t1,rs1,t2,rs2,as1,as2,rfl,_⟩:=h;rfl
 obtain ⟨sh1,dx1,st1,p1,sh2,dx2,st2,p2,t,qs1,qs2,ps,rows,t1,rs1,t2,rs2,as1,as2,rfl,S1,S2,ht,q⟩:=h;refine ⟨_,(zaz (zaP (zar (zj2 (Tup (Option Int)×Tup (Tup Int)) (huD hr)) (zlX qaQ O.cl hr (pv 0)) (zlX qaQ O.cl hr (pv 1)) (zaB _)) (zae (zas zdU)) zav)
   (zae (zas (zhn (zry (List (List (Int×Int))) (huD hr)) (zb5 (N:=["_law_knot","_law_one"]) (own:=1) (cap:=[0]) rfl (zbs rfl T.qaF (zaa (zam zak rfl T.qaz boot_len (zaa (pv 2) zab)) zab)) ⟨rfl,rfl,rfl,rfl,rfl,rfl⟩ (fun _ _ _ _ _=>(zay (i:=0) (show List.Nodup (["_law_knot","_law_one"]:List Str) by decide +kernel) rfl (Or.inl rfl))) (fun _ _ _ _ _=>zc2) (fun _ _ _ _ _=>(zfj qaW O.cl hr (pv 1) (zaa (pv 0) zab)))) (zb5 (N:=["_law_knot","_law_other"]) (own:=1) (cap:=[1]) rfl (zbs rfl T.qaF (zaa (zam zak rfl T.qaz boot_len (zaa (pv 2) zab)) zab)) ⟨rfl,rfl,rfl,rfl,rfl,rfl⟩ (fun _ _ _ _ _=>(zay (i:=0) (show List.Nodup (["_law_knot","_law_other"]:List Str) by decide +kernel) rfl (Or.inl rfl))) (fun _ _ _ _ _=>zc2) (fun _ _ _ _ _=>(zfj qaW O.cl hr (pv 1) (zaa (pv 0) zab)))) (zaB _))))),?_⟩
 have el:=zat ps;have hfew:=S1.stand.few;refine ⟨fun σ' H'=>σ'=[some (.ref sh1),some (.ref sh2),some (.ref t)]∧H=H',?_,?_⟩
 ·refine ⟨_,rfl,sh1,dx1,_,rfl,S1.ins,rfl,sh1,dx1,st1,p1,rfl,S1.ins,_,rfl,sh2,dx2,_,rfl,S2.ins,rfl,sh2,dx2,st2,p2,rfl,S2.ins,zhZ ps rows,zhZ ps rows,zfQ S1.stand,zfQ S2.stand,_,rfl,?_⟩;exact zil rfl ⟨rfl,rfl⟩
 rintro _ _ ⟨rfl,rfl⟩;refine ⟨_,rfl,_,_,rfl,.inr (SqT.of ht),_,rfl,by rw[el];omega,by rw[el];omega,fun pa hpa=>?_⟩;rw[el,ya6];refine zdS (n:=ps.length+1) (fun i σ H2=>∃(x0:Option V) (qa:List Addr),σ=[x0,some (.ref sh1)]∧FA K H2 pa qa i (zao ps rows)∧But pa H H2) ?_ ?_ ?_
 ·exact ⟨_,[],rfl,⟨zac,rfl,ybd,(fun z=>nomatch z),fun j q e=>by simp at e⟩,fun b o n e=>by rw[zaj n];exact e⟩
 ·rintro i2 m σ H2 hm hi2 ⟨x0,qa,rfl,F2,k2⟩;rw[ybI];have s2:Same H H2:=fun b o e=>k2 b o (zad e hpa) e;have S2:=S1.same s2;have hql:=F2.len;refine zdZ ?_;refine ⟨_,rfl,sh1,dx1,_,rfl,S2.ins,rfl,_,rfl,sh1,dx1,st1,p1,i2,qs1,ps,rows,t1,rs1,as1,rfl,S2,hi2,fun B0 ws hB0 hw=>?_⟩;have nB:B0≠pa:=fun z=>by rw[z,F2.at_]at hB0;cases hB0
  exact ⟨_,by rw[zaj (Ne.symm nB)];exact F2.at_,zau (by rw[yab];omega),m - 1,by omega,by omega,_,_,rfl,F2.snoc hB0 hw,fun b o n e=>by rw[zaj n];exact zaf hB0 _ _ _ (k2 b o n e)⟩
 rintro σ H3 ⟨x0,qa,rfl,F3,k3⟩;have s3:Same H H3:=fun b o e=>k3 b o (zad e hpa) e;refine ⟨_,rfl,_,_,rfl,.inr (SqT.of (s3 _ _ ht)),_,rfl,by rw[el];omega,by rw[el];omega,fun pb hpb=>?_⟩;rw[el,ya6];refine zdS (n:=ps.length+1) (fun i σ H2=>∃(x0:Option V) (qa:List Addr),σ=[x0,some (.ref sh2)]∧FA K H2 pb qa i (zao ps rows)∧But pb H3 H2) ?_ ?_ ?_
 ·exact ⟨_,[],rfl,⟨zac,rfl,ybd,(fun z=>nomatch z),fun j q e=>by simp at e⟩,fun b o n e=>by rw[zaj n];exact e⟩
 ·rintro i2 m σ H4 hm hi2 ⟨x0,qa,rfl,F2,k2⟩;rw[ybI];have s2:Same H3 H4:=fun b o e=>k2 b o (zad e hpb) e;have S4:=S2.same (s3.trans s2);have hql:=F2.len;refine zdZ ?_;refine ⟨_,rfl,sh2,dx2,_,rfl,S4.ins,rfl,_,rfl,sh2,dx2,st2,p2,i2,qs2,ps,rows,t2,rs2,as2,rfl,S4,hi2,fun B0 ws hB0 hw=>?_⟩;have nB:B0≠pb:=fun z=>by rw[z,F2.at_]at hB0;cases hB0
  exact ⟨_,by rw[zaj (Ne.symm nB)];exact F2.at_,zau (by rw[yab];omega),m - 1,by omega,by omega,_,_,rfl,F2.snoc hB0 hw,fun b o n e=>by rw[zaj n];exact zaf hB0 _ _ _ (k2 b o n e)⟩
 rintro σ H4 ⟨x0,qb,rfl,F4,k4⟩;have s4:Same H3 H4:=fun b o e=>k4 b o (zad e hpb) e;refine ⟨zmS ps rows,zmS ps rows,⟨pa,_,rfl,SqL.of (s4 _ _ F3.at_),F3.has.mono s4.ext⟩,⟨pb,_,rfl,SqL.of F4.at_,F4.has⟩,?_⟩;rw[yaj (Eq.refl (zmS ps rows))];exact q _ (s3.trans s4)
theorem ze6.sub {Av Bv:List Addr}{H:Hp}(A:ze6 Av H)(h:∀ b∈Bv,b∈Av):ze6 Bv H:=⟨fun b hb=>A.some b (h b hb),fun b hb=>A.tup b (h b hb)⟩
def zh4 (K:Frag)(mp:Addr):Sp:=fun vs H Q _=>∃(a:Addr) (ns:List Int),vs=[.ref a]∧SqL K H a (ns.map V.int)∧ns.length≤63∧H mp=some (.tbl #[])∧∀ H',Q (.bl true) H'
theorem zrD (T:Txt K mg){mp:Addr}{CS:Addr}(O:OwnC K mg CS)(qgD:DF K mg "law" znF zjV)(qfv:FC P w K mg base 1 "_law_begin" zdK (zlK K))(qak:FC P w K mg base 2 "_law_take" zbq (ze8 K))(qgd:FC P w K mg base 3 "_law_tree" zes (zo2 K))(qge:FC P w K mg base 5 "_law_rows" zev (zo4 K))(qec:FC P w K mg base 3 "tree_of" zdG (zjH K))(qdG:FC P w K mg base 4 "stand_of" zc3 (zh2 K))(qfw:FI P w K mg base CS 9 zbn (zlH K CS))(qgf:FC P w K mg base 4 "_law_step" zet (zo3 K))(qeQ:FC P w K mg base 1 "_law_behind" zc5 (zjN K))(qgE:FC P w K mg base 4 "_law_bad" zfF (zre K))(qew:FC P w K mg base 9 "_law_refused" zcx (zh3 K CS))(qgg:FC P w K mg base 5 "_law_same" zeu (zlB K CS))(qaQ:FM P w K mg base CS 1 "stand" zbr (ziN CS))(qa1:FM P w K mg base CS 8 "put" zbj (zjM K CS mp putR zqb))(qa2:FM P w K mg base CS 8 "out" zbk (zjM K CS mp outR zqc)):FC P w K mg base 11 "law" zjV (zh4 K mp):=by
 refine qgD.ok qaO (fun vs H Q E h=>?_) (fun f cdv A outer s H vs Q E hr h=>?_)
 ·obtain ⟨a,ns,rfl,_⟩:=h;rfl
 obtain ⟨a,ns,rfl,hS,_,hmp,q⟩:=h;have hT0:zbh H mp zdf lamQ:=⟨#[],hmp,trivial,.inl rfl⟩;refine ⟨_,(zaA (zaq (i:=1) qaO.nd rfl (Or.inl rfl) (zaw qfv hr (zaa (pv 0) zab)))
   (zaA (zaq (i:=2) qaO.nd rfl (Or.inl rfl) (zaw qgd hr (zaa (pv 1) (zaa zag zab))))
   (zaA (zaq (i:=3) qaO.nd rfl (Or.inl rfl) (zaw qge hr (zaa (pv 1) (zaa (zam zak rfl T.qaz boot_len (zaa (pv 2) zab)) (zaa zag zab)))))
   (zaA (zaq (i:=4) qaO.nd rfl (Or.inl rfl) (zrs qfw hr O.mgC (zaa (zaw qdG hr (zaa (zaw qec hr (zaa (pv 2) zab)) (zaa (pv 3) zab))) zab)))
   (zaA (zaq (i:=5) qaO.nd rfl (Or.inl rfl) (zrs qfw hr O.mgC (zaa (zaw qdG hr (zaa (zaw qec hr (zaa (pv 2) zab)) (zaa (pv 3) zab))) zab)))
   (zaA (zb1 PassesOwn.never rfl (zbs rfl T.qaF (zaa (zaw qak hr (zaa (pv 1) (zaa zag zab))) zab)) (zay (i:=6) qaO.nd rfl (Or.inl rfl)) (zaA (zfZ (zaw qgf hr (zaa (pv 1) (zaa (pv 2) (zaa (pv 3) zab)))) (zjW rfl (zbM (zay (i:=7) qaO.nd rfl (Or.inl rfl)) (zbM (zay (i:=8) qaO.nd rfl (Or.inl rfl)) (zbM (zay (i:=9) qaO.nd rfl (Or.inl rfl)) zhm)))))
   (zaA (zaq (i:=3) qaO.nd rfl (Or.inl rfl) (zaw qeQ hr (zaa (pv 3) (zaa (pv 7) (zaa (pv 8) (zaa (pv 9) zab))))))
   (zae (zaP (zbZ (pv 9)) (zae (zaP (zar (zj2 (List (Tri Int (List (Int×Int)) (List (Int×Int)))) (huD hr)) (zfj qa1 O.cl hr (pv 4) (zaa (pv 7) (zaa (pv 8) zab))) (zfj qa1 O.cl hr (pv 5) (zaa (pv 7) (zaa (pv 8) zab))) (zaB _)) (zae (zas zdU)) zav)) (zae (zaP (zar (zj2 (List (Tri Int (List (Int×Int)) (List (Int×Int)))) (huD hr)) (zfj qa2 O.cl hr (pv 4) (zaa (pv 7) (zaa (pv 8) zab))) (zfj qa2 O.cl hr (pv 5) (zaa (pv 7) (zaa (pv 8) zab))) (zaB _)) (zae (zas zdU)) zav)))))))
   (zaA (zb1 PassesOwn.never rfl (zbs rfl T.qaF (zaa zag zab)) (zay (i:=6) qaO.nd rfl (Or.inl rfl)) (zaA (zfZ (zaw qgE hr (zaa (pv 1) (zaa (pv 2) (zaa (pv 3) zab)))) (zjW rfl (zbM (zay (i:=10) qaO.nd rfl (Or.inl rfl)) (zbM (zay (i:=7) qaO.nd rfl (Or.inl rfl)) (zbM (zay (i:=8) qaO.nd rfl (Or.inl rfl)) (zbM (zay (i:=11) qaO.nd rfl (Or.inl rfl)) zhm))))))
   (zdm (zaP (PW.pt (zrm (zar znU (zaw qew hr (zaa (pv 4) (zaa (pv 10) (zaa (pv 7) (zaa (pv 8) zab))))) (pv 11) (zaB _)) (zpe (zar (zj2 (Tup (Option Int)×Tup (Tup Int)) (huD hr)) (zlX qaQ O.cl hr (pv 4)) (zaQ (zaa (pv 2) (zaa (pv 3) zab))) (zaB _))))) (zae (zas zdU)) zav)
   (zae (zaP (zde (zbZ (zaw qgg hr (zaa (pv 4) (zaa (pv 5) (zaa (pv 2) zab)))))) (zae (zas zdU)) zav)))))
   (zae (zas zdU))))))))),?_⟩
 intro N1 n1;refine ⟨_,rfl,a,ns,rfl,hS,fun d H1 _ g1 s1=>n1 _ _ ?_⟩;intro N2 n2;refine ⟨_,rfl,d,a,9,rfl,by decide,s1,fun t ps H2 ht hT hl h2 k2 s2=>n2 _ _ ?_⟩;intro N3 n3;refine ⟨_,rfl,_,rfl,_,_,rfl,.inr (SqT.of h2),?_⟩;refine ⟨d,a,(zbT ps).length,7,rfl,by rw[zat];omega,by omega,s2,fun r0 as0 rows0 H3 hr1 A1 hl1 R1 f1 h3 k3 s3=>n3 _ _ ?_⟩;intro N4 n4;rw[zat]at hl1;have h3t:=zfk s2 k3 _ _ h2;have w1:=zmC f1;have hkeys:zbP rows0≤63:=by omega
 have hps:ps.length≤20:=by omega
 have el:=zat ps;have hT3:zbh H3 mp zdf lamQ:=((hT0.ext g1.ext).ext (s1.ext k2)).ext (s2.ext k3);refine ⟨_,rfl,t,ps,rfl,h3t,hT,by omega,fun H4 s4=>?_⟩;refine ⟨_,rfl,t,r0,ps,rows0,as0,rfl,s4 _ _ h3t,s4 _ _ h3,A1.ext s4,hl1,hT,R1,by omega,by omega,fun st rs bs H5 hst s5 S5=>?_⟩;have s35:=s4.trans s5;intro sh1 dx1 hsh1 hdx1 hne1;refine zgL S5 hsh1 hdx1 hne1 fun p1 qs1 H6 hp1 hqs1 s6 S6=>⟨rfl,n4 _ _ ?_⟩;have s36:=s35.trans s6;have M6:SNow K CS mp a H6 d sh1 p1 qs1 ps rows0:=SNow.new (s3.same s35) (hT3.ext s35.ext) s6 hsh1 hp1 S6;intro N5 n5;refine ⟨_,rfl,t,ps,rfl,s36 _ _ h3t,hT,by omega,fun H7 s7=>?_⟩;refine ⟨_,rfl,t,r0,ps,rows0,as0,rfl,s7 _ _ (s36 _ _ h3t),s7 _ _ (s36 _ _ h3),(A1.ext s36).ext s7,hl1,hT,R1,by omega,by omega,fun st2 rs2 bs2 H8 hst2 s8 S8=>?_⟩;have s68:=s7.trans s8;intro sh2 dx2 hsh2 hdx2 hne2;refine zgL S8 hsh2 hdx2 hne2 fun p2 qs2 H9 hp2 hqs2 s9 S9=>⟨rfl,n5 _ _ ?_⟩;have s69:=s68.trans s9;have M9:TNow K CS mp a H9 d sh1 p1 sh2 p2 qs1 qs2 ps rows0 rows0:=TNow.new s3 hT3 s36 (s35.free hsh1) (s35.free hp1) M6 s69 (s68.free hsh2) (s68.free hp2) (fun q hq=>s68.free (hqs2 q hq)) S9;have t9:=s69 _ _ (s36 _ _ h3t);have r9:zcU H9 r0 as0 rows0:=⟨s69 _ _ (s36 _ _ h3),(A1.ext s36).ext s69⟩;clear M6 S6 S5 S8 S9 s36 s35 s68 s69 A1 h3 h3t;intro N6 n6;refine ⟨_,rfl,d,a,5,rfl,by decide,M9.real1.lsH,fun n H10 n0 n1 k10 s10=>⟨_,rfl,by omega,by omega,?_⟩⟩;have M10:=M9.take k10 s10;have tp10:=zfk M9.real1.lsH k10;refine zbv (n:=n.toNat) (fun i σ HA=>∃(r:Addr) (asr:List Addr) (rows:List (List Int)) (qs1 qs2:List Addr) (x6 x7 x8 x9:Option V),σ=[some (.ref a),some (.ref d),some (.ref t),some (.ref r),some (.ref sh1),some (.ref sh2),x6,x7,x8,x9,none,none]∧TNow K CS mp a HA d sh1 p1 sh2 p2 qs1 qs2 ps rows rows∧HA t=some (.tup (zbT ps))∧zcU HA r asr rows∧zbP rows≤63+i) ?_ ?_ ?_
 ·exact ⟨r0,as0,rows0,qs1,qs2,_,_,_,_,rfl,M10,tp10 _ _ t9,r9.tp tp10,hkeys⟩
 ·rintro i σ HA hi ⟨r,asr,rows,qs1,qs2,x6,x7,x8,x9,rfl,NA,tA,rA,hkA⟩;refine zr7 fun N B R hN hB hR'=>?_;intro N1 n1;obtain ⟨dx,st1,t1,rs1,as1,SA⟩:=NA.real1.shelf;have hlen:=SA.stand.len;have RA:=SA.stand.R;refine ⟨_,rfl,_,rfl,_,rfl,d,a,t,r,ps,rows,asr,rfl,tA,by omega,rA,hlen,RA,fun k=>yaB (zhg k) (by omega),NA.real1.lsH,fun u kn x HB hu hkn hx huT kB sB=>?_⟩;refine ⟨u,_,rfl,SqT.of huT,rfl,_,_,rfl,_,_,rfl,_,_,rfl,rfl,n1 _ _ ?_⟩;intro N2 n2;have NB:=NA.take kB sB;have tpB:=zfk NA.real1.lsH kB;generalize hb:(!decide (x∈zal rows kn))=b;have hb:=hb.symm;have hkr:kn < rows.length:=by omega
  have hkd:=zk2 (x:=x) (b:=b) hkr;refine ⟨_,rfl,_,rfl,_,rfl,_,rfl,r,kn,x,b,rows,asr,rfl,rA.tp tpB,hkr,by omega,RA,fun k=>yaB (zhg k) (by omega),hb,fun r' as' HC hr' sC RC=>n2 _ _ ?_⟩;have NC:=NB.same sC;have tC:=sC _ _ (tpB _ _ tA);clear NA NB SA huT;have hok:=zmh (rows:=rows) (kn:=kn) (x:=x) hb (by omega);have fin:∀{D1 D2:Addr} {us1 us2:List V} {m1 m2:Nat} {qs1' qs2':List Addr} {dx1 dx2 st1 st2 t1 t2 rs1 rs2:Addr} {as1 as2:List Addr} {HD HE:Hp},zcV K CS mp HC HD sh1 dx1 p1 D1 us1 m1 qs1 qs1' st1 t1 rs1 as1 ps rows (zjh rows kn x b) kn→zcV K CS mp HD HE sh2 dx2 p2 D2 us2 m2 qs2 qs2' st2 t2 rs2 as2 ps rows (zjh rows kn x b) kn→
    ∃ es:List ToT,Rep.has K HE es (.ref D1)∧Rep.has K HE es (.ref D2)∧∃(r:Addr) (asr:List Addr) (rows':List (List Int)) (qs1 qs2:List Addr) (y6 y7 y8 y9:Option V),[some (V.ref a),some (.ref d),some (.ref t),some (.ref r'),some (.ref sh1),some (.ref sh2),some (.int (0+(i:Int))),some (.int kn),some (.int x),some (.bl b),none,none]=[some (.ref a),some (.ref d),some (.ref t),some (.ref r),some (.ref sh1),some (.ref sh2),y6,y7,y8,y9,none,none]∧TNow K CS mp a HE d sh1 p1 sh2 p2 qs1 qs2 ps rows' rows'∧HE t=some (.tup (zbT ps))∧zcU HE r asr rows'∧zbP rows'≤63+(i+1):=fun {D1 D2 us1 us2 m1 m2 qs1' qs2' dx1 dx2 st1 st2 t1 t2 rs1 rs2 as1 as2 HD HE} X1 X2=>by
   have ND:=NC.deed X1;have NE:=(ND.swap.deed X2).swap;have A1:ze6 [sh2,p2,mp] HC:=NC.real2.apart.sub (by simp);have A2:ze6 [sh2,p2,mp] HD:=X1.apart A1;have tp1:Tp HC HD:=(X1.kp (Av:=[d,sh1,p1,mp]) (by simp) (by simp) (by simp)).tp NC.real1.apart.tup;have tp2:Tp HD HE:=(X2.kp (Av:=[d,sh2,p2,mp]) (by simp) (by simp) (by simp)).tp ND.real2.apart.tup;have tp:Tp HC HE:=fun b us e=>tp2 _ _ (tp1 _ _ e);have d1:=zps (zr8 (X2.kp (by simp) (by simp) (by simp)) (X1.data A1));have d2:=zps (X2.data A2);rw[znu X2.stops X1.stops]at d2;exact ⟨_,d1,d2,r',as',_,_,_,_,_,_,_,rfl,NE,tp _ _ tC,RC.tp tp,by omega⟩
  obtain ⟨dx1,st1,t1,rs1,as1,S1⟩:=NC.real1.shelf;refine ⟨_,rfl,_,rfl,?_⟩;cases b with
  | true=>
   refine iteT ?_;refine ⟨_,rfl,sh1,dx1,_,rfl,S1.ins,rfl,_,rfl,_,rfl,sh1,dx1,st1,p1,kn,x,qs1,ps,rows,t1,rs1,as1,rfl,S1,hkn,hx,hok.1 rfl,NC.real1.tab,fun D1 us1 m1 qs1' st1' rs1' as1' HD h1 h2 h3 h4 h5 h6 h7 h8=>?_⟩;have X1:zcV K CS mp HC HD sh1 dx1 p1 D1 us1 m1 qs1 qs1' st1' t1 rs1' as1' ps rows (zjh rows kn x true) kn:=⟨h1,h2,h3,h4,h5,h6,h7,h8⟩;have ND:=NC.deed X1;obtain ⟨dx2,st2,t2,rs2,as2,S2⟩:=ND.real2.shelf;refine ⟨_,rfl,sh2,dx2,_,rfl,S2.ins,rfl,_,rfl,_,rfl,sh2,dx2,st2,p2,kn,x,qs2,ps,rows,t2,rs2,as2,rfl,S2,hkn,hx,hok.1 rfl,ND.real2.tab,fun D2 us2 m2 qs2' st2' rs2' as2' HE h1 h2 h3 h4 h5 h6 h7 h8=>?_⟩;obtain ⟨es,e1,e2,z⟩:=fin X1 (D2:=D2) (HE:=HE) (m2:=m2) (us2:=us2) (qs2':=qs2') (dx2:=dx2) (st2:=st2') (t2:=t2) (rs2:=rs2') (as2:=as2') ⟨h1,h2,h3,h4,h5,h6,h7,h8⟩;refine ⟨es,es,e1,e2,_,rfl,?_⟩;exact zil rfl (hN _ _ z)
  | false=>
   refine iteF ?_;refine ⟨_,rfl,sh1,dx1,_,rfl,S1.ins,rfl,_,rfl,_,rfl,sh1,dx1,st1,p1,kn,x,qs1,ps,rows,t1,rs1,as1,rfl,S1,hkn,hx,hok.2 rfl,NC.real1.tab,fun D1 us1 m1 qs1' st1' rs1' as1' HD h1 h2 h3 h4 h5 h6 h7 h8=>?_⟩;have X1:zcV K CS mp HC HD sh1 dx1 p1 D1 us1 m1 qs1 qs1' st1' t1 rs1' as1' ps rows (zjh rows kn x false) kn:=⟨h1,h2,h3,h4,h5,h6,h7,h8⟩;have ND:=NC.deed X1;obtain ⟨dx2,st2,t2,rs2,as2,S2⟩:=ND.real2.shelf;refine ⟨_,rfl,sh2,dx2,_,rfl,S2.ins,rfl,_,rfl,_,rfl,sh2,dx2,st2,p2,kn,x,qs2,ps,rows,t2,rs2,as2,rfl,S2,hkn,hx,hok.2 rfl,ND.real2.tab,fun D2 us2 m2 qs2' st2' rs2' as2' HE h1 h2 h3 h4 h5 h6 h7 h8=>?_⟩;obtain ⟨es,e1,e2,z⟩:=fin X1 (D2:=D2) (HE:=HE) (m2:=m2) (us2:=us2) (qs2':=qs2') (dx2:=dx2) (st2:=st2') (t2:=t2) (rs2:=rs2') (as2:=as2') ⟨h1,h2,h3,h4,h5,h6,h7,h8⟩;refine ⟨es,es,e1,e2,_,rfl,?_⟩;exact zil rfl (hN _ _ z)
 ·rintro σ HA ⟨r,asr,rows,qs1,qs2,x6,x7,x8,x9,rfl,NA,tA,rA,hkA⟩;refine n6 _ _ ?_;intro N7 n7;refine ⟨_,rfl,by decide,by decide,?_⟩;refine zbv (n:=10) (fun i σ HB=>∃(x6 x7 x8 x10 x11:Option V),σ=[some (.ref a),some (.ref d),some (.ref t),some (.ref r),some (.ref sh1),some (.ref sh2),x6,x7,x8,x9,x10,x11]∧TNow K CS mp a HB d sh1 p1 sh2 p2 qs1 qs2 ps rows rows∧HB t=some (.tup (zbT ps))∧zcU HB r asr rows) ?_ ?_ ?_
  ·exact ⟨_,_,_,_,_,rfl,NA,tA,rA⟩
  ·rintro i σ HB hi ⟨x6,x7,x8,x10,x11,rfl,NB,tB,rB⟩;refine zr7 fun N B R hN hB hR'=>?_;intro N1 n1;obtain ⟨dx,st1,t1,rs1,as1,SB⟩:=NB.real1.shelf;refine ⟨_,rfl,_,rfl,_,rfl,d,a,t,r,ps,rows,asr,rfl,tB,by omega,rB,SB.stand.len,SB.stand.R,fun k=>yaB (zhg k) (by have:=SB.stand.keys;omega),NB.real1.lsH,fun u w x y c HC huT hW kC sC=>?_⟩;refine ⟨u,_,rfl,SqT.of huT,rfl,_,_,rfl,_,_,rfl,_,_,rfl,_,_,rfl,rfl,n1 _ _ ?_⟩;have NC:=NB.take kC sC;have tpC:=zfk NB.real1.lsH kC;have tC:=tpC _ _ tB;have rC:=rB.tp tpC;clear NB SB;refine ⟨fun σ' H'=>σ'=[some (.ref a),some (.ref d),some (.ref t),some (.ref r),some (.ref sh1),some (.ref sh2),some (.int (0+(i:Int))),some x,some y,x9,some (.str w),some (.str (refS c))]∧Same HC H',?_,?_⟩
   ·intro N2 n2;obtain ⟨dx,st1,t1,rs1,as1,SC⟩:=NC.real1.shelf;refine ⟨_,rfl,_,rfl,_,rfl,_,rfl,sh1,dx,st1,p1,w,x,y,c,qs1,ps,rows,t1,rs1,as1,rfl,SC,hW,fun HD sD=>⟨_,rfl,rfl,_,rfl,?_⟩⟩;refine zil rfl ?_;have SD:=SC.same sD;refine ⟨_,rfl,sh1,dx,_,rfl,SD.ins,rfl,sh1,dx,st1,p1,rfl,SD.ins,_,rfl,_,rfl,(by show 2≤sizeLine;decide),fun u hu=>?_⟩;have su:=zaf hu (.tup [.ref t,.ref r]);have rU:=rC.tp fun b us e=>su _ _ (sD _ _ e);refine ⟨zhZ ps rows,zhZ ps rows,zfQ (SD.stand.same su),⟨u,_,_,rfl,zac,⟨_,_,rfl,SqT.of (su _ _ (sD _ _ tC)),zjD ps⟩,⟨_,_,rfl,SqT.of rU.at_,zhf rU.rows⟩⟩,_,rfl,?_⟩;exact zil rfl (n2 _ _ ⟨rfl,sD.trans su⟩)
   rintro _ HD ⟨rfl,sD⟩;have ND:=NC.same sD;have tD:=sD _ _ tC;have rD:=rC.tp fun b us e=>sD _ _ e;obtain ⟨dx1,st1,t1,rs1,as1,S1⟩:=ND.real1.shelf;obtain ⟨dx2,st2,t2,rs2,as2,S2⟩:=ND.real2.shelf;refine ⟨_,rfl,_,rfl,_,rfl,sh1,dx1,st1,p1,sh2,dx2,st2,p2,t,qs1,qs2,ps,rows,t1,rs1,t2,rs2,as1,as2,rfl,S1,S2,tD,fun HE sE=>⟨_,rfl,?_⟩⟩;exact iteF (hN _ _ ⟨_,_,_,_,_,rfl,ND.same sE,sE _ _ tD,rD.tp fun b us e=>sE _ _ e⟩)
  ·rintro σ HB ⟨x6,x7,x8,x10,x11,rfl,NB,tB,rB⟩;exact n7 _ _ (q _)
abbrev lawRoom:Nat:=11
theorem all_ok (T:Txt K mg){qaa qai qal qag qaf qab qad qac qae qah qam qaj qan:Addr}(CL:Cls K mg qaa qai qal qag qaf qab qad qac qae qah qam qaj qan){CS:Addr}(O:OwnC K mg CS){mc mp:Addr}(hBM:BMAt mg base)(qbG:DF K mg "is_whole" zdC zbU)(qdZ:DF K mg "is_key" zfz zcL)(qaR:DF K mg "need_key" zcK zbE)(qfs:DF K mg "code" zjQ zhk)(qaN:DF K mg "how_many_below" zbx zbm)(qd2:DFT K mg "place" zeQ zc4 mc mp)(qbi:DF K mg "joined_up" zc0 zb0)(qaS:DF K mg "lowest_unlike" zbI zbA)(qdU:DF K mg "turned" zfr zep)(qdV:DF K mg "labels" zft zer)(qa8:DF K mg "neighbours" zcu zbK)(qa9:DF K mg "least_free" zcv zcb)(qcQ:DF K mg "colours" zel zdL)(qes:DF K mg "marks" zhb zfD)(qdW:DF K mg "handed" zfA zdn)(qat:DF K mg "is_one_of_first" za7 zaE)(qcV:DF K mg "tree_of" zei zdG)(qaG:DF K mg "need_knot" zci zaT)(qbF:DF K mg "children" zdD zc6)(qcR:DF K mg "beneath" zem zdM)(qd1:DF K mg "row_of" zfs zeq)(qaT:DF K mg "long_together" zbJ zaY)(qbI:DF K mg "stand_of" zdA zc3)(qbJ:DF K mg "with_row" zdz zbD)(qa0:DF K mg "own_entries" zb9 zbV)(qaA:DF K mg "full_rows_beneath" za8 za6)(qbk:DF K mg "full_rows" zc1 zcy)(qcS:DF K mg "without" zeh zdF)(qcO:DF K mg "_law_begin" zek zdK)(qcN:DF K mg "_law_mixed" zej zdI)(qdT:DF K mg "_law_take" zfv zbq)(qer:DF K mg "_law_key" zhd zdJ)(qdX:DF K mg "_law_tree" zfu zes)(qeu:DF K mg "_law_row" zhc zfE)(qd0:DF K mg "_law_rows" zfy zev)(qd3:DF K mg "_law_step" zfw zet)(qbK:DF K mg "_law_behind" zdB zc5)(qbn:DF K mg "_law_refused" zcZ zcx)(qev:DF K mg "_law_bad" zhe zfF)(qd4:DF K mg "_law_same" zfx zeu)(qgD:DF K mg "law" znF zjV)(qaL:DI K CS "Shelf.__init__" zbz zbn)(qaw:DM K CS "row_for" "Shelf.row_for" zbi zaH)(qaM:DM K CS "carry_up" "Shelf.carry_up" zby zaL)(qaH:DM K CS "put" "Shelf.put" zcj zbj)(qaJ:DM K CS "out" "Shelf.out" zck zbk)(qbb:DM K CS "hang" "Shelf.hang" zcw zcc)(qaP:DM K CS "stand" "Shelf.stand" zca zbr)(qaE:DM K CS "full" "Shelf.full" zbY zbb):FC P w K mg base 11 "law" zjV (zh4 K mp):=
 have m:=zn1 (P:=P) (w:=w) (base:=base) T qcN;have t:=zp1 T qdT m;have c:=zqa (P:=P) (w:=w) (base:=base) T qfs;have nb:=zht (P:=P) (w:=w) (base:=base) T qa8;have mk:=zn2 T qes (zmc T qdV c (zl9 T qdU (zrC T qaS))) (zkM T qcQ nb (zhu T qa9)) nb;have hd:=zme T qdW mk;have ch:=ziX (P:=P) (w:=w) (base:=base) T qbF;have jo:=zmd (P:=P) (w:=w) (base:=base) T qbi;have fr:=zrG T qaA (zkN T qcR) ch hd (zrA T qa0) jo;have wh:=znW (P:=P) (w:=w) (base:=base) T qbG;have lg:=zp7 (P:=P) (w:=w) (base:=base) T qaT;have ik:=zn7 T qdZ wh;have so:=zkK T qbI (znY T qd1 ik) lg;have fi:=zoc T qat wh;have ky:=zrE T qer t;have kn:=zn6 T qaG fi;have nk:=zn0 T qaR ik;have rf:=zmb T O qaw kn nk;have pl:=znZ (P:=P) (w:=w) (base:=base) T qd2 hBM (fun b=>zrF (base:=b) T qaN);have wr:=zp0 (P:=P) (w:=w) (base:=base) T qbJ;have cu:=zod T O qaM hd jo (zkJ T qcS);have pu:=zrz T O qaH rf lg pl wr cu;have ou:=zrB T O qaJ rf pl wr cu;have kb:=kn.fx.or (zn5 T CL qaG (zmf T qat wh));have yb:=nk.fx.or (zp8 T CL qaR ik);have rb:=rf.fx.or (zp3 T CL O qaw kb yb);have rd:=zkL T CL O qbn (zp4 T CL O qaH rb lg pl wr cu) (zp5 T CL O qaJ rb pl wr cu) (zn8 T CL O qbb kb) (zoa T CL O qaE kb)
 zrD T O qgD (zoe T qcO) t (zn3 T qdX t) (zn4 T qd0 t (zp6 T qeu t ky)) (zma T qcV fi) so (zp9 T O qaL (zn9 T qbk fr)) (zp2 T qd3 t ky) (zmg T qbK) (zrH T qev t ky) rd (znX T O qd4 (zob T O qaE kn) (zj4 O qaP)) (zj4 O qaP) pu ou
end
theorem u1 {P:List Value→Prop}(h:∀ a,P [a])(us:List Value)(hl:us.length=1):P us:=by
 rcases us with _ | ⟨a,_ | ⟨z,us⟩⟩
 ·cases hl
 ·exact h a
 ·exact absurd hl (by simp)
theorem u2 {P:List Value→Prop}(h:∀ a b,P [a,b])(us:List Value)(hl:us.length=2):P us:=by
 rcases us with _ | ⟨a,_ | ⟨b,_ | ⟨z,us⟩⟩⟩
 ·cases hl
 ·cases hl
 ·exact h a b
 ·exact absurd hl (by simp)
theorem u3 {P:List Value→Prop}(h:∀ a b c,P [a,b,c])(us:List Value)(hl:us.length=3):P us:=by
 rcases us with _ | ⟨a,_ | ⟨b,_ | ⟨c,_ | ⟨z,us⟩⟩⟩⟩
 ·cases hl
 ·cases hl
 ·cases hl
 ·exact h a b c
 ·exact absurd hl (by simp)
theorem u4 {P:List Value→Prop}(h:∀ a b c d,P [a,b,c,d])(us:List Value)(hl:us.length=4):P us:=by
 rcases us with _ | ⟨a,_ | ⟨b,_ | ⟨c,_ | ⟨d,_ | ⟨z,us⟩⟩⟩⟩⟩
 ·cases hl
 ·cases hl
 ·cases hl
 ·cases hl
 ·exact h a b c d
 ·exact absurd hl (by simp)
structure AD (K:Frag)(x:Str)(st:Stmt):Prop where
 ex:∃(f:Addr) (oc:Value) (od:Option Addr) (kV dc pm:Value) (an:Option Addr) (cd ct:Value) (sl:Array (Option Value)),nsIn K mainGlobals x=some (some (.ref f))∧K.lookup f=some ⟨oc,od,.func (fnOf x x (zbR st) (za3 st) (zah st) .none kV dc pm an cd ct),sl⟩∧codeIn K cd x=true∧keepIn K (.ref f)=true
theorem AD.of {K:Frag}{x:Str}{st:Stmt}{f:Addr}{oc:Value}{od:Option Addr}{kV dc pm:Value}{an:Option Addr}{cd ct:Value}{sl:Array (Option Value)}(a:nsIn K mainGlobals x=some (some (.ref f)))(l:K.lookup f=some ⟨oc,od,.func (fnOf x x (zbR st) (za3 st) (zah st) .none kV dc pm an cd ct),sl⟩)(c:codeIn K cd x=true)(k:keepIn K (.ref f)=true):AD K x st:=⟨f,oc,od,kV,dc,pm,an,cd,ct,sl,a,l,c,k⟩
theorem AD.df {K:Frag}{h:Heap}{mg:Str→Option Value}{x:Str}{st:Stmt}{ps:List Str}(a:AD K x st)(X:K.In h)(G:h.Ns mainGlobals mg)
  (hb:∀(kV doc pm:Value) (an:Option Addr) (cdv ct:Value) (us:List Value),us.length=ps.length→bindArgs (fnOf x x (zbR st) (za3 st) (zah st) .none kV doc pm an cdv ct) ⟨us,[]⟩=pure (ps.zip us):=by
   first | exact fun _ _ _ _ _ _=>u1 fun _=>rfl | exact fun _ _ _ _ _ _=>u2 fun _ _=>rfl | exact fun _ _ _ _ _ _=>u3 fun _ _ _=>rfl | exact fun _ _ _ _ _ _=>u4 fun _ _ _ _=>rfl | exact fun _ _ _ _ _ _=>u5 fun _ _ _ _ _=>rfl | exact fun _ _ _ _ _ _=>u6 fun _ _ _ _ _ _=>rfl):DF K mg x st ps:=by
 obtain ⟨f,oc,od,kV,dc,pm,an,cd,ct,sl,a,l,c,k⟩:=a.ex;exact ⟨_,_,zgd l c k,(zgd l c k).binds hb,mg_of X G a⟩
theorem AD.dft {K:Frag}{h:Heap}{mg:Str→Option Value}{x:Str}{st:Stmt}{ps:List Str}{mc mp:Addr}(a:AD K x st)(X:K.In h)(G:h.Ns mainGlobals mg)(t:tabIn K x=some (mc,mp))(hh:codeHdIn K mc mp=true)
  (hb:∀(kV doc pm:Value) (an:Option Addr) (cdv ct:Value) (us:List Value),us.length=ps.length→bindArgs (fnOf x x (zbR st) (za3 st) (zah st) .none kV doc pm an cdv ct) ⟨us,[]⟩=pure (ps.zip us):=by
   first | exact fun _ _ _ _ _ _=>u1 fun _=>rfl | exact fun _ _ _ _ _ _=>u2 fun _ _=>rfl | exact fun _ _ _ _ _ _=>u3 fun _ _ _=>rfl | exact fun _ _ _ _ _ _=>u4 fun _ _ _ _=>rfl | exact fun _ _ _ _ _ _=>u5 fun _ _ _ _ _=>rfl | exact fun _ _ _ _ _ _=>u6 fun _ _ _ _ _ _=>rfl):DFT K mg x st ps mc mp:=by
 obtain ⟨f,oc,od,kV,dc,pm,an,cd,ct,sl,a,l,c,k⟩:=a.ex;have e:cd=.ref mc:=L2.znw a l t;subst e;exact ⟨⟨_,_,_,_,_,_,_,_,_,l,c,k,mg_of X G a,(zgd l c k).binds hb⟩,hh⟩
structure AM (K:Frag)(C:Addr)(m q:Str)(st:Stmt):Prop where
 ex:∃(f:Addr) (oc:Value) (od:Option Addr) (kV dc pm:Value) (an:Option Addr) (cd ct:Value) (sl:Array (Option Value)),findIn K (.ref C) m=some (some (.ref f))∧PySem.W.isFn K (.ref f)=true∧K.lookup f=some ⟨oc,od,.func (fnOf m q (zbR st) (za3 st) (zah st) .none kV dc pm an cd ct),sl⟩∧codeIn K cd q=true∧keepIn K (.ref f)=true
theorem AM.of {K:Frag}{C:Addr}{m q:Str}{st:Stmt}{f:Addr}{oc:Value}{od:Option Addr}{kV dc pm:Value}{an:Option Addr}{cd ct:Value}{sl:Array (Option Value)}(a:findIn K (.ref C) m=some (some (.ref f)))(i:PySem.W.isFn K (.ref f)=true)(l:K.lookup f=some ⟨oc,od,.func (fnOf m q (zbR st) (za3 st) (zah st) .none kV dc pm an cd ct),sl⟩)(c:codeIn K cd q=true)(k:keepIn K (.ref f)=true):AM K C m q st:=⟨f,oc,od,kV,dc,pm,an,cd,ct,sl,a,i,l,c,k⟩
theorem AM.dm {K:Frag}{C:Addr}{m q:Str}{st:Stmt}{ps:List Str}(a:AM K C m q st)
  (hb:∀(kV doc pm:Value) (an:Option Addr) (cdv ct:Value) (us:List Value),us.length=ps.length→bindArgs (fnOf m q (zbR st) (za3 st) (zah st) .none kV doc pm an cdv ct) ⟨us,[]⟩=pure (ps.zip us):=by
   first | exact fun _ _ _ _ _ _=>u1 fun _=>rfl | exact fun _ _ _ _ _ _=>u2 fun _ _=>rfl | exact fun _ _ _ _ _ _=>u3 fun _ _ _=>rfl | exact fun _ _ _ _ _ _=>u4 fun _ _ _ _=>rfl | exact fun _ _ _ _ _ _=>u5 fun _ _ _ _ _=>rfl | exact fun _ _ _ _ _ _=>u6 fun _ _ _ _ _ _=>rfl):DM K C m q st ps:=by
 obtain ⟨f,oc,od,kV,dc,pm,an,cd,ct,sl,a,i,l,c,k⟩:=a.ex;exact ⟨_,_,zgd l c k,(zgd l c k).binds hb,⟨a,i,k⟩⟩
theorem AM.di {K:Frag}{C:Addr}{q:Str}{st:Stmt}{ps:List Str}(a:AM K C "__init__" q st)(mk:PySem.W.makesIn K C=true)(kc:keepIn K (.ref C)=true)
  (hb:∀(kV doc pm:Value) (an:Option Addr) (cdv ct:Value) (us:List Value),us.length=ps.length→bindArgs (fnOf "__init__" q (zbR st) (za3 st) (zah st) .none kV doc pm an cdv ct) ⟨us,[]⟩=pure (ps.zip us):=by
   first | exact fun _ _ _ _ _ _=>u1 fun _=>rfl | exact fun _ _ _ _ _ _=>u2 fun _ _=>rfl | exact fun _ _ _ _ _ _=>u3 fun _ _ _=>rfl | exact fun _ _ _ _ _ _=>u4 fun _ _ _ _=>rfl | exact fun _ _ _ _ _ _=>u5 fun _ _ _ _ _=>rfl | exact fun _ _ _ _ _ _=>u6 fun _ _ _ _ _ _=>rfl):DI K C q st ps:=by
 obtain ⟨f,oc,od,kV,dc,pm,an,cd,ct,sl,a,i,l,c,k⟩:=a.ex;exact ⟨_,_,zgd l c k,(zgd l c k).binds hb,⟨mk,a,i,kc⟩⟩
theorem zsj {l:OpenLaw}{w:World}{K:Frag}{h:Heap}{mg:Str→Option Value}{fa mc6 mp6 qaa qai qal qag qaf qab qad qac qae qah qam qaj qan CS:Addr}(X:K.In h)(G:h.Ns mainGlobals mg)(hfa:mg "law" = some (.ref fa)){t_KNOT_NUMBERS:Tok}{t_TURNS:Tok}{t_MOST_KNOTS:Tok}{t_MOST_KEYS:Tok}(a1:AD K "is_whole" zdC)(a2:AD K "is_key" zfz)(a3:AD K "need_key" zcK)(a4:AD K "code" zjQ)(a5:AD K "how_many_below" zbx)(a6:AD K "place" zeQ)(a7:AD K "joined_up" zc0)(a8:AD K "lowest_unlike" zbI)(a9:AD K "turned" zfr)(a10:AD K "labels" zft)(a11:AD K "neighbours" zcu)(a12:AD K "least_free" zcv)(a13:AD K "colours" zel)(a14:AD K "marks" zhb)(a15:AD K "handed" zfA)(a16:AD K "is_one_of_first" za7)(a17:AD K "tree_of" zei)(a18:AD K "need_knot" zci)(a19:AD K "children" zdD)(a20:AD K "beneath" zem)(a21:AD K "row_of" zfs)(a22:AD K "long_together" zbJ)(a23:AD K "stand_of" zdA)(a24:AD K "with_row" zdz)(a25:AD K "own_entries" zb9)(a26:AD K "full_rows_beneath" za8)(a27:AD K "full_rows" zc1)(a28:AD K "without" zeh)(a29:AD K "_law_begin" zek)(a30:AD K "_law_mixed" zej)(a31:AD K "_law_take" zfv)(a32:AD K "_law_key" zhd)(a33:AD K "_law_tree" zfu)(a34:AD K "_law_row" zhc)(a35:AD K "_law_rows" zfy)(a36:AD K "_law_step" zfw)(a37:AD K "_law_behind" zdB)(a38:AD K "_law_refused" zcZ)(a39:AD K "_law_bad" zhe)(a40:AD K "_law_same" zfx)(a41:AD K "law" znF)(t6:tabIn K "place" = some (mc6,mp6))(h6:codeHdIn K mc6 mp6=true)(o_C:nsIn K mainGlobals "Shelf" = some (some (.ref CS)))(o_g:PySem.W.plainGet K CS Str.empty=true)(o_h:PySem.W.hasDictIn K CS=true)(o_p:PySem.W.plainOver K CS=true)(o_s:findIn K (.ref CS) "__setattr__" = some (some (.builtin "object.__setattr__")))(o_m:PySem.W.makesIn K CS=true)(o_k:keepIn K (.ref CS)=true)(qgF:findIn K (.ref CS) "kept" = some none)(qgh:findIn K (.ref CS) "fulls" = some none)(qb8:AM K CS "__init__" "Shelf.__init__" zbz)(qcW:AM K CS "row_for" "Shelf.row_for" zbi)(qb9:AM K CS "carry_up" "Shelf.carry_up" zby)(qex:AM K CS "put" "Shelf.put" zcj)(qey:AM K CS "out" "Shelf.out" zck)(qed:AM K CS "hang" "Shelf.hang" zcw)(qd5:AM K CS "stand" "Shelf.stand" zca)(qee:AM K CS "full" "Shelf.full" zbY)(qd6:nsIn K mainGlobals "BridgeError" = some (some (.ref qaa)))(qgi:nsIn K mainGlobals "NoTree" = some (some (.ref qai)))(qgG:nsIn K mainGlobals "NoWay" = some (some (.ref qal)))(qfx:nsIn K mainGlobals "NoStand" = some (some (.ref qag)))(qfy:nsIn K mainGlobals "Twice" = some (some (.ref qaf)))(qef:nsIn K mainGlobals "Missing" = some (some (.ref qab)))(qeL:nsIn K mainGlobals "NoRoom" = some (some (.ref qad)))(qeM:nsIn K mainGlobals "NoKnot" = some (some (.ref qac)))(qfz:nsIn K mainGlobals "NoKey" = some (some (.ref qae)))(qfA:nsIn K mainGlobals "NoOrder" = some (some (.ref qah)))(qgH:nsIn K mainGlobals "NoRow" = some (some (.ref qam)))(qgj:nsIn K mainGlobals "NoText" = some (some (.ref qaj)))(qgI:nsIn K mainGlobals "Shelf" = some (some (.ref qan)))(qfB:PySem.W.excIn K qac zkt "ValueError.__new__" = true)(qeR:findIn K (.ref qac) "__getattribute__" = some (some (.builtin "BaseException.__getattribute__")))(qeS:findIn K (.ref qac) "__getattr__" = some none)(qeT:findIn K (.ref qac) "__class__" = some (some (.builtin "object.__class__")))(qeU:mroIn K qac (.type "object")=some true)(qeV:mroIn K qac (.type "BaseException")=some true)(qeW:(PySem.W.clsIn K qac).isSome=true)(qeX:mroIn K qac (.ref qaa)=some true)(qeY:kitOne K (.ref qac) (.type "ValueError")=some true)(qbc:kitOne K (.ref qac) (.ref qaa)=some true)(qca:kitOne K (.ref qac) (.ref qai)=some false)(qcX:kitOne K (.ref qac) (.ref qal)=some false)(qbL:kitOne K (.ref qac) (.ref qag)=some false)(qcY:kitOne K (.ref qac) (.ref qaf)=some false)(qbM:kitOne K (.ref qac) (.ref qab)=some false)(qcb:kitOne K (.ref qac) (.ref qad)=some false)(qcc:kitOne K (.ref qac) (.ref qac)=some true)(qcZ:kitOne K (.ref qac) (.ref qae)=some false)(qbN:kitOne K (.ref qac) (.ref qah)=some false)(qc0:kitOne K (.ref qac) (.ref qam)=some false)(qcd:kitOne K (.ref qac) (.ref qaj)=some false)(qc1:kitOne K (.ref qac) (.ref qan)=some false)(qgk:PySem.W.excIn K qae zkt "ValueError.__new__" = true)(qfC:findIn K (.ref qae) "__getattribute__" = some (some (.builtin "BaseException.__getattribute__")))(qfD:findIn K (.ref qae) "__getattr__" = some none)(qfE:findIn K (.ref qae) "__class__" = some (some (.builtin "object.__class__")))(qfF:mroIn K qae (.type "object")=some true)(qfG:mroIn K qae (.type "BaseException")=some true)(qfH:(PySem.W.clsIn K qae).isSome=true)(qfI:mroIn K qae (.ref qaa)=some true)(qfJ:kitOne K (.ref qae) (.type "ValueError")=some true)(qbf:kitOne K (.ref qae) (.ref qaa)=some true)(qc2:kitOne K (.ref qae) (.ref qai)=some false)(qdu:kitOne K (.ref qae) (.ref qal)=some false)(qce:kitOne K (.ref qae) (.ref qag)=some false)(qdv:kitOne K (.ref qae) (.ref qaf)=some false)(qcf:kitOne K (.ref qae) (.ref qab)=some false)(qc3:kitOne K (.ref qae) (.ref qad)=some false)(qc4:kitOne K (.ref qae) (.ref qac)=some false)(qdw:kitOne K (.ref qae) (.ref qae)=some true)(qcg:kitOne K (.ref qae) (.ref qah)=some false)(qdx:kitOne K (.ref qae) (.ref qam)=some false)(qc5:kitOne K (.ref qae) (.ref qaj)=some false)(qdy:kitOne K (.ref qae) (.ref qan)=some false)(qgl:PySem.W.excIn K qaf zkt "ValueError.__new__" = true)(qfK:findIn K (.ref qaf) "__getattribute__" = some (some (.builtin "BaseException.__getattribute__")))(qfL:findIn K (.ref qaf) "__getattr__" = some none)(qfM:findIn K (.ref qaf) "__class__" = some (some (.builtin "object.__class__")))(qfN:mroIn K qaf (.type "object")=some true)(qfO:mroIn K qaf (.type "BaseException")=some true)(qfP:(PySem.W.clsIn K qaf).isSome=true)(qfQ:mroIn K qaf (.ref qaa)=some true)(qfR:kitOne K (.ref qaf) (.type "ValueError")=some true)(qbg:kitOne K (.ref qaf) (.ref qaa)=some true)(qc6:kitOne K (.ref qaf) (.ref qai)=some false)(qdz:kitOne K (.ref qaf) (.ref qal)=some false)(qch:kitOne K (.ref qaf) (.ref qag)=some false)(qdA:kitOne K (.ref qaf) (.ref qaf)=some true)(qci:kitOne K (.ref qaf) (.ref qab)=some false)(qc7:kitOne K (.ref qaf) (.ref qad)=some false)(qc8:kitOne K (.ref qaf) (.ref qac)=some false)(qdB:kitOne K (.ref qaf) (.ref qae)=some false)(qcj:kitOne K (.ref qaf) (.ref qah)=some false)(qdC:kitOne K (.ref qaf) (.ref qam)=some false)(qc9:kitOne K (.ref qaf) (.ref qaj)=some false)(qdD:kitOne K (.ref qaf) (.ref qan)=some false)(qfS:PySem.W.excIn K qad zkt "ValueError.__new__" = true)(qeZ:findIn K (.ref qad) "__getattribute__" = some (some (.builtin "BaseException.__getattribute__")))(qe0:findIn K (.ref qad) "__getattr__" = some none)(qe1:findIn K (.ref qad) "__class__" = some (some (.builtin "object.__class__")))(qe2:mroIn K qad (.type "object")=some true)(qe3:mroIn K qad (.type "BaseException")=some true)(qe4:(PySem.W.clsIn K qad).isSome=true)(qe5:mroIn K qad (.ref qaa)=some true)(qe6:kitOne K (.ref qad) (.type "ValueError")=some true)(qbd:kitOne K (.ref qad) (.ref qaa)=some true)(qck:kitOne K (.ref qad) (.ref qai)=some false)(qda:kitOne K (.ref qad) (.ref qal)=some false)(qbO:kitOne K (.ref qad) (.ref qag)=some false)(qdb:kitOne K (.ref qad) (.ref qaf)=some false)(qbP:kitOne K (.ref qad) (.ref qab)=some false)(qcl:kitOne K (.ref qad) (.ref qad)=some true)(qcm:kitOne K (.ref qad) (.ref qac)=some false)(qdc:kitOne K (.ref qad) (.ref qae)=some false)(qbQ:kitOne K (.ref qad) (.ref qah)=some false)(qdd:kitOne K (.ref qad) (.ref qam)=some false)(qcn:kitOne K (.ref qad) (.ref qaj)=some false)(qde:kitOne K (.ref qad) (.ref qan)=some false)(qe7:PySem.W.excIn K qab zkt "ValueError.__new__" = true)(qez:findIn K (.ref qab) "__getattribute__" = some (some (.builtin "BaseException.__getattribute__")))(qeA:findIn K (.ref qab) "__getattr__" = some none)(qeB:findIn K (.ref qab) "__class__" = some (some (.builtin "object.__class__")))(qeC:mroIn K qab (.type "object")=some true)(qeD:mroIn K qab (.type "BaseException")=some true)(qeE:(PySem.W.clsIn K qab).isSome=true)(qeF:mroIn K qab (.ref qaa)=some true)(qeG:kitOne K (.ref qab) (.type "ValueError")=some true)(qa5:kitOne K (.ref qab) (.ref qaa)=some true)(qbR:kitOne K (.ref qab) (.ref qai)=some false)(qco:kitOne K (.ref qab) (.ref qal)=some false)(qbv:kitOne K (.ref qab) (.ref qag)=some false)(qcp:kitOne K (.ref qab) (.ref qaf)=some false)(qbw:kitOne K (.ref qab) (.ref qab)=some true)(qbS:kitOne K (.ref qab) (.ref qad)=some false)(qbT:kitOne K (.ref qab) (.ref qac)=some false)(qcq:kitOne K (.ref qab) (.ref qae)=some false)(qbx:kitOne K (.ref qab) (.ref qah)=some false)(qcr:kitOne K (.ref qab) (.ref qam)=some false)(qbU:kitOne K (.ref qab) (.ref qaj)=some false)(qcs:kitOne K (.ref qab) (.ref qan)=some false)(ug1:PySem.W.specialIn K (.builtin "object.__class__") "__get__" = some (some (.builtin "getset_descriptor.__get__")))(ug2:PySem.W.takesIn K (.builtin "object.__class__")=some true)(ub1:(PySem.W.clsIn K qaa).isSome=true)(ub2:PySem.W.typeIn K (.ref qaa)=some (.type "type"))(ub3:mroIn K qaa (.type "BaseException")=some true)(qeg:nsIn K mainGlobals "ValueError" = some none)(qg0:nsIn K mainGlobals "abs" = some none)(qgP:nsIn K mainGlobals "bool" = some none)(qeH:nsIn K mainGlobals "enumerate" = some none)(qg1:nsIn K mainGlobals "int" = some none)(qeh:nsIn K mainGlobals "isinstance" = some none)(qg2:nsIn K mainGlobals "len" = some none)(qgQ:nsIn K mainGlobals "list" = some none)(qg3:nsIn K mainGlobals "max" = some none)(qg4:nsIn K mainGlobals "min" = some none)(qgJ:nsIn K mainGlobals "range" = some none)(qe8:nsIn K mainGlobals "reversed" = some none)(qg5:nsIn K mainGlobals "set" = some none)(qgm:nsIn K mainGlobals "sorted" = some none)(qg6:nsIn K mainGlobals "sum" = some none)(qgK:nsIn K mainGlobals "tuple" = some none)(qg7:nsIn K mainGlobals "zip" = some none)(qdE:nsIn K mainGlobals "KNOT_NUMBERS" = some (some (.int 64 t_KNOT_NUMBERS)))(qgL:nsIn K mainGlobals "TURNS" = some (some (.int 5 t_TURNS)))(qei:nsIn K mainGlobals "MOST_KNOTS" = some (some (.int 40 t_MOST_KNOTS)))(qeI:nsIn K mainGlobals "MOST_KEYS" = some (some (.int 300 t_MOST_KEYS))) :
  ∃ fd:FuncData,(∀(s:Shared) (v:Value),BindsTo s fd ⟨[v],[]⟩ [("_law_script",v)])∧∀ base:Heap,K.In base→base.Ns mainGlobals mg→L2.BMAt mg base→FnOk l.prog w K mg base CX0 lawRoom fa fd ["_law_script"] (zh4 K mp6):=by
 obtain ⟨f,oc,od,kV,dc,pm,an,cd,ct,sl,a,l,c,k⟩:=a41.ex;have e:=hfa.symm.trans (mg_of X G a);cases e
 have T:Txt K mg:=⟨mg_none_of X G qeg,mg_none_of X G qg0,mg_none_of X G qgP,mg_none_of X G qeH,mg_none_of X G qg1,mg_none_of X G qeh,mg_none_of X G qg2,mg_none_of X G qgQ,mg_none_of X G qg3,mg_none_of X G qg4,mg_none_of X G qgJ,mg_none_of X G qe8,mg_none_of X G qg5,mg_none_of X G qgm,mg_none_of X G qg6,mg_none_of X G qgK,mg_none_of X G qg7,⟨_,mg_of X G qdE⟩,⟨_,mg_of X G qgL⟩,⟨_,mg_of X G qei⟩,⟨_,mg_of X G qeI⟩⟩;have CL:Cls K mg qaa qai qal qag qaf qab qad qac qae qah qam qaj qan:=⟨mg_of X G qd6,mg_of X G qgi,mg_of X G qgG,mg_of X G qfx,mg_of X G qfy,mg_of X G qef,mg_of X G qeL,mg_of X G qeM,mg_of X G qfz,mg_of X G qfA,mg_of X G qgH,mg_of X G qgj,mg_of X G qgI,⟨mg_of X G qeM,qfB⟩,⟨qeR,qeS,qeT,ug1,ug2,qeU,qeV,qeW⟩,⟨qeX,ub1,ub2,ub3⟩,qeY,qbc,qca,qcX,qbL,qcY,qbM,qcb,qcc,qcZ,qbN,qc0,qcd,qc1,⟨mg_of X G qfz,qgk⟩,⟨qfC,qfD,qfE,ug1,ug2,qfF,qfG,qfH⟩,⟨qfI,ub1,ub2,ub3⟩,qfJ,qbf,qc2,qdu,qce,qdv,qcf,qc3,qc4,qdw,qcg,qdx,qc5,qdy,⟨mg_of X G qfy,qgl⟩,⟨qfK,qfL,qfM,ug1,ug2,qfN,qfO,qfP⟩,⟨qfQ,ub1,ub2,ub3⟩,qfR,qbg,qc6,qdz,qch,qdA,qci,qc7,qc8,qdB,qcj,qdC,qc9,qdD,⟨mg_of X G qeL,qfS⟩,⟨qeZ,qe0,qe1,ug1,ug2,qe2,qe3,qe4⟩,⟨qe5,ub1,ub2,ub3⟩,qe6,qbd,qck,qda,qbO,qdb,qbP,qcl,qcm,qdc,qbQ,qdd,qcn,qde,⟨mg_of X G qef,qe7⟩,⟨qez,qeA,qeB,ug1,ug2,qeC,qeD,qeE⟩,⟨qeF,ub1,ub2,ub3⟩,qeG,qa5,qbR,qco,qbv,qcp,qbw,qbS,qbT,qcq,qbx,qcr,qbU,qcs⟩;have O:OwnC K mg CS:=⟨⟨o_g,o_h,o_p,o_s⟩,mg_of X G o_C,qgF,qgh⟩;exact ⟨_,fun s v=>.of_eq rfl,fun base _ _ hBM=>(all_ok (P:=_) (w:=w) (base:=base) T CL O hBM (a1.df X G) (a2.df X G) (a3.df X G) (a4.df X G) (a5.df X G) (a6.dft X G t6 h6) (a7.df X G) (a8.df X G) (a9.df X G) (a10.df X G) (a11.df X G) (a12.df X G) (a13.df X G) (a14.df X G) (a15.df X G) (a16.df X G) (a17.df X G) (a18.df X G) (a19.df X G) (a20.df X G) (a21.df X G) (a22.df X G) (a23.df X G) (a24.df X G) (a25.df X G) (a26.df X G) (a27.df X G) (a28.df X G) (a29.df X G) (a30.df X G) (a31.df X G) (a32.df X G) (a33.df X G) (a34.df X G) (a35.df X G) (a36.df X G) (a37.df X G) (a38.df X G) (a39.df X G) (a40.df X G) (a41.df X G) (qb8.di o_m o_k) (qcW.dm) (qb9.dm) (qex.dm) (qey.dm) (qed.dm) (qd5.dm) (qee.dm)).at (mg_of X G a) l⟩
theorem walk {l:OpenLaw}{q:Program}{loose:List Str}{XP:(Str→Option Value)→Heap→Prop}{YP:World→Heap→Prop}{d:DefRec}{K:Params→Frag}{mc mp:Addr}(hn:l.most=some 63)(hdf:d.params.defaults=[])
  (hY:∀(w:World) (h:Heap),YP w h→(K w.params).In h) (hYT:∀(w:World) (h:Heap),YP w h→h.get? mp=some (PySem.W.tabObj #[])) (hC:∀(w:World),codeHdIn (K w.params) mc mp=true) (hC2:∀(w:World),(K w.params).lookup mp=none)
  (F:∀(w:World) (mg:Str→Option Value) (fa:Addr) (h:Heap),(K w.params).In h→h.Ns mainGlobals mg→mg d.name=some (.ref fa)→
   ∃ fd:FuncData,(∀(s:Shared) (u:Value),BindsTo s fd ⟨[u],[]⟩ [("_law_script",u)])∧∀ base:Heap,(K w.params).In base→base.Ns mainGlobals mg→L2.BMAt mg base→FnOk l.prog w (K w.params) mg base CX0 lawRoom fa fd ["_law_script"] (zh4 (K w.params) mp)) :
  PySem.W.WalkO q loose XP YP l.row.toRowW d [] (fun f vs=>PySem.call f vs):=
 L2.zno (n:=63) (k:=lawRoom) (x := "_law_script") (tabs:=[(mc,mp)]) (sp:=fun w=>zh4 (K w.params) mp) hn (by decide) hdf ⟨rfl,by decide,by decide,rfl⟩ hY (fun w h Y q hq=>by rw[yal.mp hq];exact hYT w h Y) (fun w q hq=>by rw[yal.mp hq];exact ⟨hC w,hC2 w⟩) F (fun _ _ a ns hl hT hS=>⟨a,ns,rfl,hS,hl,hT (mc,mp) (yal.mpr rfl),fun _=>rfl⟩)
end My
open PySem PySem.W PyProof.Rows
namespace PySem.W.Fast
def tw14095035790931963984:=0
def tw13971862609696707776:=0
def tw10475104162772858883:=0
def tw12461530644967501555:=0
def tw9473797358937940878:=0
def tw9200221330069295941:=0
def tw15159808980101465074:=0
def tw15083511518835858747:=0
def tw3101476126240911524:=0
def tw589928530024510485:=0
def tw12377940223764178393:=0
def tw17289159779415167813:=0
def tw8042841107126966016:=0
def tw8665829393384765732:=0
def tw10648990133824302100:=0
def tw8278540096202256633:=0
def tw15916637311312652812:=0
def tw990288997201347091:=0
def tw14830557946299498973:=0
def tw17905715702403253190:=0
def tw12639195660492305877:=0
def tw13054677645353580887:=0
def tw18246326410009560569:=0
def tw6962333445579629855:=0
def tw4243492675003459447:=0
def tw15630822908582754604:=0
def tw14890591383668668423:=0
def tw17119681475093482929:=0
def tw9248962029902674709:=0
def tw4974293072034930217:=0
def tw11233522068851561046:=0
def tw7871355519787762912:=0
def tw8283984119348641232:=0
def tw6470293974471075094:=0
def tw6360573972361917665:=0
def tw15697835736133360869:=0
def tw15013216165756666994:=0
def tw11693865847139712242:=0
def tw6186203891193256316:=0
def tw4846407951143492634:=0
def tw9852989052193954409:=0
def tw6047765588896879194:=0
def tw5722426462828984842:=0
def tw1822505074529856954:=0
def tw4644547718519553533:=0
def tw2976782057663649240:=0
def tw10482370747637076541:=0
def tw17618527322347446541:=0
def tw11357872718916827642:=0
def tw9869364281735676679:=0
def tw8206526865322217640:=0
def tw12167173183312112215:=0
def tw12111721016424164638:=0
def tw3598398754852866414:=0
def tw12295671265219524141:=0
def tw7984870476791898686:=0
def tw17428291070149388351:=0
def tw16650817720023662136:=0
def tw1129621744399484589:=0
def tw14067590634694767654:=0
def tw7715965122495344228:=0
def tw6523555770327615959:=0
def tw3150471519883856176:=0
def tw13143298433768784221:=0
def tw12834577337241887832:=0
def tw15534470370269585406:=0
def tw13343916796185525904:=0
def tw12655939654157240639:=0
def tw9070107656719848118:=0
def tw120864565488629177:=0
def tw7327741257917372290:=0
def tw6384033778044362492:=0
def tw17341609658965191337:=0
def tw10015831971389500204:=0
def tw6421971622451353705:=0
def tw9645069586586595336:=0
def tw218824156955478734:=0
def tw2061522438299400327:=0
def tw10385770737016118454:=0
def tw1408503892446587219:=0
def tw7616794646732018315:=0
def tw12234952472842078209:=0
def tw2600318645476993879:=0
def tw14390840558145568873:=0
def tw6040244761091451195:=0
def tw7065900765077917606:=0
def tw4303044949158936875:=0
def tw11011037822692918357:=0
def tw890993897906287248:=0
def tw17763245032869779529:=0
def tw16010301406713983316:=0
def tw8220441615981621123:=0
def tw16307745497972428786:=0
def tw1103900682287114285:=0
def tw10154467517155712258:=0
def tw1308660449627175848:=0
def tw15688202523536473429:=0
def tw6673726236928513172:=0
def tw11683754684918082774:=0
def tw15101142522197500480:=0
def tw13535071627143232684:=0
def tw5104242503477196616:=0
def tw3988630695047810041:=0
def tw2271306315382063589:=0
def tw4171820520569305316:=0
def tw13332000540139768192:=0
def tw3852161216351095328:=0
def tw4528618134069030389:=0
def tw883783156444501493:=0
def tw10094901570904298791:=0
def tw7949376736274371892:=0
def tw16188159112400313920:=0
def tw3352573443971805975:=0
def tw2498012036843081891:=0
def tw4548973646175894227:=0
def tw3939949092041420939:=0
def tw337381540487907731:=0
def tw13397450026199818927:=0
def tw11419176060248591804:=0
def tw22014010504899244:=0
def tw1660180370335736496:=0
def tw2139861585734302805:=0
def tw1532236428657868369:=0
def tw2664895030573796835:=0
def tw18025113156949221562:=0
def tw8089501898909885194:=0
def tw1052985049341330980:=0
def tw5032347069781705498:=0
def tw16898677432400102617:=0
def tw2071616802959357463:=0
def tw9787888599292621850:=0
def tw2133005365516184840:=0
def tw16148997504722590148:=0
def tw9762809803796979425:=0
def tw2070431975904049667:=0
def tw8776555450941785268:=0
def tw17676144844588783588:=0
def tw749709846785500416:=0
def tw8631898103685929298:=0
def tw6126310372340764484:=0
def tw4365221239846514293:=0
def tw5532972375962024106:=0
def tw10694954554025502914:=0
def tw12861394839603659831:=0
def tw2770557322644327944:=0
def tw2486769554988041920:=0
def tw11109957898299280297:=0
def tw7778932324320658002:=0
def tw8495117709962017703:=0
def tw17411336265957912681:=0
def tw10979198751914362789:=0
def tw2555003173946014611:=0
def tw8928434500789058589:=0
def tw7487258173651633077:=0
def tw5459208740466360976:=0
def tw4341742708899281062:=0
def tw15464708463869356540:=0
def tw14286740981337213792:=0
def tw11380961831107076211:=0
def tw14982561093715146489:=0
def tw8293801708041596741:=0
def tw1095242656214504069:=0
def tw5820414476113901749:=0
def tw2605030577147304693:=0
def tw7416752847625801530:=0
def tw12925700952885419099:=0
def tw11752907088483040571:=0
def tw8593417284842458091:=0
def tw7571183898248291963:=0
def tw6979278765053556328:=0
def tw5724198180875907515:=0
def tw4539080706477340041:=0
def tw2215437747538524429:=0
def tw18168778954105698163:=0
def tw15356649388479970409:=0
def tw12667523362109643965:=0
def tw16823126283113587174:=0
def tw12845510991374234705:=0
def tw6564307663459672388:=0
def tw4437192103323661518:=0
def tw2622676637721520908:=0
def tw7687113044357154317:=0
def tw6308964556089105382:=0
def tw8915954137391472936:=0
def tw1231431878021694615:=0
def tw882744382316066763:=0
def tw6794387348252548629:=0
def tw10180086721284342354:=0
def tw6860066845232396532:=0
def tw14745583294340636948:=0
def tw1042438778474903007:=0
def tw10819655297726645122:=0
def tw17688293779875362223:=0
def tw4424758894714515310:=0
def tw5433067846253550027:=0
def tw17768164309639586034:=0
def tw17714892949264736628:=0
def tw15361114332031615068:=0
def tw6253223768672858638:=0
def tw948078503878594949:=0
def tw15657992978249316479:=0
def tw2875922073224841270:=0
def tw6108945708730072579:=0
def tw7112023300616817805:=0
def tw3884805565106003817:=0
def tw12634747661399490622:=0
def tw2239239592066993884:=0
def tw809726891553604899:=0
def tw15473556701430857235:=0
def tw14304373347498008736:=0
def tw11424441354143060181:=0
def tw2554140253680448528:=0
def tw15681205148295591584:=0
def tw12104670099735542682:=0
def tw9459438723525396849:=0
def tw16928031798930959194:=0
def tw13664355503874194405:=0
def tw11092902517814163808:=0
def tw10800988235909979541:=0
def tw4312809427505306788:=0
def tw9127072016385778867:=0
def tw1247373427216771551:=0
def tw1621877006998210180:=0
def tw10493795847136273886:=0
def tw12806721866665748941:=0
def tw5794275796290937675:=0
def tw55330896767543540:=0
def tw13413461214468315073:=0
def tw9569329068445049713:=0
def tw8609837761183475700:=0
def tw10445696366511486293:=0
def tw4287843114355534285:=0
def tw10743661038049808826:=0
def tw4698723056607932238:=0
def tw13043389980366602793:=0
def tw12076452647898841750:=0
def tw10123855027426058565:=0
def tw1974554334366207115:=0
def tw18080631596824687519:=0
def tw13318498899265951054:=0
def tw10924059083767491101:=0
def tw5419993163360263501:=0
def tw14500031295893368122:=0
def tw12875865520909019643:=0
def tw10332539840736487748:=0
def tw8426555499603656760:=0
def tw3902754916115177329:=0
def tw3472153306127699076:=0
def tw18225444696852164618:=0
def tw15934712189373207504:=0
def tw7069395772830169845:=0
def tw16188535409796927442:=0
def tw13019732754246796318:=0
def tw12726458929295924300:=0
def tw440461970753421178:=0
def tw15058262710376059632:=0
def tw14781647308050739365:=0
def tw16000339876124686467:=0
def tw12994813529932930268:=0
def tw12873371708660346242:=0
def tw7543181016906401423:=0
def tw11928955059049242519:=0
def tw629450083659173797:=0
def tw6266994967148362345:=0
def tw7064912613289385928:=0
def tw11417081406902311831:=0
def tw10651910225951932535:=0
def tw4276249874819649232:=0
def tw2147796975575779884:=0
def tw14876148986883177955:=0
def tw17906336879434580466:=0
def tw10736403854751256987:=0
def tw9775368154854263543:=0
def tw17937545016050842248:=0
def tw14855193035718177587:=0
def tw15991684526441651241:=0
def tw6204237857357760594:=0
def tw13762207046237807949:=0
def tw11950112477795755901:=0
def tw620108176824333826:=0
def tw11553469130639765288:=0
def tw3969583981225182112:=0
end PySem.W.Fast
set_option maxRecDepth 100000 in
set_option maxHeartbeats 0 in
theorem PySem.Challenge.cw_bridgefind_k46_shelves_refuse_holds : PySem.Challenge.rw_bridgefind_k46_shelves_refuse.Holds := by
 w_on; o_law; k_head; (case hw=>w_witness2)
 k_fill
 refine My.walk (l:=PySem.Challenge.rw_bridgefind_k46_shelves_refuse) (mc:=214) (mp:=210) rfl rfl (fun w h Y=>PySem.W.km_in_of Y) (fun w h Y=>PySem.W.km_tabs_of Y 210 yaA) (fun w=>by kernel_rfl) (fun w=>by kernel_rfl) ?F
 case F=>
  intro w mg fa h KX G hmg
  refine' My.zsj (mc6:=214) (mp6:=210) KX G hmg ?_ ?_ ?_ ?_ ?_ ?_ ?_ ?_ ?_ ?_ ?_ ?_ ?_ ?_ ?_ ?_ ?_ ?_ ?_ ?_ ?_ ?_ ?_ ?_ ?_ ?_ ?_ ?_ ?_ ?_ ?_ ?_ ?_ ?_ ?_ ?_ ?_ ?_ ?_ ?_ ?_ ?_ ?_ ?_ ?_ ?_ ?_ ?_ ?_ ?_ ?_ ?_ ?_ ?_ ?_ ?_ ?_ ?_ ?_ ?_ ?_ ?_ ?_ ?_ ?_ ?_ ?_ ?_ ?_ ?_ ?_ ?_ ?_ ?_ ?_ ?_ ?_ ?_ ?_ ?_ ?_ ?_ ?_ ?_ ?_ ?_ ?_ ?_ ?_ ?_ ?_ ?_ ?_ ?_ ?_ ?_ ?_ ?_ ?_ ?_ ?_ ?_ ?_ ?_ ?_ ?_ ?_ ?_ ?_ ?_ ?_ ?_ ?_ ?_ ?_ ?_ ?_ ?_ ?_ ?_ ?_ ?_ ?_ ?_ ?_ ?_ ?_ ?_ ?_ ?_ ?_ ?_ ?_ ?_ ?_ ?_ ?_ ?_ ?_ ?_ ?_ ?_ ?_ ?_ ?_ ?_ ?_ ?_ ?_ ?_ ?_ ?_ ?_ ?_ ?_ ?_ ?_ ?_ ?_ ?_ ?_ ?_ ?_ ?_ ?_ ?_ ?_ ?_ ?_ ?_ ?_ ?_ ?_ ?_ ?_ ?_ ?_ ?_ ?_ ?_ ?_ ?_ ?_ ?_ ?_ ?_ ?_ ?_ ?_ ?_ ?_ ?_ ?_ ?_ ?_ ?_ ?_ ?_ ?_ ?_ ?_ ?_ ?_ ?_ ?_ ?_ ?_ ?_ ?_
  any_goals k_is
  all_goals first | refine' My.AD.of ?_ ?_ ?_ ?_ | refine' My.AM.of ?_ ?_ ?_ ?_ ?_ | skip
  any_goals k_is
  all_goals kernel_rfl

