import PyProof.Rows.All
import Wide.All
import OpenK.AllK
import Wide.FinOn
import PyProof.EqAt
import PyProof.EqKinds
import PyProof.TupleCall
import PyProof.NeKinds
import Lean
import PyProof.ReprRoads
import PyProof.CallStr
import PyProof.Rows.SeqMore2
import PyProof.ZipIter
import PyProof.TupleIter
import PyProof.EnumIter
import PySem.Challenge.RW_bridgefind_k35_papers_looked_at
set_option Elab.async false
set_option linter.all false
set_option maxRecDepth 100000
local macro_rules | `(tactic| omega)=>`(tactic| lia)
open PySem.W (Frag nsIn codeIn keepIn mg_of mg_none_of fnOf OpenLaw kitOne mroIn findIn)
abbrev yaa:=@Nat.le_refl
abbrev yab:=@List.length_map
abbrev yac:=@List.getElem?_eq_getElem
abbrev yad:=@List.getD_eq_getElem?_getD
abbrev yae:=@Option.some.inj
abbrev yaf:=@List.getElem?_eq_some_iff
abbrev yag:=@PySem.Heap.lt_size
abbrev yah:=@decide_eq_true
abbrev yai:=@List.map_append
abbrev yaj:=@List.length_take
abbrev yak:=@List.length_append
abbrev yal:=@List.getElem?_map
abbrev yam:=@List.mem_singleton
abbrev yan:=@PySem.Heap.get?_push_of_some
abbrev yao:=@List.mem_append
abbrev yap:=@List.take_of_length_le
abbrev yaq:=@decide_eq_false
abbrev yar:=@Nat.le_trans
abbrev yas:=@Nat.ne_of_lt
abbrev yat:=@List.mem_cons
abbrev yau:=@Array.length_toList
abbrev yav:=@List.size_toArray
abbrev yaw:=@Nat.lt_of_lt_of_le
abbrev yax:=@List.map_cons
abbrev yay:=@List.getElem_mem
abbrev yaz:=@List.mem_append_right
abbrev yaA:=@Bool.false_ne_true
abbrev yaB:=@List.take_succ_eq_append_getElem
abbrev yaC:=@List.mem_cons_self
abbrev yaD:=@List.mem_cons_of_mem
abbrev yaE:=@of_decide_eq_true
abbrev yaF:=@Nat.zero_le
abbrev yaG:=@List.append_nil
abbrev yaH:=@List.mem_map
abbrev yaI:=@List.length_cons
abbrev yaJ:=@List.lookup_cons
abbrev yaK:=@PySem.Heap.get?_push_size
abbrev yaL:=@List.length_singleton
abbrev yaM:=@List.pairwise_append
abbrev yaN:=@List.all_eq_true
abbrev yaO:=@List.mem_of_getElem?
abbrev yaP:=@List.length_drop
abbrev yaQ:=@List.pairwise_iff_getElem
abbrev yaR:=@Array.toList_append
abbrev yaS:=@List.sum_cons
abbrev yaT:=@Bool.false_eq_true
abbrev yaU:=@List.getElem?_eq_none
abbrev yaV:=@List.drop_eq_nil_of_le
abbrev yaW:=@List.getElem_of_mem
abbrev yaX:=@List.length_range
abbrev yaY:=@Nat.lt_irrefl
abbrev yaZ:=@List.mem_append_left
abbrev ya0:=@List.nodup_cons
abbrev ya1:=@Bool.and_eq_true
abbrev ya2:=@List.take_append_drop
abbrev ya3:=@List.append_assoc
abbrev ya4:=@Nat.le_succ
abbrev ya5:=@List.filter_cons_of_pos
abbrev ya6:=@List.filter_append
abbrev ya7:=@List.getElem?_append_right
abbrev ya8:=@List.length_replicate
abbrev ya9:=@Int.toNat_natCast
abbrev yba:=@Nat.lt_of_le_of_lt
abbrev ybb:=@Array.getElem?_eq_getElem
abbrev ybc:=@Array.getElem?_toList
abbrev ybd:=@List.mem_filter
abbrev ybe:=@List.mem_range
abbrev ybf:=@List.map_map
abbrev ybg:=@Int.zero_add
abbrev ybh:=@Option.map_eq_some_iff
abbrev ybi:=@List.ext_getElem?
abbrev ybj:=@List.filter_cons_of_neg
abbrev ybk:=@List.length_filter_le
abbrev ybl:=@Bool.eq_iff_iff
abbrev ybm:=@List.getElem?_append_left
abbrev ybn:=@List.any_cons
abbrev ybo:=@List.nodup_nil
abbrev ybp:=@Bool.not_eq_true'
abbrev ybq:=@Nat.add_zero
abbrev ybr:=@Nat.min_eq_left
abbrev ybs:=@List.not_mem_nil
abbrev ybt:=@List.getElem?_range
abbrev ybu:=@List.range_succ
abbrev ybv:=@List.nodup_append
abbrev ybw:=@Nat.le_of_lt
abbrev ybx:=@Int.natCast_nonneg
abbrev yby:=@PySem.Heap.get?_update_other
abbrev ybz:=@List.mem_of_mem_take
abbrev ybA:=@List.find?_cons
abbrev ybB:=@List.length_nil
abbrev ybC:=@Nat.le_of_not_lt
abbrev ybD:=@List.nil_append
abbrev ybE:=@List.mem_of_mem_drop
abbrev ybF:=@List.take_zero
abbrev ybG:=@Nat.zero_add
abbrev ybH:=@List.getElem?_take
abbrev ybI:=@Nat.add_le_add_right
abbrev ybJ:=@List.eq_nil_of_length_eq_zero
abbrev ybK:=@List.map_take
abbrev ybL:=@Nat.testBit_succ
abbrev ybM:=@Nat.pow_succ
abbrev ybN:=@Nat.add_sub_cancel
abbrev ybO:=@Bool.eq_false_iff
abbrev ybP:=@List.flatten_append
abbrev ybQ:=@Nat.ne_of_gt
abbrev ybR:=@List.map_nil
abbrev ybS:=@List.drop_eq_getElem_cons
abbrev ybT:=@Array.toList_push
abbrev ybU:=@Array.toList_reverse
abbrev ybV:=@List.getElem?_drop
abbrev ybW:=@Bool.not_true
abbrev ybX:=@List.pairwise_map
abbrev ybY:=@Bool.or_eq_true
abbrev ybZ:=@PySem.Heap.size_push
abbrev yb0:=@List.getElem?_set
abbrev yb1:=@Nat.sub_self
abbrev yb2:=@List.map_set
abbrev yb3:=@List.length_reverse
abbrev yb4:=@List.all_cons
abbrev yb5:=@List.drop_drop
abbrev yb6:=@List.perm_append_comm
abbrev yb7:=@Array.toList_extract
abbrev yb8:=@List.extract_eq_take_drop
abbrev yb9:=@List.drop_take
abbrev yca:=@List.reverse_append
abbrev ycb:=@List.drop_zero
abbrev ycc:=@List.getElem?_cons_succ
abbrev ycd:=@Int.emod_nonneg
abbrev yce:=@Int.emod_lt_of_pos
abbrev ycf:=@Option.map_some
abbrev ycg:=@Nat.lt_succ_self
abbrev ych:=@Nat.not_lt_zero
abbrev yci:=@List.length_zip
abbrev ycj:=@List.pairwise_lt_range
abbrev yck:=@Nat.lt_of_not_le
abbrev ycl:=@of_decide_eq_false
abbrev ycm:=@List.mem_flatten
abbrev ycn:=@Nat.min_eq_right
abbrev yco:=@List.any_append
abbrev ycp:=@List.mem_reverse
abbrev ycq:=@List.filter_filter
abbrev ycr:=@List.length_pos_iff
abbrev ycs:=@List.filterMap_cons
abbrev yct:=@Option.isSome_iff_exists
abbrev ycu:=@List.getElem?_replicate
abbrev ycv:=@Nat.add_le_add_left
abbrev ycw:=@Array.perm_iff_toList_perm
abbrev ycx:=@Bool.not_eq_false'
abbrev ycy:=@List.reverse_reverse
abbrev ycz:=@List.getElem?_reverse
abbrev ycA:=@List.mem_take_iff_getElem
abbrev ycB:=@List.filter_eq_nil_iff
abbrev ycC:=@List.map_congr_left
abbrev ycD:=@List.replicate_succ'
abbrev ycE:=@List.mem_or_eq_of_mem_set
abbrev ycF:=@List.map_inj_right
namespace L2
open PySem PySem.Spec PyProof.Rows
abbrev Key:=Sum Int Str
def zi8:Key→Value→Bool
  | .inl k,v=>Value.isInt k v
  | .inr x,v=>Value.isStrOf x v
def keyH (w:World):Key→Int
  | .inl k=>hashInt k
  | .inr x=>hashStr w x
theorem za0:∀{k:Key} {v:Value},zi8 k v=true→(∃ i t,k=Sum.inl i∧v=Value.int i t)∨(∃ x t,k=Sum.inr x∧v=Value.str x t)
  | .inl i,v,h=>by
    obtain ⟨t,e⟩:=Value.isInt_shape (k:=i) (v:=v) h;exact .inl ⟨i,t,rfl,e⟩
  | .inr x,v,h=>by
    obtain ⟨t,e⟩:=Value.isStrOf_shape (x:=x) (v:=v) h;exact .inr ⟨x,t,rfl,e⟩
theorem zmC (i:Int)(t:Tok):zi8 (.inl i) (.int i t)=true:=by simp[zi8,Value.isInt]
theorem zmB (x:Str)(t:Tok):zi8 (.inr x) (.str x t)=true:=by simp[zi8,Value.isStrOf]
theorem zq8 (a b:Int):decide ((Sum.inl a:Key)=Sum.inl b)=(a == b):=by
  by_cases e:a=b
  · subst e;simp
  · have h:¬ (Sum.inl a:Key)=Sum.inl b:=fun q=>e (Sum.inl.inj q)
    rw[yaq h];exact (beq_eq_false_iff_ne.mpr e).symm
theorem zq5 (a b:Str):decide ((Sum.inr a:Key)=Sum.inr b)=decide (a=b):=by
  by_cases e:a=b
  · subst e;simp
  · have h:¬ (Sum.inr a:Key)=Sum.inr b:=fun q=>e (Sum.inr.inj q)
    rw[yaq h,yaq e]
theorem zq7 (a:Int)(b:Str):decide ((Sum.inl a:Key)=Sum.inr b)=false:=yaq (fun q=>nomatch q)
theorem zq6 (a:Str)(b:Int):decide ((Sum.inr a:Key)=Sum.inl b)=false:=yaq (fun q=>nomatch q)
def zaM (prog:Program)(w:World):PySem.KeyKind prog w Key where
  is:=zi8
  hash:=keyH w
  inj:=fun v a b ha hb=>by
    rcases za0 ha with ⟨i,t,rfl,rfl⟩ | ⟨x,t,rfl,rfl⟩
    · rcases za0 hb with ⟨j,u,rfl,e⟩ | ⟨y,u,rfl,e⟩
      · injection e with e1 _;rw[e1]
      · exact nomatch e
    · rcases za0 hb with ⟨j,u,rfl,e⟩ | ⟨y,u,rfl,e⟩
      · exact nomatch e
      · injection e with e1 _;rw[e1]
  byValue:=fun k v h=>by
    rcases za0 h with ⟨i,t,rfl,rfl⟩ | ⟨x,t,rfl,rfl⟩ <;> rfl
  pyHash:=fun hv h=>by
    rcases za0 hv with ⟨i,t,rfl,rfl⟩ | ⟨x,t,rfl,rfl⟩
    · exact wpAny_pyHash_int h
    · exact wpAny_pyHash_str h
  eqBool:=fun hu hv h=>by
    rcases za0 hu with ⟨i,t,rfl,rfl⟩ | ⟨x,t,rfl,rfl⟩
    · rcases za0 hv with ⟨j,u,rfl,rfl⟩ | ⟨y,u,rfl,rfl⟩
      · rw[zq8]at h;exact wpAny_eqBool_int h
      · rw[zq7]at h;exact SeqAt.EqAt.int_str i t y u _ _ _ _ h
    · rcases za0 hv with ⟨j,u,rfl,rfl⟩ | ⟨y,u,rfl,rfl⟩
      · rw[zq6]at h;exact SeqAt.EqAt.str_int x t j u _ _ _ _ h
      · rw[zq5]at h;exact wpAny_eqBool_str h
  «strs»:=fun k x t v h=>by
    rcases za0 h with ⟨i,u,rfl,e⟩ | ⟨y,u,rfl,e⟩
    · exact nomatch e
    · injection e with e1 _
      subst e1;cases v <;> rfl
theorem zk2 (prog:Program)(w:World)(k:Key)(v:Value):(zaM prog w).is k v=zi8 k v:=rfl
theorem zi3 (prog:Program)(w:World)(i:Int)(t:Tok):(zaM prog w).is (.inl i) (.int i t)=true:=zmC i t
theorem zi2 (prog:Program)(w:World)(x:Str)(t:Tok):(zaM prog w).is (.inr x) (.str x t)=true:=zmB x t
end L2
namespace L2
open PySem PySem.Spec PyProof.Rows
inductive V where
  | non | bl (b:Bool) | int (i:Int) | str (x:Str) | byt (b:Array UInt8) | flt (b:UInt64) | ref (a:Addr) | ty (n:String)
  deriving DecidableEq
def RelV:V→Value→Prop
  | .non,u=>u=Value.none
  | .bl b,u=>u=Value.bool b
  | .int i,u=>∃ t,u=Value.int i t
  | .str x,u=>∃ t,u=Value.str x t
  | .byt b,u=>∃ t,u=Value.bytes b t
  | .flt b,u=>∃ t,u=Value.float b t
  | .ref a,u=>u=Value.ref a
  | .ty n,u=>u=Value.type n
abbrev Vals:List V→List Value→Prop:=Paired RelV
theorem Vals.length {xs:List V}{us:List Value}(r:Vals xs us):xs.length=us.length:=Paired.length r
theorem Vals.get:∀{xs:List V} {us:List Value} {i:Nat} {x:V},Vals xs us→xs[i]?=some x→∃ u,us[i]?=some u∧RelV x u
  | _,_,_,_,.nil,e=>by simp at e
  | _,_,0,_,.cons r _,e=>by simp at e;subst e;exact ⟨_,rfl,r⟩
  | _,_,i+1,x,.cons _ t,e=>by
    obtain ⟨u,h1,h2⟩:=Vals.get (i:=i) (x:=x) t (by simpa using e);exact ⟨u,by simpa using h1,h2⟩
theorem Vals.set {x:V}{u:Value}(r:RelV x u):∀{xs:List V} {us:List Value} (i:Nat),Vals xs us→Vals (xs.set i x) (us.set i u)
  | _,_,_,.nil=>.nil
  | _,_,0,.cons _ t=>.cons r t
  | _,_,i+1,.cons q t=>.cons q (Vals.set r i t)
theorem Vals.append:∀{xs ys:List V} {us ws:List Value},Vals xs us→Vals ys ws→Vals (xs++ys) (us++ws)
  | _,_,_,_,.nil,s=>s
  | _,_,_,_,.cons r t,s=>.cons r (Vals.append t s)
theorem Vals.take:∀{xs:List V} {us:List Value} (n:Nat),Vals xs us→Vals (xs.take n) (us.take n)
  | _,_,0,_=>.nil
  | _,_,_+1,.nil=>.nil
  | _,_,n+1,.cons r t=>.cons r (Vals.take n t)
theorem Vals.drop:∀{xs:List V} {us:List Value} (n:Nat),Vals xs us→Vals (xs.drop n) (us.drop n)
  | _,_,0,r=>r
  | _,_,_+1,.nil=>.nil
  | _,_,n+1,.cons _ t=>Vals.drop n t
def RelO:Option V→Option Value→Prop
  | some v,some u=>RelV v u
  | none,none=>True
  | _,_=>False
def KV {κ:Type}:List (κ×V)→List (κ×Value)→Prop:=Paired fun (p:κ×V) (q:κ×Value)=>p.1=q.1∧RelV p.2 q.2
def kV:Key→V
  | .inl i=>.int i
  | .inr x=>.str x
inductive HO where
  | lst (xs:List V)
  | tup (xs:List V)
  | dK (kvs:List (Key×V)) | dT (kvs:List (List Key×V))
  | set (S:Int→Bool) (n:Nat)
  | ins (C dx:Addr) (fs:List (Str×V))
  | own (x:Addr)
  | xd (fs:List (Str×V))
  | met (f x:Addr)
  | rng (lo hi:Int)
  | frz (o:Obj) (u:HO)
  | tbl (ps:Array Value)
  | ext (φ:Heap→Prop)
abbrev Hp:=Addr→Option HO
def upd (H:Hp)(a:Addr)(o:HO):Hp:=fun b=>if b=a then some o else H b
theorem zac {H:Hp}{a:Addr}{o:HO}:upd H a o a=some o:=by unfold upd;rw[if_pos rfl]
theorem zai {H:Hp}{a b:Addr}{o:HO}(h:b≠a):upd H a o b=H b:=by unfold upd;rw[if_neg h]
theorem zo3 {H:Hp}{a:Addr}{o u:HO}:upd (upd H a o) a u=upd H a u:=by
  funext b;unfold upd;split <;> rfl
theorem zqO {H:Hp}{a b:Addr}{o u:HO}(h:H a=some o)(h':H b=some u)(d:o≠u):a≠b:=by
  intro e;subst e;rw[h]at h';exact d (yae h')
theorem zab {H:Hp}{a b:Addr}{o:HO}(h:H a=some o)(h':H b=none):a≠b:=by
  intro e;subst e;rw[h]at h';cases h'
section
variable (P:Program)(w:World)
def zbA (H:Hp)(h:Heap)(a:Addr):HO→Prop
  | .lst xs=>xs.length≤sizeLine∧∃(its:List Value) (n:Nat),Vals xs its∧h.get? a=some { cls:=.type "list",data:=.seq its.toArray n }
  | .tup xs=>xs.length≤sizeLine∧∃ its:List Value,Vals xs its∧IsTup h a its.toArray
  | .dK kvs=>kvs.length≤sizeLine∧(a == sysModules)=false∧∃ vs,KV kvs vs∧h.DictOf (zaM P w) a vs
  | .dT kvs=>kvs.length≤sizeLine∧(a == sysModules)=false∧∃ xs:List (List Key×Addr×Value),
      Paired (fun (p:List Key×V) (q:List Key×Addr×Value)=>p.1=q.1∧H q.2.1=some (.tup (p.1.map kV))∧RelV p.2 q.2.2) kvs xs∧
      ∃ o es ep,h.get? a=some o∧o.ExactDict∧o.data=.dict es ep∧es.toList=xs.map (entryOfKey (tupleKind (zaM P w)))∧(xs.map (·.1)).Nodup
  | .set S n=>h.SetOf (intKind P w) a S n
  | .ins C dx fs=>H dx=some (.own a)∧fs.length≤1000∧dx≠a∧h.get? a=some (PySem.W.instObj C dx)∧
      ∃ mA,h.Ns1 dx mA∧(∀ f,RelO (fs.lookup f) (mA f))∧PySem.Within mA (fs.map (·.1))
  | .own _=>∃ o,h.get? a=some o
  | .xd fs=>∃ mA,h.Ns1 a mA∧∀ f,RelO (fs.lookup f) (mA f)
  | .rng lo hi=>∃ t u v,h.get? a=some { cls:=.type "range",data:=.fields #[.int lo t,.int hi u,.int 1 v] }
  | .frz o u=>h.get? a=some o∧zbA H h a u
  | .tbl ps=>h.get? a=some { cls:=.none,data:=.fields ps }
  | .met f x=>h.get? a=some (PySem.W.methodObj (.ref f) (.ref x))
  | .ext φ=>φ h∧(∃ o,h.get? a=some o)∧∀ h1 h2:Heap,φ h1→(∀ o,h1.get? a=some o→h2.get? a=some o)→φ h2
def HOk (H:Hp)(h:Heap):Prop:=∀ a o,H a=some o→zbA P w H h a o
end
section
variable {P:Program}{w:World}{H H':Hp}{h h':Heap}{a:Addr}{o:HO}
theorem zbA.lt (x:zbA P w H h a o):a < h.objs.size:=by
  cases o with
  | lst xs=>obtain ⟨_,_,_,_,e⟩:=x;exact yag e
  | tup xs=>obtain ⟨_,_,_,p⟩:=x;exact p.lt
  | dK kvs=>obtain ⟨_,_,_,_,o,_,_,e,_⟩:=x;exact yag e
  | dT kvs=>obtain ⟨_,_,_,_,o,_,_,e,_⟩:=x;exact yag e
  | set S n=>obtain ⟨o,_,_,_,e,_⟩:=x;exact yag e
  | ins C dx fs=>obtain ⟨_,_,_,e,_⟩:=x;exact yag e
  | own y=>obtain ⟨_,e⟩:=x;exact yag e
  | xd fs=>obtain ⟨_,⟨_,_,_,e,_⟩,_⟩:=x;exact yag e
  | rng lo hi=>obtain ⟨_,_,_,e⟩:=x;exact yag e
  | frz ob u=>obtain ⟨e,_⟩:=x;exact yag e
  | tbl ps=>exact yag (show h.get? a=some _ from x)
  | met f y=>exact yag (show h.get? a=some _ from x)
  | ext φ=>obtain ⟨_,⟨_,e⟩,_⟩:=x;exact yag e
theorem Paired.mapP {α β:Type}{F G:α→β→Prop}:∀{l₁:List α} {l₂:List β},Paired F l₁ l₂→(∀ a b,F a b→G a b)→Paired G l₁ l₂
  | _,_,.nil,_=>.nil
  | _,_,.cons r t,f=>.cons (f _ _ r) (Paired.mapP t f)
theorem zbA.stay (x:zbA P w H h a o)(k:∀ b u,(b=a∨H b=some (.own a))→h.get? b=some u→h'.get? b=some u)
    (ho:∀ b,H b=some (.own a)→H' b=some (.own a)) (ht:∀ b xs,H b=some (.tup xs)→H' b=some (.tup xs)):zbA P w H' h' a o:=by
  induction o with
  | lst xs=>obtain ⟨z,its,n,r,e⟩:=x;exact ⟨z,its,n,r,k _ _ (.inl rfl) e⟩
  | tup xs=>obtain ⟨z,its,r,ob,e,c⟩:=x;exact ⟨z,its,r,ob,k _ _ (.inl rfl) e,c⟩
  | dK kvs=>obtain ⟨z,y,vs,r,ob,es,ep,e,c⟩:=x;exact ⟨z,y,vs,r,ob,es,ep,k _ _ (.inl rfl) e,c⟩
  | dT kvs=>
    obtain ⟨z,y,xs,r,ob,es,ep,e,c⟩:=x;exact ⟨z,y,xs,Paired.mapP r fun p q z=>⟨z.1,ht _ _ z.2.1,z.2.2⟩,ob,es,ep,k _ _ (.inl rfl) e,c⟩
  | set S n=>obtain ⟨ob,es,ep,t,e,c⟩:=x;exact ⟨ob,es,ep,t,k _ _ (.inl rfl) e,c⟩
  | ins C dx fs=>
    obtain ⟨d,z,ne,e,mA,⟨od,es,ep,e2,c⟩,r⟩:=x;exact ⟨ho _ d,z,ne,k _ _ (.inl rfl) e,mA,⟨od,es,ep,k _ _ (.inr d) e2,c⟩,r⟩
  | own y=>obtain ⟨ob,e⟩:=x;exact ⟨ob,k _ _ (.inl rfl) e⟩
  | xd fs=>obtain ⟨mA,⟨od,es,ep,e,c⟩,r⟩:=x;exact ⟨mA,⟨od,es,ep,k _ _ (.inl rfl) e,c⟩,r⟩
  | rng lo hi=>obtain ⟨t,u,v,e⟩:=x;exact ⟨t,u,v,k _ _ (.inl rfl) e⟩
  | frz ob u ih=>obtain ⟨e,q⟩:=x;exact ⟨k _ _ (.inl rfl) e,ih q⟩
  | tbl ps=>
    have e:h.get? a=some { cls:=.none,data:=.fields ps }:=x;show h'.get? a=some { cls:=.none,data:=.fields ps };exact k a _ (.inl rfl) e
  | met f y=>
    have e:h.get? a=some (PySem.W.methodObj (.ref f) (.ref y)):=x;show h'.get? a=some (PySem.W.methodObj (.ref f) (.ref y));exact k a _ (.inl rfl) e
  | ext φ=>obtain ⟨p,⟨o,e⟩,st⟩:=x;exact ⟨st _ _ p fun o q=>k _ _ (.inl rfl) q,⟨o,k _ _ (.inl rfl) e⟩,st⟩
theorem HOk.lt (x:HOk P w H h)(e:H a=some o):a < h.objs.size:=(x a o e).lt
theorem HOk.fresh (x:HOk P w H h)(e:h.objs.size≤a):H a=none:=by
  cases q:H a with
  | none=>rfl
  | some u=>exact absurd (yaw (x.lt q) e) (yaY _)
theorem HOk.kept (x:HOk P w H h)(k:∀ b u,h.get? b=some u→h'.get? b=some u):HOk P w H h':=fun a o e=>
  (x a o e).stay (fun b u _ q=>k b u q) (fun _ q=>q) fun _ _ q=>q
theorem HOk.laid (x:HOk P w H h)(k:∀ b u,h.get? b=some u→h'.get? b=some u)(hp:h.objs.size≤a)(new:zbA P w (upd H a o) h' a o):HOk P w (upd H a o) h':=fun b u e=>by
  have hn:=x.fresh hp;by_cases hb:b=a
  · subst hb;rw[zac]at e;cases e;exact new
  · rw[zai hb]at e
    exact (x b u e).stay (fun c v _ q=>k c v q) (fun c q=>by rw[zai (zab q hn)];exact q) fun c xs q=>by rw[zai (zab q hn)];exact q
end
def Rd (H:Hp)(a:Addr)(u:HO):Prop:=H a=some u∨∃ o,H a=some (.frz o u)
theorem Rd.ok {P:Program}{w:World}{H:Hp}{h:Heap}{a:Addr}{u:HO}(r:Rd H a u)(x:HOk P w H h):zbA P w H h a u:=by
  rcases r with r | ⟨o,r⟩
  · exact x a u r
  · obtain ⟨_,q⟩:=x a _ r
    exact q
def Mut:Option HO→Prop
  | some (.lst _)=>True
  | some (.dK _)=>True
  | some (.dT _)=>True
  | some (.set _ _)=>True
  | some (.ins _ _ _)=>True
  | some (.ext _)=>True
  | _=>False
section
variable {P:Program}{w:World}{H:Hp}{h h':Heap}{x e:Addr}{o':HO}
theorem HOk.write (ok:HOk P w H h)(mu:Mut (H x))(he:e=x∨H e=some (.own x))(k:∀ b u,b≠e→h.get? b=some u→h'.get? b=some u)(heo:∃ u,h'.get? e=some u)
    (new:zbA P w (upd H x o') h' x o'):HOk P w (upd H x o') h':=fun b u q=>by
  have nown:∀ c y,H c=some (.own y)→c≠x:=fun c y r z=>by subst z;rw[r]at mu;exact mu
  have ntup:∀ c xs,H c=some (.tup xs)→c≠x:=fun c xs r z=>by subst z;rw[r]at mu;exact mu
  by_cases hb:b=x
  · subst hb;rw[zac]at q;cases q;exact new
  · rw[zai hb]at q
    by_cases hbe:b=e
    · have q':H b=some (.own x):=by
        rcases he with z | z
        · exact absurd (hbe.trans z) hb
        · rw[hbe];exact z
      rw[q]at q';cases q'
      obtain ⟨v,hv⟩:=heo;exact ⟨v,by rw[hbe];exact hv⟩
    · refine (ok b u q).stay (fun c v hc r=>k c v ?_ r) (fun c r=>by rw[zai (nown c b r)];exact r) fun c xs r=>by rw[zai (ntup c xs r)];exact r
      rcases hc with rfl | hc
      · exact hbe
      · rintro rfl
        rcases he with z | z
        · exact nown c b hc z
        · rw[hc]at z;cases z;exact hb rfl
end
structure Un (fs ex:List Addr)(H H':Hp)(h h':Heap):Prop where
  keep:∀ b o,h.get? b=some o→H b=none→b∉fs→b∉ex→h'.get? b=some o
  slot:∀ b o,h.get? b=some o→H b=none→b∈fs→b∉ex→∃ sl,h'.get? b=some { o with slots:=sl }
  free:∀ b o,h.get? b=some o→H b=none→b∉ex→H' b=none
  there:∀ b o,h.get? b=some o→b∉ex→∃ o',h'.get? b=some o'
  tups:∀ b xs,H b=some (.tup xs)→H' b=some (.tup xs)
  frzs:∀ b o u,H b=some (.frz o u)→H' b=some (.frz o u)
  tbls:∀ b ps,H b=some (.tbl ps)→∃ more,H' b=some (.tbl (ps++more))
section
variable {fs fs' ex ex':List Addr}{H H1 H2:Hp}{h h1 h2 h':Heap}{a x e:Addr}{o:HO}
theorem Un.any (u:Un fs ex H H1 h h1){b:Addr}{ob:Obj}(q:h.get? b=some ob)(n:H b=none)(hx:b∉ex):∃ sl,h1.get? b=some { ob with slots:=sl }:=by
  by_cases hb:b∈fs
  · exact u.slot b ob q n hb hx
  · exact ⟨ob.slots,u.keep b ob q n hb hx⟩
theorem Un.kept (k:∀ b u,h.get? b=some u→h'.get? b=some u):Un fs ex H H h h':=
  ⟨fun b ob q _ _ _=>k b ob q,fun b ob q _ _ _=>⟨ob.slots,k b ob q⟩,fun _ _ _ n _=>n,fun b ob q _=>⟨ob,k b ob q⟩,fun _ _ q=>q,fun _ _ _ q=>q,fun _ ps q=>⟨#[],by rw[q];simp⟩⟩
theorem Un.refl:Un fs ex H H h h:=Un.kept fun _ _ q=>q
theorem Un.laid (k:∀ b u,h.get? b=some u→h'.get? b=some u)(hp:h.objs.size≤a)(hn:H a=none):Un fs ex H (upd H a o) h h' where
  keep:=fun b u q _ _ _=>k b u q
  slot:=fun b u q _ _ _=>⟨u.slots,k b u q⟩
  free:=fun b u q n _=>by rw[zai (yas (yaw (yag q) hp))];exact n
  there:=fun b u q _=>⟨u,k b u q⟩
  tups:=fun b xs q=>by rw[zai (zab q hn)];exact q
  frzs:=fun b u xs q=>by rw[zai (zab q hn)];exact q
  tbls:=fun b ps q=>⟨#[],by rw[zai (zab q hn),q];simp⟩
theorem Un.write (mu:Mut (H x))(he:e=x∨H e=some (.own x))(k:∀ b u,b≠e→h.get? b=some u→h'.get? b=some u)(heo:∃ u,h'.get? e=some u):Un fs ex H (upd H x o) h h':=by
  have hx:∀ b,H b=none→b≠x:=fun b n z=>by subst z;rw[n]at mu;exact mu
  have hb:∀ b,H b=none→b≠e:=fun b n z=>by
    subst z;rcases he with r | r
    · exact hx b n r
    · rw[n]at r;cases r
  have hm:∀ b u,H b=some u→¬ Mut (some u)→b≠x:=fun b u q nm z=>by subst z;rw[q]at mu;exact nm mu
  refine ⟨fun b u q n _ _=>k b u (hb b n) q,fun b u q n _ _=>⟨u.slots,k b u (hb b n) q⟩,fun b u q n _=>by rw[zai (hx b n)];exact n,fun b u q _=>?_,
    fun b xs q=>by rw[zai (hm b _ q fun z=>z)];exact q,fun b u xs q=>by rw[zai (hm b _ q fun z=>z)];exact q,fun b ps q=>⟨#[],by rw[zai (hm b _ q fun z=>z),q];simp⟩⟩
  by_cases hbe:b=e
  · subst hbe;exact heo
  · exact ⟨u,k b u hbe q⟩
end
def trk (h:Heap)(H:Hp):List Addr:=(List.range h.objs.size).filter fun a=>(H a).isSome
def hidT (h:Heap)(H:Hp):Heap:=PySem.W.hideAll h (trk h H)
theorem zmJ (h:Heap)(H:Hp):(hidT h H).objs.size=h.objs.size:=PySem.W.hideAll_size _ _
theorem zn7 {h:Heap}{H:Hp}{b:Addr}{o:Obj}(e:h.get? b=some o)(n:H b=none):(hidT h H).get? b=some o:=
  PySem.W.hideAll_get _ e fun hm=>by
    have q:(H b).isSome=true:=(ybd.mp hm).2;rw[n]at q;simp at q
theorem zpE {h:Heap}{H:Hp}{b:Addr}{o:Obj}(e:(hidT h H).get? b=some o):h.get? b=some o∧H b=none:=by
  have e':h.get? b=some o:=PySem.W.of_hideAll (trk h H) e;refine ⟨e',?_⟩;cases q:H b with
  | none=>rfl
  | some x=>
    have hm:b∈trk h H:=ybd.mpr ⟨ybe.mpr (yag e'),by simp[q]⟩;have z:(hidT h H).get? b=none:=PySem.W.hideAll_none (trk h H) hm;rw[z]at e;cases e
def zp8 (g h:Heap)(L:Addr):List (Addr×Obj):=(List.range h.objs.size).filterMap fun a=>if a=L∨(g.get? a).isSome=true then none else (h.get? a).map fun o=>(a,o)
def rest (g h:Heap)(L d:Addr):List (Addr×Obj):=(zp8 g h L).filter fun p=>decide (p.1≠d)
end L2
namespace L2
open PySem PySem.Spec PyProof.Rows
structure Mod (K:Frag)(mg:Str→Option Value)(base:Heap):Prop where
  kin:K.In base
  glob:base.Ns mainGlobals mg
  blt:∃ mb,base.Ns builtinsNs mb∧∀ x:Str,x ≠ "__name__"→mb x=bootBuiltins x
  nolimit:base.NoLimit
structure Cx where
  prog:Program
  w:World
  K:Frag
  mg:Str→Option Value
  base:Heap
  A:Around
  N:List Str
  s₀:Shared
  H₀:Hp
  env:Env
  outer:List Env
  stack:List Env
  ex:List Addr
  fn:Str→Bool
  calm:Bool
  pn:List (Addr×Obj)
  xe:Value→Shared→Prop
def frs (l:List Env):List Addr:=l.filterMap (·.frame)
abbrev Cx.fs (X:Cx):List Addr:=frs X.outer
def Vis (sc:Scope)(x:Str):Prop:=sc.names.lookup x=some .local∨sc.names.lookup x=some .cell∨sc.names.lookup x=some .free
def Loc (sc:Scope)(x:Str):Prop:=sc.names.lookup x=some .local∨sc.names.lookup x=some .cell
def Look (env:Env)(h:Heap)(m:Str→Option Value)(x:Str)(u:Value):Prop:=
  (env.kindOf x=some .local∧m x=some u)∨((env.kindOf x=some .cell∨env.kindOf x=some .free)∧∃ c,env.cells.lookup x=some c∧h.IsCell c (some u))
structure Cx.Ok (X:Cx):Prop where
  mod:Mod X.K X.mg X.base
  kind:X.env.scope.kind=.function
  glob:X.env.globals=mainGlobals
  blt:X.env.builtins=builtinsNs
  above:X.s₀.heap.objs.size≤X.env.locals
  inj:∀ x y c,X.env.cells.lookup x=some c→X.env.cells.lookup y=some c→x=y
  has:∀ x,(X.env.kindOf x=some .cell∨X.env.kindOf x=some .free)→∃ c,X.env.cells.lookup x=some c
  cab:∀ x c,X.fn x=true→X.env.cells.lookup x=some c→X.s₀.heap.objs.size≤c
  hd:X.calm=true→X.A.handled=none
  frames:X.A.frames=some X.stack
  stk:X.stack=X.outer∨(X.stack=X.env::X.outer∧X.env.frame=some X.env.locals)
  exf:∀ b∈X.ex,b≠X.env.locals∧∀ x c,X.env.cells.lookup x=some c→c≠b
  bs:∀ b o,X.base.get? b=some o→X.s₀.heap.get? b=some o∧X.H₀ b=none
  bsz:X.base.objs.size≤X.s₀.heap.objs.size
  noex:∀ b o,X.base.get? b=some o→b∉X.ex
  exfs:∀ b∈X.ex,b∉X.fs
  funs:X.s₀.heap.FunFrames X.base X.outer
  frf:∀ b∈X.fs,X.H₀ b=none
structure Inv (X:Cx)(pins:List (Addr×Obj))(σ:List (Option V))(H:Hp)(s:Shared):Prop where
  ok:X.Ok
  os:s.os=X.s₀.os
  bare:AllBare s.gens
  base:Un X.fs X.ex X.H₀ H X.s₀.heap s.heap
  loc:∃ m,s.heap.Ns X.env.locals m∧∀(i:Nat) (x:Str) (v:V),X.N[i]?=some x→σ[i]?=some (some v)→Vis X.env.scope x→∃ u,RelV v u∧Look X.env s.heap m x u
  cell:∀ x c,X.env.cells.lookup x=some c→∃ v,s.heap.IsCell c v
  free:H X.env.locals=none
  freeC:∀ x c,X.env.cells.lookup x=some c→H c=none
  pin:∀ p∈X.pn++pins,s.heap.get? p.1=some p.2∧H p.1=none∧p.1≠X.env.locals∧p.1∉X.fs∧∀ v,p.2.data≠.cell v
  hok:HOk X.prog X.w H s.heap
  len:σ.length=X.N.length
section
variable {X:Cx}{pins:List (Addr×Obj)}{σ:List (Option V)}{H H':Hp}{s:Shared}{h':Heap}
theorem Cx.Ok.nofr (ok:X.Ok){b:Addr}{o:Obj}(e:X.base.get? b=some o):b∉X.fs:=fun hb=>by
  have:=(ok.funs.mem hb).1;rw[e]at this;cases this
theorem Inv.bs (I:Inv X pins σ H s):∀ b o,X.base.get? b=some o→s.heap.get? b=some o∧H b=none:=fun b o e=>
  ⟨I.base.keep b o (I.ok.bs b o e).1 (I.ok.bs b o e).2 (I.ok.nofr e) (I.ok.noex b o e),I.base.free b o (I.ok.bs b o e).1 (I.ok.bs b o e).2 (I.ok.noex b o e)⟩
theorem Inv.bk (I:Inv X pins σ H s):∀ b o,X.base.get? b=some o→s.heap.get? b=some o:=fun b o e=>(I.bs b o e).1
theorem Inv.mod (I:Inv X pins σ H s):Mod X.K X.mg X.base:=I.ok.mod
theorem Inv.kIn (I:Inv X pins σ H s):X.K.In s.heap:=I.ok.mod.kin.keeps I.bk
theorem Inv.lt (I:Inv X pins σ H s):X.env.locals < s.heap.objs.size:=let ⟨_,hn,_⟩:=I.loc;hn.lt
theorem Inv.sz (I:Inv X pins σ H s):X.s₀.heap.objs.size≤s.heap.objs.size:=yar I.ok.above (ybw I.lt)
theorem Inv.nofs (I:Inv X pins σ H s){a:Addr}(h:s.heap.objs.size≤a):a∉X.fs:=fun hb=>by
  obtain ⟨_,o,ho,_⟩:=I.ok.funs.mem hb;exact absurd (yaw (yag ho) (yar I.sz h)) (yaY _)
theorem Inv.cne (I:Inv X pins σ H s):∀ x c,X.env.cells.lookup x=some c→c≠X.env.locals:=fun x c e z=>by
  obtain ⟨v,o,ho,hd⟩:=I.cell x c e;obtain ⟨m,⟨o',es,ep,ho',hd',_⟩,_⟩:=I.loc;rw[z,ho']at ho;cases ho;rw[hd']at hd;cases hd
theorem Inv.funs (I:Inv X pins σ H s):s.heap.FunFrames X.base X.outer:=by
  have all:∀(l:List Env),(∀ b∈frs l,b∈X.fs)→X.s₀.heap.FunFrames X.base l→s.heap.FunFrames X.base l:=by
    intro l
    induction l with
    | nil=>intro _ _;trivial
    | cons env r ih=>
      intro hs hl;obtain ⟨hk,⟨L,o,hf,hn,ho,hd⟩,hr⟩:=hl;have hL:L∈X.fs:=hs L (by unfold frs;rw[ycs,hf];exact yaC);obtain ⟨sl,e⟩:=I.base.slot L o ho (I.ok.frf L hL) hL fun z=>I.ok.exfs L z hL;exact ⟨hk,⟨L,_,hf,hn,e,hd⟩,ih (fun b hb=>hs b (by unfold frs;rw[ycs,hf];exact yaD _ hb)) hr⟩
  exact all X.outer (fun _ hb=>hb) I.ok.funs
theorem Inv.stack (I:Inv X pins σ H s):s.heap.FunFrames X.base X.stack:=by
  rcases I.ok.stk with e | ⟨e,hf⟩
  · rw[e];exact I.funs
  · rw[e]
    obtain ⟨m,hn,_⟩:=I.loc;refine .cons (by rw[I.ok.kind];decide) hf hn ?_ I.funs;exact Heap.get?_none_of_le (yar I.ok.bsz I.ok.above)
theorem Inv.stkSub (I:Inv X pins σ H s):∀ b∈frs X.stack,b∈X.env.locals::X.fs:=fun b hb=>by
  rcases I.ok.stk with e | ⟨e,hf⟩
  · rw[e]at hb;exact yaD _ hb
  · rw[e]at hb
    unfold frs at hb;rw[ycs,hf]at hb;exact hb
theorem Inv.stkFree (I:Inv X pins σ H s):∀ b∈frs X.stack,H b=none:=fun b hb=>by
  rcases yat.mp (I.stkSub b hb) with e | hb
  · rw[e];exact I.free
  · obtain ⟨_,o,ho,_⟩:=I.ok.funs.mem hb
    exact I.base.free b o ho (I.ok.frf b hb) fun z=>I.ok.exfs b z hb
theorem Inv.step {g':Array GenState}{t':Nat}{d':Drawn}{ch:List Addr}(I:Inv X pins σ H s)
    (hch:∀ b∈ch,(b∈X.ex∨X.s₀.heap.objs.size≤b)∧b≠X.env.locals∧(∀ x c,X.env.cells.lookup x=some c→c≠b)∧∀ p∈X.pn++pins,p.1≠b)
    (keep:∀ b o,b≠X.env.locals→b∉X.fs→b∉ch→s.heap.get? b=some o→H b=none→h'.get? b=some o)
    (slot:∀ b o,b≠X.env.locals→b∈X.fs→b∉ch→s.heap.get? b=some o→H b=none→∃ sl,h'.get? b=some { o with slots:=sl }) (free:∀ b o,b∉ch→s.heap.get? b=some o→H b=none→H' b=none)
    (there:∀ b o,b∉ch→s.heap.get? b=some o→∃ o',h'.get? b=some o')
    (tups:∀ b xs,H b=some (.tup xs)→H' b=some (.tup xs)) (frzs:∀ b o u,H b=some (.frz o u)→H' b=some (.frz o u)) (tbls:∀ b ps,H b=some (.tbl ps)→∃ more,H' b=some (.tbl (ps++more)))
    (ns:∀ m,s.heap.Ns X.env.locals m→h'.Ns X.env.locals m) (hok:HOk X.prog X.w H' h') (hg:AllBare g') :
    Inv X pins σ H' { s with heap:=h',gens:=g',drawn:=d',toks:=t' }:=by
  have neL:∀ b o,X.s₀.heap.get? b=some o→b≠X.env.locals:=fun b o e=>yas (yaw (yag e) I.ok.above);have neC:∀ b o,X.s₀.heap.get? b=some o→b∉X.ex→b∉ch:=fun b o e hx hb=>by
    rcases (hch b hb).1 with z | z
    · exact hx z
    · exact absurd (yaw (yag e) z) (yaY _)
  have cellK:∀ x c,X.env.cells.lookup x=some c→∀ v,s.heap.IsCell c v→h'.IsCell c v:=fun x c e v ⟨o,ho,hd⟩=>by
    have nch:c∉ch:=fun z=>(hch c z).2.2.1 x c e rfl;by_cases hc:c∈X.fs
    · obtain ⟨sl,q⟩:=slot c o (I.cne x c e) hc nch ho (I.freeC x c e)
      exact ⟨_,q,hd⟩
    · exact ⟨o,keep c o (I.cne x c e) hc nch ho (I.freeC x c e),hd⟩
  refine ⟨I.ok,I.os,hg,⟨fun b o e n hb hx=>?_,fun b o e n hb hx=>?_,fun b o e n hx=>?_,fun b o e hx=>?_,fun b xs e=>tups b xs (I.base.tups b xs e),fun b o xs e=>frzs b o xs (I.base.frzs b o xs e),fun b ps e=>?_⟩,?_,fun x c e=>?_,?_,fun x c e=>?_,fun p hp=>?_,hok,I.len⟩
  · exact keep b o (neL b o e) hb (neC b o e hx) (I.base.keep b o e n hb hx) (I.base.free b o e n hx)
  · obtain ⟨sl,e1⟩:=I.base.slot b o e n hb hx
    obtain ⟨sl',e2⟩:=slot b _ (neL b o e) hb (neC b o e hx) e1 (I.base.free b o e n hx);exact ⟨sl',e2⟩
  · obtain ⟨o',e1⟩:=I.base.there b o e hx
    exact free b o' (neC b o e hx) e1 (I.base.free b o e n hx)
  · obtain ⟨o',e1⟩:=I.base.there b o e hx
    exact there b o' (neC b o e hx) e1
  · obtain ⟨m1,e1⟩:=I.base.tbls b ps e
    obtain ⟨m2,e2⟩:=tbls b _ e1;exact ⟨m1++m2,by rw[e2,Array.append_assoc]⟩
  · obtain ⟨m,hn,hl⟩:=I.loc
    refine ⟨m,ns m hn,fun i x v e1 e2 e3=>?_⟩;obtain ⟨u,r,l⟩:=hl i x v e1 e2 e3;refine ⟨u,r,?_⟩;rcases l with l | ⟨k,c,e,z⟩
    · exact .inl l
    · exact .inr ⟨k,c,e,cellK x c e _ z⟩
  · obtain ⟨v,z⟩:=I.cell x c e
    exact ⟨v,cellK x c e v z⟩
  · obtain ⟨m,⟨o,_,_,ho,_⟩,_⟩:=I.loc
    exact free _ o (fun z=>(hch _ z).2.1 rfl) ho I.free
  · obtain ⟨v,o,ho,hd⟩:=I.cell x c e
    exact free c o (fun z=>(hch c z).2.2.1 x c e rfl) ho (I.freeC x c e)
  · obtain ⟨e,n,ne,nf,d⟩:=I.pin p hp
    have nch:p.1∉ch:=fun z=>(hch p.1 z).2.2.2 p hp rfl;exact ⟨keep p.1 p.2 ne nf nch e n,free p.1 p.2 nch e n,ne,nf,d⟩
theorem Inv.un {t':Nat}(I:Inv X pins σ H s)(u:Un X.fs [] H H' s.heap h')(hok:HOk X.prog X.w H' h'):Inv X pins σ H' { s with heap:=h',toks:=t' }:=by
  obtain ⟨m,⟨o,es,ep,ho,r⟩,_⟩:=id I.loc;obtain ⟨sl,hL⟩:=u.any ho I.free (by simp);exact I.step (g':=s.gens) (d':=s.drawn) (ch:=[]) (fun _ z=>nomatch z) (fun b o _ hb _ e n=>u.keep b o e n hb (by simp)) (fun b o _ hb _ e n=>u.slot b o e n hb (by simp)) (fun b o _ e n=>u.free b o e n (by simp)) (fun b o _ e=>u.there b o e (by simp)) u.tups u.frzs u.tbls (fun m' hm=>by
    obtain ⟨o',es',ep',ho',r'⟩:=hm;rw[ho]at ho';cases ho'
    exact ⟨_,es',ep',hL,r'⟩) hok I.bare
theorem Inv.call {g':Array GenState}{t':Nat}{d':Drawn}{ch:List Addr}(I:Inv X pins σ H s)(u:Un (frs X.stack) ch H H' s.heap h')(hok:HOk X.prog X.w H' h')(hg:AllBare g')
    (hch:∀ b∈ch,(b∈X.ex∨X.s₀.heap.objs.size≤b)∧b≠X.env.locals∧(∀ x c,X.env.cells.lookup x=some c→c≠b)∧∀ p∈X.pn++pins,p.1≠b) :
    Inv X pins σ H' { s with heap:=h',gens:=g',drawn:=d',toks:=t' }:=by
  obtain ⟨m,⟨o,es,ep,ho,r⟩,_⟩:=id I.loc;obtain ⟨sl,hL⟩:=u.any ho I.free fun z=>(hch _ z).2.1 rfl;exact I.step (ch:=ch) hch (fun b o hL hb hc e n=>u.keep b o e n (fun z=>(yat.mp (I.stkSub b z)).elim hL hb) hc) (fun b o _ _ hc e n=>u.any e n hc) (fun b o hc e n=>u.free b o e n hc) (fun b o hc e=>u.there b o e hc) u.tups u.frzs u.tbls (fun m' hm=>by
    obtain ⟨o',es',ep',ho',r'⟩:=hm;rw[ho]at ho';cases ho'
    exact ⟨_,es',ep',hL,r'⟩) hok hg
theorem Inv.turned {t':Nat}{it:Addr}(I:Inv X pins σ H s)(k:∀ b o,b≠it→s.heap.get? b=some o→h'.get? b=some o)(hn:H it=none)(hL:it≠X.env.locals)
    (h1:it∈X.ex∨X.s₀.heap.objs.size≤it) (h2:∀ x c,X.env.cells.lookup x=some c→c≠it) (h3:∀ p∈X.pn++pins,p.1≠it):Inv X pins σ H { s with heap:=h',toks:=t' }:=by
  have nit:∀ b u,H b=some u→b≠it:=fun b u e z=>by rw[z,hn]at e;cases e
  refine I.step (g':=s.gens) (d':=s.drawn) (ch:=[it]) (fun b hb=>?_) (fun b o _ _ hc e _=>k b o (fun z=>hc (by simp[z])) e) (fun b o _ _ hc e _=>⟨o.slots,k b o (fun z=>hc (by simp[z])) e⟩) (fun _ _ _ _ n=>n)
    (fun b o hc e=>⟨o,k b o (fun z=>hc (by simp[z])) e⟩) (fun _ _ e=>e) (fun _ _ _ e=>e) (fun b ps e=>⟨#[],by rw[e];simp⟩) (fun m hm=>?_) (fun b u e=>?_) I.bare
  · have e:b=it:=by simpa using hb
    subst e;exact ⟨h1,hL,h2,h3⟩
  · obtain ⟨o,es,ep,ho,r⟩:=hm
    exact ⟨o,es,ep,k _ o (Ne.symm hL) ho,r⟩
  · refine (I.hok b u e).stay (fun c v hc q=>k c v ?_ q) (fun _ q=>q) fun _ _ q=>q
    rcases hc with z | z
    · rw[z];exact nit b u e
    · exact nit c _ z
theorem Inv.tok (I:Inv X pins σ H s)(t:Nat):Inv X pins σ H { s with toks:=t }:=I.un (h':=s.heap) (t':=t) Un.refl I.hok
theorem Inv.kept {t':Nat}(I:Inv X pins σ H s)(k:∀ b u,s.heap.get? b=some u→h'.get? b=some u):Inv X pins σ H { s with heap:=h',toks:=t' }:=I.un (Un.kept k) (I.hok.kept k)
theorem Inv.laid {a:Addr}{o:HO}{t':Nat}(I:Inv X pins σ H s)(k:∀ b u,s.heap.get? b=some u→h'.get? b=some u)(hp:s.heap.objs.size≤a)(new:zbA X.prog X.w (upd H a o) h' a o) :
    Inv X pins σ (upd H a o) { s with heap:=h',toks:=t' }:=I.un (Un.laid k hp (I.hok.fresh hp)) (I.hok.laid k hp new)
theorem Inv.write {x e:Addr}{o:HO}{t':Nat}(I:Inv X pins σ H s)(mu:Mut (H x))(he:e=x∨H e=some (.own x))(k:∀ b u,b≠e→s.heap.get? b=some u→h'.get? b=some u)(heo:∃ u,h'.get? e=some u)
    (new:zbA X.prog X.w (upd H x o) h' x o):Inv X pins σ (upd H x o) { s with heap:=h',toks:=t' }:=I.un (Un.write mu he k heo) (I.hok.write mu he k heo new)
theorem Inv.pins_of {pins':List (Addr×Obj)}(I:Inv X pins σ H s)(h:∀ p∈pins',s.heap.get? p.1=some p.2∧H p.1=none∧p.1≠X.env.locals∧p.1∉X.fs∧∀ v,p.2.data≠.cell v):Inv X pins' σ H s:=
  ⟨I.ok,I.os,I.bare,I.base,I.loc,I.cell,I.free,I.freeC,fun p hp=>(yao.mp hp).elim (fun z=>I.pin p (yaZ _ z)) (h p),I.hok,I.len⟩
theorem zj1 {N:List Str}(hN:N.Nodup){i j:Nat}{x:Str}(a:N[i]?=some x)(b:N[j]?=some x):i=j:=by
  obtain ⟨h1,e1⟩:=yaf.mp a;obtain ⟨h2,e2⟩:=yaf.mp b;exact (List.getElem_inj hN).mp (e1.trans e2.symm)
theorem zf9 {M:Model}{A:Around}{E:Value→Shared→Prop}{i:Nat}{x:Str}{v:V}{u:Value}{Q:Unit→Shared→Prop}(I:Inv X pins σ H s)(hN:X.N.Nodup)(hi:X.N[i]?=some x)(hx:Loc X.env.scope x)(r:RelV v u)
    (h:∀ s',Inv X pins (σ.set i (some v)) H s'→(∃ a,Heap.SameBut a s.heap s'.heap∧(a=X.env.locals∨X.env.cells.lookup x=some a))→Q () s') (hf:X.fn x=true∨X.env.scope.names.lookup x=some .local:=by first | exact .inl rfl | exact .inr rfl | assumption):wpAny M A (storeName X.env x u) Q E s:=by
  obtain ⟨m,hn,hl⟩:=id I.loc;have hcls:(X.env.scope.kind == .class || (X.env.scope.kind == .module && X.env.locals != X.env.globals))=false:=by rw[I.ok.kind];rfl
  have hiσ:i < σ.length:=by rw[I.len];exact (yaf.mp hi).1
  have cne:=I.cne;have tracked:∀{a:Addr} {h':Heap},(∃ o,s.heap.get? a=some o∧H a=none)→Heap.SameBut a s.heap h'→HOk X.prog X.w H h':=fun {a h'} ha hs b ob e=>by
    obtain ⟨_,_,hfree⟩:=ha;refine (I.hok b ob e).stay (fun c w' hc q=>(hs.2 c ?_).trans q) (fun _ q=>q) fun _ _ q=>q;rintro rfl;rcases hc with rfl | hc
    · rw[hfree]at e;cases e
    · rw[hfree]at hc;cases hc
  rcases hx with hk | hk
  · refine wpAny_storeName_local hk hn (fun h' hn' hs=>?_) hcls
    obtain ⟨oL,_,_,hoL,_⟩:=id hn;refine h _ ⟨I.ok,I.os,I.bare,⟨fun b o e n hb hx=>?_,fun b o e n hb hx=>?_,I.base.free,fun b o e hx=>?_,I.base.tups,I.base.frzs,I.base.tbls⟩,⟨_,hn',fun j y v' e1 e2 e3=>?_⟩,fun y c e=>?_,I.free,I.freeC,fun p hp=>?_,tracked ⟨oL,hoL,I.free⟩ hs,by simpa using I.len⟩ ⟨_,hs,.inl rfl⟩
    · exact (hs.2 b (yas (yaw (yag e) I.ok.above))).trans (I.base.keep b o e n hb hx)
    · obtain ⟨sl,e1⟩:=I.base.slot b o e n hb hx
      exact ⟨sl,(hs.2 b (yas (yaw (yag e) I.ok.above))).trans e1⟩
    · obtain ⟨o',e1⟩:=I.base.there b o e hx
      exact ⟨o',(hs.2 b (yas (yaw (yag e) I.ok.above))).trans e1⟩
    · by_cases hj:j=i
      · subst hj
        rw[hi]at e1;cases e1
        rw[List.getElem?_set_self hiσ]at e2;cases e2
        exact ⟨u,r,.inl ⟨hk,by simp⟩⟩
      · rw[List.getElem?_set_ne (Ne.symm hj)]at e2
        obtain ⟨u',r',q⟩:=hl j y v' e1 e2 e3;refine ⟨u',r',?_⟩;rcases q with ⟨k,e⟩ | ⟨k,c,e,z⟩
        · refine .inl ⟨k,?_⟩
          have:y≠x:=fun e=>hj (zj1 hN e1 (e ▸ hi));simp[this,e]
        · exact .inr ⟨k,c,e,z.sameBut hs (cne y c e)⟩
    · obtain ⟨w',z⟩:=I.cell y c e
      exact ⟨w',z.sameBut hs (cne y c e)⟩
    · obtain ⟨e,n,ne,nf,d⟩:=I.pin p hp
      exact ⟨(hs.2 p.1 ne).trans e,n,ne,nf,d⟩
  · have hfn:X.fn x=true:=by
      rcases hf with z | z
      · exact z
      · rw[z]at hk;cases hk
    obtain ⟨c,hc⟩:=I.ok.has x (.inl hk);obtain ⟨w',z⟩:=I.cell x c hc;refine wpAny_storeName_cell I.ok.kind hk hc z (fun h' hc' hs=>?_);obtain ⟨oc,hoc,hocd⟩:=id z;refine h { s with heap:=h' } ⟨I.ok,I.os,I.bare,⟨fun b o e n hb hx=>?_,fun b o e n hb hx=>?_,I.base.free,fun b o e hx=>?_,I.base.tups,I.base.frzs,I.base.tbls⟩,⟨m,hn.sameBut hs (Ne.symm (cne x c hc)),fun j y v' e1 e2 e3=>?_⟩,fun y c' e=>?_,I.free,I.freeC,fun p hp=>?_,tracked ⟨oc,hoc,I.freeC x c hc⟩ hs,by simpa using I.len⟩ ⟨c,hs,.inr hc⟩
    · exact (hs.2 b (yas (yaw (yag e) (I.ok.cab x c hfn hc)))).trans (I.base.keep b o e n hb hx)
    · obtain ⟨sl,e1⟩:=I.base.slot b o e n hb hx
      exact ⟨sl,(hs.2 b (yas (yaw (yag e) (I.ok.cab x c hfn hc)))).trans e1⟩
    · obtain ⟨o',e1⟩:=I.base.there b o e hx
      exact ⟨o',(hs.2 b (yas (yaw (yag e) (I.ok.cab x c hfn hc)))).trans e1⟩
    · by_cases hj:j=i
      · subst hj
        rw[hi]at e1;cases e1
        rw[List.getElem?_set_self hiσ]at e2;cases e2
        exact ⟨u,r,.inr ⟨.inl hk,c,hc,hc'⟩⟩
      · rw[List.getElem?_set_ne (Ne.symm hj)]at e2
        obtain ⟨u',r',q⟩:=hl j y v' e1 e2 e3;refine ⟨u',r',?_⟩;rcases q with q | ⟨k,c',e,z'⟩
        · exact .inl q
        · refine .inr ⟨k,c',e,z'.sameBut hs ?_⟩
          rintro rfl;exact hj (zj1 hN e1 (I.ok.inj _ _ _ e hc ▸ hi))
    · by_cases hcc:c'=c
      · subst hcc;exact ⟨_,hc'⟩
      · obtain ⟨w2,z2⟩:=I.cell y c' e
        exact ⟨w2,z2.sameBut hs hcc⟩
    · obtain ⟨e,n,ne,nf,d⟩:=I.pin p hp
      refine ⟨(hs.2 p.1 ?_).trans e,n,ne,nf,d⟩;intro q;rw[q,hoc]at e;have q':oc=p.2:=yae e;exact d w' (by rw[← q'];exact hocd)
theorem zjA {M:Model}{A:Around}{E:Value→Shared→Prop}{i:Nat}{x:Str}{v:V}{u:Value}{Q:Unit→Shared→Prop}(I:Inv X pins σ H s)(hN:X.N.Nodup)(hi:X.N[i]?=some x)(hx:Loc X.env.scope x)(r:RelV v u)
    (h:∀ s',Inv X pins (σ.set i (some v)) H s'→Q () s') (hf:X.fn x=true∨X.env.scope.names.lookup x=some .local:=by first | exact .inl rfl | exact .inr rfl | assumption):wpAny M A (storeName X.env x u) Q E s:=
  zf9 I hN hi hx r (fun s' I' _=>h s' I') hf
theorem Inv.call' {s':Shared}{ch:List Addr}(I:Inv X pins σ H s)(ho:s'.os=s.os)(u:Un (frs X.stack) ch H H' s.heap s'.heap)(hok:HOk X.prog X.w H' s'.heap)(hg:AllBare s'.gens)
    (hch:∀ b∈ch,(b∈X.ex∨X.s₀.heap.objs.size≤b)∧b≠X.env.locals∧(∀ x c,X.env.cells.lookup x=some c→c≠b)∧∀ p∈X.pn++pins,p.1≠b):Inv X pins σ H' s':=by
  obtain ⟨h',g',d',t',o'⟩:=s';have e:o'=s.os:=ho;subst e;exact I.call (g':=g') (t':=t') (d':=d') u hok hg hch
end
abbrev XK:=Value→Option Addr→Hp→Prop
abbrev St:=List (Option V)
abbrev VK:=V→Hp→Prop
abbrev TE:=St→Hp→VK→Prop
abbrev TT:=St→Hp→(Bool→Hp→Prop)→Prop
abbrev TA:=St→Hp→(List V→Hp→Prop)→Prop
structure Ends where
  nx:St→Hp→Prop
  rt:VK
  bk:St→Hp→Prop:=fun _ _=>False
  ct:St→Hp→Prop:=fun _ _=>False
abbrev TS:=Ends→St→Hp→Prop
def EP (X:Cx)(pins:List (Addr×Obj))(σ:St)(Q:VK)(u:Value)(s':Shared):Prop:=∃ v H',Inv X pins σ H' s'∧RelV v u∧Q v H'
def TP (X:Cx)(pins:List (Addr×Obj))(σ:St)(Q:Bool→Hp→Prop)(b:Bool)(s':Shared):Prop:=∃ H',Inv X pins σ H' s'∧Q b H'
def AP (X:Cx)(pins:List (Addr×Obj))(σ:St)(Q:List V→Hp→Prop)(us:List Value)(s':Shared):Prop:=∃ vs H',Inv X pins σ H' s'∧Vals vs us∧Q vs H'
def SP (X:Cx)(pins:List (Addr×Obj))(D:Ends)(f:Flow)(s':Shared):Prop:=
  match f with
  | .next=>∃ σ' H',Inv X pins σ' H' s'∧D.nx σ' H'
  | .brk=>∃ σ' H',Inv X pins σ' H' s'∧D.bk σ' H'
  | .cont=>∃ σ' H',Inv X pins σ' H' s'∧D.ct σ' H'
  | .ret u=>∃ v σ' H',Inv X pins σ' H' s'∧RelV v u∧D.rt v H'
def PE (X:Cx)(e:Expr)(t:TE):Prop:=
  ∀(pins:List (Addr×Obj)) (s:Shared) (σ:St) (H:Hp) (Q:VK),Inv X pins σ H s→t σ H Q→wpAny (model X.prog X.w) X.A (eval e X.env) (EP X pins σ Q) X.xe s
def PT (X:Cx)(e:Expr)(t:TT):Prop:=
  ∀(pins:List (Addr×Obj)) (s:Shared) (σ:St) (H:Hp) (Q:Bool→Hp→Prop),Inv X pins σ H s→t σ H Q→wpAny (model X.prog X.w) X.A (isTrue e X.env (eval e X.env)) (TP X pins σ Q) X.xe s
def PW (X:Cx)(e:Expr)(t:TT):Prop:=
  ∀(whole:Sem Value) (pins:List (Addr×Obj)) (s:Shared) (σ:St) (H:Hp) (Q:Bool→Hp→Prop),Inv X pins σ H s→t σ H Q→wpAny (model X.prog X.w) X.A (isTrue e X.env whole) (TP X pins σ Q) X.xe s
theorem PW.pt {X:Cx}{e:Expr}{t:TT}(h:PW X e t):PT X e t:=h _
def PA (X:Cx)(es:List Expr)(t:TA):Prop:=
  ∀(pos:Pos) (pins:List (Addr×Obj)) (s:Shared) (σ:St) (H:Hp) (Q:List V→Hp→Prop),Inv X pins σ H s→t σ H Q→wpAny (model X.prog X.w) X.A (spliced (backTo pos (starEach es X.env))) (AP X pins σ Q) X.xe s
def PS (X:Cx)(st:Stmt)(t:TS):Prop:=
  ∀(pins:List (Addr×Obj)) (s:Shared) (σ:St) (H:Hp) (D:Ends),Inv X pins σ H s→t D σ H→wpAny (model X.prog X.w) X.A (exec st X.env) (SP X pins D) X.xe s
def PSs (X:Cx)(st:List Stmt)(t:TS):Prop:=
  ∀(pins:List (Addr×Obj)) (s:Shared) (σ:St) (H:Hp) (D:Ends),Inv X pins σ H s→t D σ H→wpAny (model X.prog X.w) X.A (execs st X.env) (SP X pins D) X.xe s
theorem thn {α:Type}{t:Sem α}{Q Q':α→Shared→Prop}{M:Model}{A:Around}{E:Value→Shared→Prop}{s:Shared}(h:wpAny M A t Q E s)(hQ:∀ a s,Q a s→Q' a s):wpAny M A t Q' E s:=wpAny_mono h hQ fun _ _ x=>x
end L2
namespace L2
open PySem PySem.Spec PyProof.Rows
section
variable {X:Cx}
def tVar (i:Nat):TE:=fun σ H Q=>∃ v,σ[i]?=some (some v)∧Q v H
def tC (v:V):TE:=fun _ H Q=>Q v H
theorem zqB {i:Nat}{x:Str}{pos:Pos}(hN:X.N[i]?=some x)(hv:Vis X.env.scope x)(hd:(x == ("__debug__" : Str))=false:=by decide)(hcd:(x == ("__classdict__" : Str))=false:=by decide):PE X (.Name x pos) (tVar i):=by
  intro pins s σ H Q I h;obtain ⟨v,e,h⟩:=h;obtain ⟨m,hn,hl⟩:=I.loc;obtain ⟨u,r,l⟩:=hl i x v hN e hv;have fin:EP X pins σ Q u s:=⟨v,H,I,r,h⟩;rcases l with ⟨hk,hm⟩ | ⟨hk,c,hc,hcell⟩
  · exact wpAny_Name (wpAny_loadName_local I.ok.kind hk hn hm fin) hd
  · rcases hk with hk | hk
    · exact wpAny_Name (wpAny_loadName_cell I.ok.kind hk hc hcell fin) hd
    · exact wpAny_Name (wpAny_loadName_free I.ok.kind hk hc hcell fin hcd) hd
theorem zae {i j pos}:PE X (.Constant (.int i) j pos) (tC (.int i)):=fun _ _ _ H _ I h=>wpAny_Constant_int ⟨.int i,H,I.tok _,⟨_,rfl⟩,h⟩
theorem zbR {b j pos}:PE X (.Constant (.bool b) j pos) (tC (.bl b)):=fun _ _ _ H _ I h=>Constant_bool ⟨.bl b,H,I,rfl,h⟩
theorem zl0 {j pos}:PE X (.Constant .none j pos) (tC .non):=fun _ _ _ H _ I h=>Constant_none ⟨.non,H,I,rfl,h⟩
theorem zdk {x j pos}:PE X (.Constant (.str x) j pos) (tC (.str x)):=fun _ _ _ H _ I h=>Calls.Constant_str ⟨.str x,H,I.tok _,⟨_,rfl⟩,h⟩
def Gl (X:Cx)(x:Str):Prop:=X.env.kindOf x=some .globalImplicit
theorem zmr {E:Value→Shared→Prop}{pins:List (Addr×Obj)}{s:Shared}{σ:St}{H:Hp}{x:Str}{u:Value}{pos:Pos}{Q:Value→Shared→Prop}(I:Inv X pins σ H s)(hg:Gl X x)(hm:X.mg x=some u)(h:Q u s)
    (hd:(x == ("__debug__" : Str))=false:=by decide):wpAny (model X.prog X.w) X.A (eval (.Name x pos) X.env) Q E s:=
  Calls.Name_function_global I.ok.kind hg (Calls.loadGlobal_global (by rw[I.ok.glob];exact I.mod.glob.keeps I.bk) hm h) hd
theorem zfc {E:Value→Shared→Prop}{pins:List (Addr×Obj)}{s:Shared}{σ:St}{H:Hp}{x:Str}{u:Value}{pos:Pos}{Q:Value→Shared→Prop}(I:Inv X pins σ H s)(hg:Gl X x)(hm:X.mg x=none)(hv:bootBuiltins x=some u)(h:Q u s)
    (hn:x ≠ "__name__":=by decide) (hd:(x == ("__debug__" : Str))=false:=by decide):wpAny (model X.prog X.w) X.A (eval (.Name x pos) X.env) Q E s:=by
  obtain ⟨mb,h1,h2⟩:=I.mod.blt;exact Calls.Name_function_global I.ok.kind hg (Calls.loadGlobal_builtin (by rw[I.ok.glob];exact I.mod.glob.keeps I.bk) hm (by rw[I.ok.blt];exact h1.keeps I.bk) ((h2 x hn).trans hv) h) hd
theorem zpp {x:Str}{v:V}{u:Value}{pos:Pos}(hg:Gl X x)(hm:X.mg x=some u)(r:RelV v u)(hd:(x == ("__debug__" : Str))=false:=by decide):PE X (.Name x pos) (tC v):=
  fun _ _ _ H _ I h=>zmr I hg hm ⟨v,H,I,r,h⟩ hd
theorem zc6 {x:Str}{v:V}{u:Value}{pos:Pos}(hg:Gl X x)(hm:X.mg x=none)(hv:bootBuiltins x=some u)(r:RelV v u)(hn:x ≠ "__name__":=by decide)(hd:(x == ("__debug__" : Str))=false:=by decide):PE X (.Name x pos) (tC v):=
  fun _ _ _ H _ I h=>zfc I hg hm hv ⟨v,H,I,r,h⟩ hn hd
variable {a b:Expr}{ta tb:TE}{pos:Pos}
def tB (t:TE):TT:=fun σ H Q=>t σ H fun x H1=>∃ c,x=.bl c∧Q c H1
theorem zdj {e:Expr}{t:TE}(h:PE X e t)(he:∀ whole,isTrue e X.env whole=(do let v ← whole;standAt e.pos;holding [v] (truthy v)):=by intro _;rfl):PT X e (tB t):=by
  intro pins s σ H Q I hw;refine isTrue_plain (thn (h pins s σ H _ I hw) fun v s1 zq0=>?_) (he _);obtain ⟨x,H1,I1,r1,q1⟩:=zq0;obtain ⟨d,rfl,q⟩:=q1;cases r1
  exact wpAny_truthy_bool ⟨H1,I1,q⟩
variable {tA tB':TT}{rest:List Expr}
def tAnd (t u:TT):TT:=fun σ H Q=>t σ H fun c H1=>if c=true then u σ H1 Q else Q false H1
def tOr (t u:TT):TT:=fun σ H Q=>t σ H fun c H1=>if c=true then Q true H1 else u σ H1 Q
def tNot (t:TT):TT:=fun σ H Q=>t σ H fun c H1=>Q (!c) H1
theorem zgd (ha:PT X a tA):PW X (.BoolOp .And [a] pos) tA:=by
  intro wh pins s σ H Q I h;refine isTrue_and (thn (ha pins s σ H Q I h) fun c s1 e=>?_);cases c with
  | true=>exact isTrue_and_nil e
  | false=>exact e
theorem zeU (ha:PT X a tA):PW X (.BoolOp .Or [a] pos) tA:=by
  intro wh pins s σ H Q I h;refine isTrue_or (thn (ha pins s σ H Q I h) fun c s1 e=>?_);cases c with
  | false=>exact isTrue_or_nil e
  | true=>exact e
theorem zh9 (ha:PT X a tA)(hb:PW X (.BoolOp .And (b::rest) pos) tB'):PW X (.BoolOp .And (a::b::rest) pos) (tAnd tA tB'):=by
  intro wh pins s σ H Q I h;refine isTrue_and (thn (ha pins s σ H _ I h) fun c s1 zq0=>?_);obtain ⟨H1,I1,q1⟩:=zq0;cases c with
  | true=>exact hb wh pins s1 σ H1 Q I1 q1
  | false=>exact ⟨H1,I1,q1⟩
theorem zgc (ha:PT X a tA)(hb:PW X (.BoolOp .Or (b::rest) pos) tB'):PW X (.BoolOp .Or (a::b::rest) pos) (tOr tA tB'):=by
  intro wh pins s σ H Q I h;refine isTrue_or (thn (ha pins s σ H _ I h) fun c s1 zq0=>?_);obtain ⟨H1,I1,q1⟩:=zq0;cases c with
  | true=>exact ⟨H1,I1,q1⟩
  | false=>exact hb wh pins s1 σ H1 Q I1 q1
theorem zdu (ha:PT X a tA):PT X (.UnaryOp .Not a pos) (tNot tA):=by
  intro pins s σ H Q I h;exact isTrue_not (ha pins s σ H (fun c H1=>Q (!c) H1) I h)
def zrw (ta tb:TE):TE:=fun σ H Q=>ta σ H fun x H1=>∃ c,x=.bl c∧if c=true then tb σ H1 Q else Q (.bl false) H1
def tOrV (ta tb:TE):TE:=fun σ H Q=>ta σ H fun x H1=>∃ c,x=.bl c∧if c=true then Q (.bl true) H1 else tb σ H1 Q
def zrr (ta:TE):TE:=fun σ H Q=>ta σ H fun x H1=>∃ c,x=.bl c∧Q (.bl (!c)) H1
theorem zjV {op}{t:TE}(h:PE X a t):PE X (.BoolOp op [a] pos) t:=fun pins s σ H Q I hw=>BoolOp_one (h pins s σ H Q I hw)
theorem zl1 (ha:PE X a ta)(hb:PE X (.BoolOp .And (b::rest) pos) tb):PE X (.BoolOp .And (a::b::rest) pos) (zrw ta tb):=by
  intro pins s σ H Q I h;refine BoolOp_and (thn (ha pins s σ H _ I h) fun v s1 zq0=>?_);obtain ⟨x,H1,I1,r1,q1⟩:=zq0;obtain ⟨c,rfl,q1⟩:=q1;cases r1
  refine wpAny_truthy_bool ?_;cases c with
  | true=>exact hb pins s1 σ H1 Q I1 q1
  | false=>exact ⟨.bl false,H1,I1,rfl,q1⟩
theorem zrA (ha:PE X a ta)(hb:PE X (.BoolOp .Or (b::rest) pos) tb):PE X (.BoolOp .Or (a::b::rest) pos) (tOrV ta tb):=by
  intro pins s σ H Q I h;refine BoolOp_or (thn (ha pins s σ H _ I h) fun v s1 zq0=>?_);obtain ⟨x,H1,I1,r1,q1⟩:=zq0;obtain ⟨c,rfl,q1⟩:=q1;cases r1
  refine wpAny_truthy_bool ?_;cases c with
  | false=>exact hb pins s1 σ H1 Q I1 q1
  | true=>exact ⟨.bl true,H1,I1,rfl,q1⟩
theorem zoK (ha:PE X a ta):PE X (.UnaryOp .Not a pos) (zrr ta):=by
  intro pins s σ H Q I h;refine UnaryOp_ (thn (ha pins s σ H _ I h) fun v s1 zq0=>?_);obtain ⟨x,H1,I1,r1,q1⟩:=zq0;obtain ⟨c,rfl,q1⟩:=q1;cases r1
  exact not_of (wpAny_truthy_bool ⟨.bl (!c),H1,I1,rfl,q1⟩)
def tIf (t:TT)(ta tb:TE):TE:=fun σ H Q=>t σ H fun c H1=>if c=true then ta σ H1 Q else tb σ H1 Q
theorem zjW {c:Expr}(hc:PT X c tA)(ha:PE X a ta)(hb:PE X b tb):PE X (.IfExp c a b pos) (tIf tA ta tb):=by
  intro pins s σ H Q I h;refine wpAny_IfExp (thn (hc pins s σ H _ I h) fun d s1 zq0=>?_);obtain ⟨H1,I1,q1⟩:=zq0;cases d with
  | true=>exact ha pins s1 σ H1 Q I1 q1
  | false=>exact hb pins s1 σ H1 Q I1 q1
end
end L2
namespace L2
open PySem PySem.Spec PyProof.Rows
def SqL (K:Frag)(H:Hp)(a:Addr)(xs:List V):Prop:=
  Rd H a (.lst xs)∨
    ∃(o:Obj) (its:Array Value) (n:Nat),K.lookup a=some o∧o.cls=.type "list"∧o.dict=none∧o.data=.seq its n∧its.size≤sizeLine∧Vals xs its.toList
def SqT (K:Frag)(H:Hp)(a:Addr)(xs:List V):Prop:=
  Rd H a (.tup xs)∨
    ∃(o:Obj) (its:Array Value) (n:Nat),K.lookup a=some o∧o.cls=.type "tuple"∧o.data=.seq its n∧its.size≤sizeLine∧Vals xs its.toList
def absV:Value→Option V
  | .none=>some .non
  | .bool b=>some (.bl b)
  | .int i _=>some (.int i)
  | .str x _=>some (.str x)
  | .bytes b _=>some (.byt b)
  | .float b _=>some (.flt b)
  | .ref a=>some (.ref a)
  | .type n=>some (.ty n)
  | _=>none
theorem RelV.abs {x:V}{u:Value}(r:RelV x u):absV u=some x:=by
  cases x with
  | non=>cases r;rfl
  | bl _=>cases r;rfl
  | int _=>obtain ⟨t,rfl⟩:=r;rfl
  | str _=>obtain ⟨t,rfl⟩:=r;rfl
  | byt _=>obtain ⟨t,rfl⟩:=r;rfl
  | flt _=>obtain ⟨t,rfl⟩:=r;rfl
  | ref _=>cases r;rfl
  | ty _=>cases r;rfl
theorem RelV.inj {x y:V}{u:Value}(r:RelV x u)(q:RelV y u):x=y:=yae (r.abs.symm.trans q.abs)
theorem Vals.inj:∀{xs ys:List V} {us:List Value},Vals xs us→Vals ys us→xs=ys
  | _,_,_,.nil,.nil=>rfl
  | _,_,_,.cons r t,.cons r' t'=>by rw[r.inj r',Vals.inj t t']
section
variable {X:Cx}{pins:List (Addr×Obj)}{σ:St}{H:Hp}{s:Shared}{a:Addr}{xs ys:List V}
theorem SqL.of {K:Frag}(h:H a=some (.lst xs)):SqL K H a xs:=.inl (.inl h)
theorem SqT.of {K:Frag}(h:H a=some (.tup xs)):SqT K H a xs:=.inl (.inl h)
theorem Inv.list (I:Inv X pins σ H s)(h:SqL X.K H a xs):∃ its:List Value,Vals xs its∧PlainL s.heap a its.toArray∧xs.length≤sizeLine:=by
  rcases h with h | ⟨o,its,n,hk,hc,hd,hs,hz,r⟩
  · obtain ⟨z,its,n,r,e⟩:=h.ok I.hok
    exact ⟨its,r,⟨_,n,e,rfl,rfl,rfl⟩,z⟩
  · refine ⟨its.toList,r,⟨o,n,I.kIn a o hk,hc,hd,by simpa using hs⟩,?_⟩
    have e:=r.length;simp only[yau]at e;omega
theorem Inv.tuple (I:Inv X pins σ H s)(h:SqT X.K H a xs):∃ its:List Value,Vals xs its∧IsTup s.heap a its.toArray∧xs.length≤sizeLine:=by
  rcases h with h | ⟨o,its,n,hk,hc,hs,hz,r⟩
  · obtain ⟨z,its,r,p⟩:=h.ok I.hok
    exact ⟨its,r,p,z⟩
  · refine ⟨its.toList,r,⟨o,I.kIn a o hk,hc,n,by simpa using hs⟩,?_⟩
    have e:=r.length;simp only[yau]at e;omega
theorem Inv.list_inj (I:Inv X pins σ H s)(h:SqL X.K H a xs)(h':SqL X.K H a ys):xs=ys:=by
  obtain ⟨its,r,⟨o,n,e,_,_,d⟩,_⟩:=I.list h;obtain ⟨its',r',⟨o',n',e',_,_,d'⟩,_⟩:=I.list h';rw[e]at e';cases e'
  rw[d]at d';injection d' with d1 _;have:its=its':=by simpa using congrArg Array.toList d1
  subst this;exact r.inj r'
theorem Inv.tuple_inj (I:Inv X pins σ H s)(h:SqT X.K H a xs)(h':SqT X.K H a ys):xs=ys:=by
  obtain ⟨its,r,⟨o,e,_,n,d⟩,_⟩:=I.tuple h;obtain ⟨its',r',⟨o',e',_,n',d'⟩,_⟩:=I.tuple h';rw[e]at e';cases e'
  rw[d]at d';injection d' with d1 _;have:its=its':=by simpa using congrArg Array.toList d1
  subst this;exact r.inj r'
end
abbrev Cx.wish (X:Cx)(E:Value→Shared→Prop):Cx:={ X with xe:=E }
abbrev Cx.nox (X:Cx):Cx:=X.wish fun _ _=>False
theorem Cx.Ok.wish {X:Cx}(ok:X.Ok)(E:Value→Shared→Prop):(X.wish E).Ok:=
  ⟨ok.mod,ok.kind,ok.glob,ok.blt,ok.above,ok.inj,ok.has,ok.cab,ok.hd,ok.frames,ok.stk,ok.exf,ok.bs,ok.bsz,ok.noex,ok.exfs,ok.funs,ok.frf⟩
theorem Cx.Ok.unwish {X:Cx}{E:Value→Shared→Prop}(ok:(X.wish E).Ok):X.Ok:=
  ⟨ok.mod,ok.kind,ok.glob,ok.blt,ok.above,ok.inj,ok.has,ok.cab,ok.hd,ok.frames,ok.stk,ok.exf,ok.bs,ok.bsz,ok.noex,ok.exfs,ok.funs,ok.frf⟩
section
variable {X:Cx}{pins:List (Addr×Obj)}{σ:St}{H:Hp}{s:Shared}{E:Value→Shared→Prop}
theorem Inv.wish (I:Inv X pins σ H s)(E:Value→Shared→Prop):Inv (X.wish E) pins σ H s:=⟨I.ok.wish E,I.os,I.bare,I.base,I.loc,I.cell,I.free,I.freeC,I.pin,I.hok,I.len⟩
theorem Inv.unwish (I:Inv (X.wish E) pins σ H s):Inv X pins σ H s:=⟨I.ok.unwish,I.os,I.bare,I.base,I.loc,I.cell,I.free,I.freeC,I.pin,I.hok,I.len⟩
theorem SP.unwish {D:Ends}{f:Flow}{s':Shared}(h:SP (X.wish E) pins D f s'):SP X pins D f s':=by
  cases f with
  | next=>obtain ⟨σ',H',I,q⟩:=h;exact ⟨σ',H',I.unwish,q⟩
  | brk=>obtain ⟨σ',H',I,q⟩:=h;exact ⟨σ',H',I.unwish,q⟩
  | cont=>obtain ⟨σ',H',I,q⟩:=h;exact ⟨σ',H',I.unwish,q⟩
  | ret u=>obtain ⟨v,σ',H',I,r,q⟩:=h;exact ⟨v,σ',H',I.unwish,r,q⟩
theorem PSs.nox {st:List Stmt}{t:TS}(h:PSs X.nox st t):PSs X st t:=fun pins s σ H D I hw=>
  wpAny_mono (h pins s σ H D (I.wish _) hw) (fun _ _ q=>q.unwish) fun _ _ z=>False.elim z
end
section
variable {X:Cx}{st:Stmt}{rest:List Stmt}{t u:TS}{e:Expr}{te:TE}{pos:Pos}
def zrs:TS:=fun D σ H=>D.nx σ H
def tSeq (t u:TS):TS:=fun D σ H=>t { D with nx:=u D } σ H
theorem zaB:PSs X [] zrs:=fun _ _ σ H _ I h=>wpAny_execs_nil ⟨σ,H,I,h⟩
theorem zah (h1:PS X st t)(h2:PSs X rest u):PSs X (st::rest) (tSeq t u):=by
  intro pins s σ H D I h;refine wpAny_execs_cons (thn (h1 pins s σ H { D with nx:=u D } I h) fun f s1 q=>?_);cases f with
  | next=>
    obtain ⟨σ',H',I',q⟩:=q;exact h2 pins s1 σ' H' D I' q
  | ret v=>exact q
  | brk=>exact q
  | cont=>exact q
theorem zaf (h1:PS X st t):PSs X [st] t:=by
  intro pins s σ H D I h;refine wpAny_execs_cons (thn (h1 pins s σ H D I h) fun f s1 q=>?_);cases f with
  | next=>exact wpAny_execs_nil q
  | ret v=>exact q
  | brk=>exact q
  | cont=>exact q
theorem Inv.quiet {pins:List (Addr×Obj)}{σ:St}{H:Hp}{s:Shared}(I:Inv X pins σ H s):interactive X.env=false:=by simp[interactive,I.ok.kind]
def zrt (te:TE):TS:=fun D σ H=>te σ H fun _ H1=>D.nx σ H1
theorem zbv (he:PE X e te)(hs:swapsWith e none pos.line X.env=pure false:=by rfl):PS X (.Expr e pos) (zrt te):=by
  intro pins s σ H D I h;exact wpAny_Expr_any (thn (he pins s σ H _ I h) fun v s1 zq0=>(by obtain ⟨x,H1,I1,r1,q1⟩:=zq0;exact ⟨σ,H1,I1,q1⟩)) I.quiet hs
def tRet (te:TE):TS:=fun D σ H=>te σ H D.rt
theorem zat (he:PE X e te):PS X (.Return (some e) pos) (tRet te):=by
  intro pins s σ H D I h;exact wpAny_Return_some (thn (he pins s σ H _ I h) fun v s1 zq0=>(by obtain ⟨x,H1,I1,r1,q1⟩:=zq0;exact ⟨x,σ,H1,I1,r1,q1⟩))
def tIfS (c:TT)(t u:TS):TS:=fun D σ H=>c σ H fun b H1=>if b=true then t D σ H1 else u D σ H1
theorem zbk {c:Expr}{a b:List Stmt}{tc:TT}(hc:PT X c tc)(ha:PSs X a t)(hb:PSs X b u):PS X (.If c a b pos) (tIfS tc t u):=by
  intro pins s σ H D I h;refine wpAny_If (thn (hc pins s σ H _ I h) fun d s1 zq0=>?_);obtain ⟨H1,I1,q1⟩:=zq0;cases d with
  | true=>exact ha pins s1 σ H1 D I1 q1
  | false=>exact hb pins s1 σ H1 D I1 q1
def zqf:TS:=fun _ _ _=>False
theorem znv:PS X st zqf:=fun _ _ _ _ _ _ h=>h.elim
end
abbrev TG:=V→St→Hp→(St→Hp→Prop)→Prop
abbrev TGs:=List V→St→Hp→(St→Hp→Prop)→Prop
def PG (X:Cx)(target:Expr)(t:TG):Prop:=
  ∀(pins:List (Addr×Obj)) (s:Shared) (σ:St) (H:Hp) (v:V) (u:Value) (Q:St→Hp→Prop),Inv X pins σ H s→RelV v u→t v σ H Q→
    wpAny (model X.prog X.w) X.A (assign target X.env u) (fun _ s'=>∃ σ' H',Inv X pins σ' H' s'∧Q σ' H') X.xe s
def PGs (X:Cx)(ts:List Expr)(t:TGs):Prop:=
  ∀(pins:List (Addr×Obj)) (s:Shared) (σ:St) (H:Hp) (vs:List V) (us:List Value) (Q:St→Hp→Prop),Inv X pins σ H s→Vals vs us→t vs σ H Q→
    wpAny (model X.prog X.w) X.A (assignInOrder ((assignEach ts X.env).map (·.2)) us) (fun _ s'=>∃ σ' H',Inv X pins σ' H' s'∧Q σ' H') X.xe s
abbrev TSet:=V→V→V→Hp→(Hp→Prop)→Prop
def PSet (X:Cx)(t:TSet):Prop:=
  ∀(pins:List (Addr×Obj)) (s:Shared) (σ:St) (H:Hp) (o i v:V) (ov iv u:Value) (Q:Hp→Prop),Inv X pins σ H s→RelV o ov→RelV i iv→RelV v u→t o i v H Q→
    wpAny (model X.prog X.w) X.A (setItem ov iv u) (fun _ s'=>∃ H',Inv X pins σ H' s'∧Q H') X.xe s
section
variable {X:Cx}{pos:Pos}
def zhN (i:Nat):TG:=fun v σ H Q=>Q (σ.set i (some v)) H
theorem zan {i:Nat}{x:Str}(hN:X.N.Nodup)(hi:X.N[i]?=some x)(hx:Loc X.env.scope x)(hf:X.fn x=true∨X.env.scope.names.lookup x=some .local:=by first | exact .inl rfl | exact .inr rfl | assumption):PG X (.Name x pos) (zhN i):=by
  intro pins s σ H v u Q I r h;exact wpAny_assign_Name (zjA I hN hi hx r (fun s' I'=>⟨_,H,I',h⟩) hf)
def gNil:TGs:=fun vs σ H Q=>vs=[]∧Q σ H
def zrL (t:TG)(u:TGs):TGs:=fun vs σ H Q=>∃ v r,vs=v::r∧t v σ H fun σ' H'=>u r σ' H' Q
theorem zdx:PGs X [] gNil:=by
  intro pins s σ H vs us Q I r h;obtain ⟨e,h⟩:=h;subst e;cases r
  exact assignInOrder_nil ⟨σ,H,I,h⟩
theorem za5 {e:Expr}{es:List Expr}{t:TG}{u:TGs}(h1:PG X e t)(h2:PGs X es u)
    (hs:(assignEach (e::es) X.env).map (·.2)=assign e X.env::(assignEach es X.env).map (·.2):=by rfl):PGs X (e::es) (zrL t u):=by
  intro pins s σ H vs us Q I r h;obtain ⟨v,vr,e1,h⟩:=h;subst e1;cases r with
  | cons r rr=>
    rw[hs];refine assignInOrder_cons (thn (h1 pins s σ H _ _ _ I r h) fun _ s1 zq0=>?_);obtain ⟨σ1,H1,I1,q1⟩:=zq0;exact h2 pins s1 σ1 H1 _ _ Q I1 rr q1
def gTup (K:Frag)(n:Nat)(t:TGs):TG:=fun v σ H Q=>∃ a xs,v=.ref a∧SqT K H a xs∧xs.length=n∧t xs σ H Q
theorem zge {es:List Expr}{k:Nat}{t:TGs}{n:Nat}(hc:X.calm=true)(h:PGs X es t)
    (hn:(assignEach es X.env).length=n:=by rfl) (hst:(assignEach es X.env).findIdx? (·.1)=none:=by rfl):PG X (.Tuple es k pos) (gTup X.K n t):=by
  intro pins s σ H v u Q I r hw;obtain ⟨a,xs,e1,hq,hl,hw⟩:=hw;subst e1;cases r
  obtain ⟨its,rv,ht,hz⟩:=I.tuple hq;refine assign_Tuple_tuple (I.ok.hd hc) ht (by simp[hn,← hl,rv.length]) hst fun h' hx=>?_;have I1:Inv X pins σ H { s with heap:=h' }:=I.kept (t':=s.toks) fun b o e=>hx b o (yas (yag e)) e;exact h pins _ σ H xs _ Q I1 (by simpa using rv) hw
def gSub (to ti:TE)(t:TSet):TG:=fun v σ H Q=>to σ H fun o H1=>ti σ H1 fun i H2=>t o i v H2 fun H3=>Q σ H3
theorem zgT {o i:Expr}{to ti:TE}{t:TSet}(ho:PE X o to)(hi:PE X i ti)(hs:PSet X t)
    (ha:∀ v,assign (.Subscript o i pos) X.env v=(do
      let ov ← holding [v] (eval o X.env)
      let iv ← holding [v,ov] (eval i X.env)
      standAt pos
      holding [v,ov,iv] (setItem ov iv v)
      release [v,ov,iv] []):=by intro _;rfl):PG X (.Subscript o i pos) (gSub to ti t):=by
  intro pins s σ H v u Q I r h;rw[ha];refine wpAny_bind (wpAny_holding (thn (ho pins s σ H _ I h) fun ov s1 zq0=>?_));obtain ⟨x,H1,I1,r1,q1⟩:=zq0;refine wpAny_bind (wpAny_holding (thn (hi pins s1 σ H1 _ I1 q1) fun iv s2 zq0=>?_));obtain ⟨y,H2,I2,r2,q2⟩:=zq0;refine wpAny_bind (wpAny_standAt (wpAny_bind (wpAny_holding (thn (hs pins s2 σ H2 x y v ov iv u _ I2 r1 r2 r q2) fun _ s3 zq0=>?_))));obtain ⟨H3,I3,q3⟩:=zq0;exact wpAny_release ⟨σ,H3,I3,q3⟩
def tAsg (te:TE)(g:TG):TS:=fun D σ H=>te σ H fun x H1=>g x σ H1 D.nx
theorem zfD {tg e:Expr}{te:TE}{g:TG}(he:PE X e te)(hg:PG X tg g)(hs:swapsWithSole [tg] e pos.line X.env=pure false:=by rfl)(hw:swappedStores [tg] e X.env=pure none:=by rfl)
    (h1:(assignEach [tg] X.env).map (·.2)=[assign tg X.env]:=by rfl):PS X (.Assign [tg] e pos) (tAsg te g):=by
  intro pins s σ H D I h;refine wpAny_Assign_stores (thn (he pins s σ H _ I h) fun v s1 zq0=>?_) hs hw;obtain ⟨x,H1,I1,r1,q1⟩:=zq0;rw[h1];exact thn (hg pins s1 σ H1 x v _ I1 r1 q1) fun _ s2 q=>q
theorem zap {i:Nat}{x:Str}{e:Expr}{te:TE}{pos':Pos}(hN:X.N.Nodup)(hi:X.N[i]?=some x)(hx:Loc X.env.scope x)(he:PE X e te)(hs:swapsWith e (some (.Name x pos')) pos.line X.env=pure false:=by rfl)(hf:X.fn x=true∨X.env.scope.names.lookup x=some .local:=by first | exact .inl rfl | exact .inr rfl | assumption) :
    PS X (.Assign [.Name x pos'] e pos) (tAsg te (zhN i)):=by
  intro pins s σ H D I h;refine wpAny_Assign_Name (thn (he pins s σ H _ I h) fun v s1 zq0=>?_) hs;obtain ⟨y,H1,I1,r1,q1⟩:=zq0;exact zjA I1 hN hi hx r1 (fun s2 I2=>⟨_,H1,I2,q1⟩) hf
end
section
variable {X:Cx}{pos:Pos}
def zlB (c:TT)(tb:TS):TS:=fun D σ H=>∃ W:Nat→St→Hp→Prop,(∃ m,W m σ H)∧∀ m σ H,W m σ H→
  c σ H fun b H1=>if b=true then ∃ N:St→Hp→Prop,(∀ σ' H',N σ' H'→∃ m',m' < m∧W m' σ' H')∧tb { D with nx:=N,ct:=N,bk:=D.nx } σ H1 else D.nx σ H1
theorem zjT {c:Expr}{body:List Stmt}{tc:TT}{tb:TS}(hp:PassesOwn (model X.prog X.w) X.A X.env X.xe)(hc:PT X c tc)(hb:PSs X body tb):PS X (.While c body [] pos) (zlB tc tb):=by
  intro pins s σ H D I h;obtain ⟨W,⟨m0,w0⟩,turn⟩:=h;refine wpAny_While (codeAny_whileLoop (fun n s'=>∃ σ' H',Inv X pins σ' H' s'∧W n σ' H') ?_ m0 ⟨σ,H,I,w0⟩);rintro n s1 ⟨σ1,H1,I1,w1⟩;refine wpAny_passesOwn hp (thn (hc pins s1 σ1 H1 _ I1 (turn n σ1 H1 w1)) fun b s2 zq0=>?_);obtain ⟨H2,I2,q2⟩:=zq0;cases b with
  | true=>
    obtain ⟨N,hN,q2⟩:=q2;rw[if_pos rfl];refine wpAny_passesOwn hp (thn (hb pins s2 σ1 H2 _ I2 q2) fun f s3 q3=>?_);cases f with
    | next=>
      obtain ⟨σ3,H3,I3,n3⟩:=q3;obtain ⟨m',hm,w3⟩:=hN σ3 H3 n3;exact ⟨m',hm,σ3,H3,I3,w3⟩
    | cont=>
      obtain ⟨σ3,H3,I3,n3⟩:=q3;obtain ⟨m',hm,w3⟩:=hN σ3 H3 n3;exact ⟨m',hm,σ3,H3,I3,w3⟩
    | brk=>exact q3
    | ret v=>exact q3
  | false=>
    rw[if_neg yaA];exact wpAny_execs_nil ⟨σ1,H2,I2,q2⟩
end
structure It where
  go:Nat→Hp→Prop
  yld:Nat→Hp→V→Hp→Prop
  stop:Nat→Hp→Prop
def FpOk (X:Cx)(pins:List (Addr×Obj))(H:Hp)(b:Addr):Prop:=
  H b=none∧b≠X.env.locals∧b∉X.fs∧(b∈X.ex∨X.s₀.heap.objs.size≤b)∧(∀ x c,X.env.cells.lookup x=some c→c≠b)∧∀ p∈X.pn++pins,p.1≠b
theorem Inv.fpOk {X:Cx}{pins:List (Addr×Obj)}{σ:St}{H H':Hp}{s:Shared}{b:Addr}(I:Inv X pins σ H s)(hb:s.heap.objs.size≤b)(hn:H' b=none):FpOk X pins H' b:=by
  refine ⟨hn,ybQ (yaw I.lt hb),I.nofs hb,.inr (yar I.sz hb),fun x c e z=>?_,fun p hp z=>?_⟩
  · obtain ⟨v,q⟩:=I.cell x c e
    exact absurd (yaw q.lt (by rw[z];exact hb)) (yaY _)
  · exact absurd (yaw (yag (I.pin p hp).1) (by rw[z];exact hb)) (yaY _)
structure Turn (P:Program)(w:World)(K:Frag)(tg:Expr)(J:It)(fp:List Addr)(it:Addr)(tn:Nat→Heap→Prop):Prop where
  mem:it∈fp
  obj:∀ i h,tn i h→∀ b∈fp,∃ o,h.get? b=some o∧∀ v,o.data≠.cell v
  keep:∀ i h h',tn i h→(∀ b∈fp,∀ o,h.get? b=some o→h'.get? b=some o)→tn i h'
  item:∀(X:Cx),X.prog=P→X.w=w→X.K=K→X.calm=true→∀(i:Nat) (pins:List (Addr×Obj)) (s:Shared) (σ:St) (H:Hp) (E:Value→Shared→Prop),Inv X pins σ H s→(∀ b∈fp,FpOk X pins H b)→tn i s.heap→J.go i H→
    wpAny (model P w) X.A (pyNext (.ref it)) (fun r s1=>∃ u,r=some u∧
      wpAny (model P w) X.A (letOwnedTupleGo tg (.ref it) u) (fun _ s2=>∃ x H',Inv X pins σ H' s2∧RelV x u∧J.yld i H x H'∧tn (i+1) s2.heap∧∀ b∈fp,H' b=none) E s1) E s
  done:∀(X:Cx),X.prog=P→X.w=w→X.K=K→X.calm=true→∀(i:Nat) (pins:List (Addr×Obj)) (s:Shared) (σ:St) (H:Hp) (E:Value→Shared→Prop),Inv X pins σ H s→(∀ b∈fp,FpOk X pins H b)→tn i s.heap→J.stop i H→
    wpAny (model P w) X.A (pyNext (.ref it)) (fun r s1=>r=none∧Inv X pins σ H s1) E s
  self:∀(A:Around) (i:Nat) (s:Shared) (Q:Value→Shared→Prop) (E:Value→Shared→Prop),tn i s.heap→Q (.ref it) s→wpAny (model P w) A (pyIter (.ref it)) Q E s
abbrev TI:=St→Hp→(It→Hp→Prop)→Prop
def PIE (X:Cx)(pins:List (Addr×Obj))(σ:St)(tg:Expr)(R:It→Hp→Prop)(itv:Value)(s2:Shared):Prop:=
  ∃(it:Addr) (fp:List Addr) (tn:Nat→Heap→Prop) (J:It) (H':Hp),itv=.ref it∧Inv X pins σ H' s2∧Turn X.prog X.w X.K tg J fp it tn∧tn 0 s2.heap∧(∀ b∈fp,FpOk X pins H' b)∧R J H'
def PI (X:Cx)(tg iter:Expr)(wi:TI):Prop:=
  ∀(pins:List (Addr×Obj)) (s:Shared) (σ:St) (H:Hp) (R:It→Hp→Prop),Inv X pins σ H s→wi σ H R→
    wpAny (model X.prog X.w) X.A (eval iter X.env) (fun v s1=>wpAny (model X.prog X.w) X.A (pyIter v) (PIE X pins σ tg R) X.xe s1) X.xe s
theorem zmN {M:Model}{A:Around}{E:Value→Shared→Prop}{s:Shared}{tg:Expr}{it:Addr}{u:Value}{o:Obj}{n:String}{vs:Array Value}{Q:Unit→Shared→Prop}(ho:s.heap.get? it=some o)(hc:o.cls=.type n)(hd:o.data=.fields vs)
    (hn:["enumerate","zip","dict_itemiterator","dict_reverseitemiterator","odict_iterator","itertools.zip_longest","itertools.pairwise"].contains n=false) (hQ:Q () s):wpAny M A (letOwnedTupleGo tg (.ref it) u) Q E s:=by
  unfold letOwnedTupleGo;cases tg <;> first
    | exact wpAny_pure hQ
    | (cases u <;> first
        | exact wpAny_pure hQ
        | (refine wpAny_bind (wpAny_load ho ?_)
           rw[hc,hd];show wpAny M A (if (["enumerate","zip","dict_itemiterator","dict_reverseitemiterator","odict_iterator","itertools.zip_longest","itertools.pairwise"].contains n && vs[0]? == some (rawInt _))=true then _ else _) Q E s
           rw[if_neg (by intro h;rw[hn,Bool.false_and]at h;cases h)]
           exact wpAny_pure hQ))
def Itl (K:Frag)(a:Addr):It:=
  ⟨fun i H=>∃ xs x,SqL K H a xs∧xs[i]?=some x,fun i H x H'=>H'=H∧∀ xs,SqL K H a xs→xs[i]?=some x,fun i H=>∃ xs,SqL K H a xs∧xs.length≤i⟩
def Itt (K:Frag)(a:Addr):It:=
  ⟨fun i H=>∃ xs x,SqT K H a xs∧xs[i]?=some x,fun i H x H'=>H'=H∧∀ xs,SqT K H a xs→xs[i]?=some x,fun i H=>∃ xs,SqT K H a xs∧xs.length≤i⟩
def Itr (lo:Int)(n:Nat):It:=⟨fun i _=>i < n,fun i H x H'=>H'=H∧x=.int (lo+i),fun i _=>n≤i⟩
theorem zhZ {P:Program}{w:World}{K:Frag}{tg:Expr}(a it:Addr):Turn P w K tg (Itl K a) [it] it (fun i h=>h.IsListIter it a i) where
  mem:=by simp
  obj:=fun i h st b hb=>by
    have e:b=it:=by simpa using hb
    subst e;obtain ⟨o,e,c,d⟩:=st;exact ⟨o,e,fun v z=>by rw[d]at z;cases z⟩
  keep:=fun i h h' st k=>st.at fun o e=>k it (by simp) o e
  item:=by
    intro X hP hw hK hc i pins s σ H E I hf st hg;subst hP hw hK;obtain ⟨xs,x,hq,hx⟩:=hg;obtain ⟨its,rv,p,hz⟩:=I.list hq;obtain ⟨u,hu,ru⟩:=rv.get hx;obtain ⟨f0,f1,f2,f3,f4,f5⟩:=hf it (by simp);refine wpAny_pyNext_list_item st p.isList (x:=u) (by simpa using hu) fun h' st' sb=>?_;have I1:Inv X pins σ H { s with heap:=h' }:=I.turned (t':=s.toks) (fun b o hb e=>(sb.2 b hb).trans e) f0 f1 f3 f4 f5;obtain ⟨o,e,c,d⟩:=id st';exact ⟨u,rfl,zmN (s:={ s with heap:=h' }) e c d (by decide) ⟨x,H,I1,ru,⟨rfl,fun ys hy=>by rw[I.list_inj hy hq];exact hx⟩,st',fun b hb=>(hf b hb).1⟩⟩
  done:=by
    intro X hP hw hK hc i pins s σ H E I hf st hg;subst hP hw hK;obtain ⟨xs,hq,hx⟩:=hg;obtain ⟨its,rv,p,hz⟩:=I.list hq;obtain ⟨f0,f1,f2,f3,f4,f5⟩:=hf it (by simp);have hl:=rv.length;exact wpAny_pyNext_list_end (I.ok.hd hc) st p.isList (by simp;omega) fun h' eb=>⟨rfl,I.turned (t':=s.toks) (fun b o hb e=>eb b o hb e) f0 f1 f3 f4 f5⟩
  self:=fun _ _ _ _ _ st h=>wpAny_pyIter_listiter st h
theorem zgM {P:Program}{w:World}{K:Frag}{tg:Expr}(a it:Addr):Turn P w K tg (Itt K a) [it] it (fun i h=>h.IsTupleIter it a i) where
  mem:=by simp
  obj:=fun i h st b hb=>by
    have e:b=it:=by simpa using hb
    subst e;obtain ⟨o,e,c,d⟩:=st;exact ⟨o,e,fun v z=>by rw[d]at z;cases z⟩
  keep:=fun i h h' st k=>st.at fun o e=>k it (by simp) o e
  item:=by
    intro X hP hw hK hc i pins s σ H E I hf st hg;subst hP hw hK;obtain ⟨xs,x,hq,hx⟩:=hg;obtain ⟨its,rv,p,hz⟩:=I.tuple hq;obtain ⟨u,hu,ru⟩:=rv.get hx;obtain ⟨f0,f1,f2,f3,f4,f5⟩:=hf it (by simp);refine wpAny_pyNext_tuple_item st (show s.heap.IsTuple a its.toArray from p) (x:=u) (by simpa using hu) fun h' st' sb=>?_;have I1:Inv X pins σ H { s with heap:=h' }:=I.turned (t':=s.toks) (fun b o hb e=>(sb.2 b hb).trans e) f0 f1 f3 f4 f5;obtain ⟨o,e,c,d⟩:=id st';exact ⟨u,rfl,zmN (s:={ s with heap:=h' }) e c d (by decide) ⟨x,H,I1,ru,⟨rfl,fun ys hy=>by rw[I.tuple_inj hy hq];exact hx⟩,st',fun b hb=>(hf b hb).1⟩⟩
  done:=by
    intro X hP hw hK hc i pins s σ H E I hf st hg;subst hP hw hK;obtain ⟨xs,hq,hx⟩:=hg;obtain ⟨its,rv,p,hz⟩:=I.tuple hq;obtain ⟨f0,f1,f2,f3,f4,f5⟩:=hf it (by simp);have hl:=rv.length;exact wpAny_pyNext_tuple_end (I.ok.hd hc) st (show s.heap.IsTuple a its.toArray from p) (by simp;omega) fun h' eb=>⟨rfl,I.turned (t':=s.toks) (fun b o hb e=>eb b o hb e) f0 f1 f3 f4 f5⟩
  self:=fun _ _ _ _ _ st h=>wpAny_pyIter_tupleiter st h
theorem zkI {P:Program}{w:World}{K:Frag}{tg:Expr}(it:Addr)(lo:Int)(n:Nat):Turn P w K tg (Itr lo n) [it] it (fun i h=>IsRangeIter h it (lo+(i:Nat) * 1) ((n:Int) - (i:Nat)) 1) where
  mem:=by simp
  obj:=fun i h st b hb=>by
    have e:b=it:=by simpa using hb
    subst e;exact ⟨_,st,fun v z=>by
      have z':Data.fields _=Data.cell v:=z;cases z'⟩
  keep:=fun i h h' st k=>k it (by simp) _ st
  item:=by
    intro X hP hw hK hc i pins s σ H E I hf st hg;subst hP hw hK;obtain ⟨f0,f1,f2,f3,f4,f5⟩:=hf it (by simp);have W:=Walks.range (prog:=X.prog) (w:=X.w) (I.ok.hd hc) it lo 1 n;refine W.item i s _ _ hg st fun v h' tk hv st' kk=>?_;obtain ⟨t,rfl⟩:=hv;have I1:Inv X pins σ H { s with heap:=h',toks:=tk }:=I.turned (fun b o hb e=>kk b o (by simpa using hb) e) f0 f1 f3 f4 f5;refine ⟨_,rfl,zmN (s:={ s with heap:=h',toks:=tk }) (n := "range_iterator") st' rfl rfl (by decide) ⟨.int (lo+i),H,I1,⟨t,?_⟩,⟨rfl,rfl⟩,st',fun b hb=>(hf b hb).1⟩⟩;rw[Int.mul_one]
  done:=by
    intro X hP hw hK hc i pins s σ H E I hf st hg;subst hP hw hK;obtain ⟨f0,f1,f2,f3,f4,f5⟩:=hf it (by simp);exact wpAny_pyNext_range_end (I.ok.hd hc) st (by have:n≤i:=hg;omega) fun h' eb=>⟨rfl,I.turned (t':=s.toks) (fun b o hb e=>eb b o hb e) f0 f1 f3 f4 f5⟩
  self:=fun _ _ _ _ _ st h=>wpAny_pyIter_rangeiter st h
end L2
namespace L2
open PySem PySem.Spec PyProof.Rows
section
variable {X:Cx}{tg:Expr}
def zrI (K:Frag)(tl:TE):TI:=fun σ H R=>tl σ H fun x H1=>∃ a,x=.ref a∧(∃ xs,SqL K H1 a xs)∧R (Itl K a) H1
def iTup (K:Frag)(tl:TE):TI:=fun σ H R=>tl σ H fun x H1=>∃ a,x=.ref a∧(∃ xs,SqT K H1 a xs)∧R (Itt K a) H1
theorem zbq {l:Expr}{tl:TE}(hl:PE X l tl):PI X tg l (zrI X.K tl):=by
  intro pins s σ H R I h;refine thn (hl pins s σ H _ I h) fun v s1 zq0=>?_;obtain ⟨x,H1,I1,r1,q1⟩:=zq0;obtain ⟨a,e,⟨xs,hq⟩,q⟩:=q1;subst e;cases r1
  obtain ⟨its,rv,p,hz⟩:=I1.list hq;refine wpAny_pyIter_list p.isList ?_;refine ⟨s1.heap.objs.size,[s1.heap.objs.size],_,_,H1,rfl,I1.kept (t':=s1.toks) fun b o e=>yan _ e,zhZ a _,⟨_,yaK _ rfl,rfl,rfl⟩,fun b hb=>?_,q⟩;have e:b=s1.heap.objs.size:=by simpa using hb
  subst e;exact I1.fpOk (yaa _) (I1.hok.fresh (yaa _))
theorem zeh {l:Expr}{tl:TE}(hl:PE X l tl):PI X tg l (iTup X.K tl):=by
  intro pins s σ H R I h;refine thn (hl pins s σ H _ I h) fun v s1 zq0=>?_;obtain ⟨x,H1,I1,r1,q1⟩:=zq0;obtain ⟨a,e,⟨xs,hq⟩,q⟩:=q1;subst e;cases r1
  obtain ⟨its,rv,p,hz⟩:=I1.tuple hq;refine wpAny_pyIter_tuple (show s1.heap.IsTuple a its.toArray from p) ?_;refine ⟨s1.heap.objs.size,[s1.heap.objs.size],_,_,H1,rfl,I1.kept (t':=s1.toks) fun b o e=>yan _ e,zgM a _,⟨_,yaK _ rfl,rfl,rfl⟩,fun b hb=>?_,q⟩;have e:b=s1.heap.objs.size:=by simpa using hb
  subst e;exact I1.fpOk (yaa _) (I1.hok.fresh (yaa _))
theorem zjR {pins:List (Addr×Obj)}{σ:St}{H:Hp}{s:Shared}{R:It→Hp→Prop}{E:Value→Shared→Prop}{lo hi:Int}{t u v:Tok}{tk:Nat}(I:Inv X pins σ H s)(h1:-(2 ^ 62)≤lo)(h2:lo < 2 ^ 62)(h3:-(2 ^ 62)≤hi)(h4:hi < 2 ^ 62)
    (q:R (Itr lo (hi - lo).toNat) H):wpAny (model X.prog X.w) X.A (pyIter (.ref s.heap.objs.size)) (PIE X pins σ tg R) E { s with heap:=s.heap.push { cls:=.type "range",data:=.fields #[.int lo t,.int hi u,.int 1 v] },toks:=tk }:=by
  refine wpAny_pyIter_range (IsRange.new ..) (small_one h1 h2 h3 h4) ?_;have I1:Inv X pins σ H { s with heap:=s.heap.push { cls:=.type "range",data:=.fields #[.int lo t,.int hi u,.int 1 v] },toks:=tk }:=I.kept fun b o e=>yan _ e;refine ⟨(s.heap.push { cls:=.type "range",data:=.fields #[.int lo t,.int hi u,.int 1 v] }).objs.size,[(s.heap.push { cls:=.type "range",data:=.fields #[.int lo t,.int hi u,.int 1 v] }).objs.size],_,_,H,rfl,
    I1.kept (t':=tk) fun b o e=>yan _ e,zkI _ lo (hi - lo).toNat,?_,fun b hb=>?_,q⟩
  · have e1:lo+((0:Nat):Int) * 1=lo:=by simp
    have e2:(((hi - lo).toNat:Nat):Int) - ((0:Nat):Int)=Builtin.Range.rangeSize lo hi 1:=by rw[rangeSize_one];split <;> omega
    show IsRangeIter _ _ (lo+((0:Nat):Int) * 1) ((((hi - lo).toNat:Nat):Int) - ((0:Nat):Int)) 1;rw[e1,e2];exact yaK _ rfl
  · have e:b=(s.heap.push { cls:=.type "range",data:=.fields #[.int lo t,.int hi u,.int 1 v] }).objs.size:=by simpa using hb
    subst e;exact I1.fpOk (yaa _) (I1.hok.fresh (yaa _))
def zrH (ta:TA):TI:=fun σ H R=>ta σ H fun vs H1=>∃ j:Int,vs=[.int j]∧-(2 ^ 62)≤j∧j < 2 ^ 62∧R (Itr 0 j.toNat) H1
def zrG (ta:TA):TI:=fun σ H R=>ta σ H fun vs H1=>∃ i j:Int,vs=[.int i,.int j]∧(-(2 ^ 62)≤i∧i < 2 ^ 62∧-(2 ^ 62)≤j∧j < 2 ^ 62)∧R (Itr i (j - i).toNat) H1
theorem zaW {a:Expr}{ta:TA}{p pos:Pos}(hg:Gl X "range")(hm:X.mg "range" = none)(ha:PA X [a] ta)(hs:starEach [a] X.env=[(false,eval a X.env)]:=by rfl):PI X tg (.Call (.Name "range" p) [a] [] pos) (zrH ta):=by
  intro pins s σ H R I h;refine Call_ (zfc I hg hm boot_range (PyProof.Rows.callWith_type1 (thn (ha pos pins s σ H _ I h) fun us s1 zq0=>?_) hs rfl));obtain ⟨vs,H1,I1,r1,q1⟩:=zq0;obtain ⟨j,e,q1,q2,q⟩:=q1;subst e;cases r1 with
  | cons r rr=>
    cases rr
    obtain ⟨t,rfl⟩:=r;exact call_range_1 (zjR I1 (by omega) (by omega) q1 q2 (by simpa using q))
theorem zdv {a b:Expr}{ta:TA}{p pos:Pos}(hg:Gl X "range")(hm:X.mg "range" = none)(ha:PA X [a,b] ta)(hs:starEach [a,b] X.env=[(false,eval a X.env),(false,eval b X.env)]:=by rfl)(hs2:starEach [b] X.env=[(false,eval b X.env)]:=by rfl) :
    PI X tg (.Call (.Name "range" p) [a,b] [] pos) (zrG ta):=by
  intro pins s σ H R I h;refine Call_ (zfc I hg hm boot_range (PyProof.Rows.callWith_type1 (thn (ha pos pins s σ H _ I h) fun us s1 zq0=>?_) (by rw[hs,hs2]) (by rw[hs2];rfl)));obtain ⟨vs,H1,I1,r1,q1⟩:=zq0;obtain ⟨i,j,e,⟨q1,q2,q3,q4⟩,q⟩:=q1;subst e;cases r1 with
  | cons r rr=>
    cases rr with
    | cons r' rr=>
      cases rr
      obtain ⟨t,rfl⟩:=r;obtain ⟨t',rfl⟩:=r';exact call_range_2 (zjR I1 q1 q2 q3 q4 q)
def tFor (wi:TI)(g:TG)(tb:TS):TS:=fun D σ H=>wi σ H fun J H1=>∃ W:Nat→Nat→St→Hp→Prop,(∃ m,W 0 m σ H1)∧∀ i m σ H,W i m σ H→
  (J.stop i H∧D.nx σ H)∨(J.go i H∧∃ N:St→Hp→Prop,(∀ σ' H',N σ' H'→∃ m',m' < m∧W (i+1) m' σ' H')∧∀ x H',J.yld i H x H'→g x σ H' fun σ2 H2=>tb { D with nx:=N,ct:=N,bk:=D.nx } σ2 H2)
def zgS (fp:List Addr)(h:Heap):List (Addr×Obj):=fp.filterMap fun b=>(h.get? b).map fun o=>(b,o)
theorem zcj {fp:List Addr}{h:Heap}{b:Addr}{o:Obj}(hb:b∈fp)(e:h.get? b=some o):(b,o)∈zgS fp h:=List.mem_filterMap.mpr ⟨b,hb,by rw[e];rfl⟩
theorem zmg {fp:List Addr}{h:Heap}{p:Addr×Obj}(hp:p∈zgS fp h):p.1∈fp∧h.get? p.1=some p.2:=by
  obtain ⟨b,hb,e⟩:=List.mem_filterMap.mp hp;cases q:h.get? b with
  | none=>rw[q]at e;cases e
  | some o=>
    rw[q]at e;have e':(b,o)=p:=yae e;subst e';exact ⟨hb,q⟩
theorem Inv.pinned {pins:List (Addr×Obj)}{σ:St}{H:Hp}{s:Shared}{fp:List Addr}(I:Inv X pins σ H s)(hf:∀ b∈fp,FpOk X pins H b)(ho:∀ b∈fp,∃ o,s.heap.get? b=some o∧∀ v,o.data≠.cell v):Inv X (pins++zgS fp s.heap) σ H s:=
  I.pins_of fun p hp=>(yao.mp hp).elim (fun z=>I.pin p (yaz _ z)) fun z=>by
    obtain ⟨hb,e⟩:=zmg z;obtain ⟨f0,f1,f2,_⟩:=hf p.1 hb;obtain ⟨o,e',d⟩:=ho p.1 hb;rw[e]at e';cases e'
    exact ⟨e,f0,f1,f2,d⟩
theorem Inv.unpinned {pins pl:List (Addr×Obj)}{σ:St}{H:Hp}{s:Shared}(I:Inv X (pins++pl) σ H s):Inv X pins σ H s:=I.pins_of fun p hp=>I.pin p (yaz _ (yaZ _ hp))
theorem zaR {iter:Expr}{body:List Stmt}{wi:TI}{g:TG}{tb:TS}{pos:Pos}(hp:PassesOwn (model X.prog X.w) X.A X.env X.xe)(hc:X.calm=true)(hi:PI X tg iter wi)(hg:PG X tg g)(hb:PSs X body tb)
    (hs:∀ x,foldedSetIterable iter X.env x=pure x:=by intro _;rfl):PS X (.For tg iter body [] pos) (tFor wi g tb):=by
  intro pins s σ H D I h;refine wpAny_For (thn (hi pins s σ H _ I h) fun v s1 h1=>thn h1 fun itv s2 h2=>?_) hs;obtain ⟨it,fp,tn,J,H2,e,I2,T,st2,f2,W,⟨m0,w0⟩,turn⟩:=h2;subst e;have stat:∀{H':Hp},(∀ b∈fp,H' b=none)→∀ b∈fp,FpOk X pins H' b:=fun hn b hb=>⟨hn b hb,(f2 b hb).2⟩;refine codeAny_forLoop_any (fun n s'=>∃ i σ' H',Inv X pins σ' H' s'∧tn i s'.heap∧(∀ b∈fp,H' b=none)∧W i n σ' H') ?_ m0 ⟨0,σ,H2,I2,st2,fun b hb=>(f2 b hb).1,w0⟩;rintro n s3 ⟨i,σ3,H3,I3,st3,fr3,w3⟩;rcases turn i n σ3 H3 w3 with ⟨stop,qn⟩ | ⟨go,N,hN,step⟩
  · refine wpAny_passesOwn hp (thn (T.done X rfl rfl rfl hc i pins s3 σ3 H3 X.xe I3 (stat fr3) st3 stop) fun r s4 zq0=>?_)
    obtain ⟨hr,I4⟩:=zq0;subst hr;exact wpAny_execs_nil ⟨σ3,H3,I4,qn⟩
  · refine wpAny_passesOwn hp (thn (T.item X rfl rfl rfl hc i pins s3 σ3 H3 X.xe I3 (stat fr3) st3 go) fun r s4 zq0=>?_)
    obtain ⟨u,hr,h4⟩:=zq0;subst hr;refine wpAny_passesOwn hp (thn h4 fun _ s5 zq0=>?_);obtain ⟨x,H5,I5,r5,y5,st5,fr5⟩:=zq0;have I5':=I5.pinned (stat fr5) (T.obj _ _ st5);refine wpAny_passesOwn hp (thn (hg _ s5 σ3 H5 x u _ I5' r5 (step x H5 y5)) fun _ s6 zq0=>?_);obtain ⟨σ6,H6,I6,q6⟩:=zq0;refine wpAny_passesOwn hp (thn (hb _ s6 σ6 H6 _ I6 q6) fun f s7 q7=>?_);have again:∀{σ7:St} {H7:Hp},Inv X (pins++zgS fp s5.heap) σ7 H7 s7→N σ7 H7→∃ m,m < n∧∃ i σ' H',Inv X pins σ' H' s7∧tn i s7.heap∧(∀ b∈fp,H' b=none)∧W i m σ' H':=fun {σ7 H7} I7 n7=>by
      obtain ⟨m',hm,w7⟩:=hN σ7 H7 n7;refine ⟨m',hm,i+1,σ7,H7,I7.unpinned,T.keep _ _ _ st5 fun b hb o e=>(I7.pin (b,o) (yaz _ (yaz _ (zcj hb e)))).1,fun b hb=>?_,w7⟩;obtain ⟨o,e,d⟩:=T.obj _ _ st5 b hb;exact (I7.pin (b,o) (yaz _ (yaz _ (zcj hb e)))).2.1
    cases f with
    | next=>obtain ⟨σ7,H7,I7,n7⟩:=q7;exact again I7 n7
    | cont=>obtain ⟨σ7,H7,I7,n7⟩:=q7;exact again I7 n7
    | brk=>obtain ⟨σ7,H7,I7,q7⟩:=q7;exact ⟨σ7,H7,I7.unpinned,q7⟩
    | ret v=>obtain ⟨x7,σ7,H7,I7,r7,q7⟩:=q7;exact ⟨x7,σ7,H7,I7.unpinned,r7,q7⟩
end
theorem zcM {K:Frag}{a:Addr}{xs:List V}{g:TG}{tb:TS}{D:Ends}{σ:St}{H:Hp}(Pv:Nat→St→Hp→Prop)(h0:Pv 0 σ H)(hl:∀ i σ H,i≤xs.length→Pv i σ H→SqL K H a xs)
    (hs:∀ i x σ H,xs[i]?=some x→Pv i σ H→g x σ H fun σ2 H2=>tb { D with nx:=Pv (i+1),ct:=Pv (i+1),bk:=D.nx } σ2 H2) (hd:∀ σ H,Pv xs.length σ H→D.nx σ H) :
    ∃ W:Nat→Nat→St→Hp→Prop,(∃ m,W 0 m σ H)∧∀ i m σ H,W i m σ H→
      ((Itl K a).stop i H∧D.nx σ H)∨((Itl K a).go i H∧∃ N:St→Hp→Prop,(∀ σ' H',N σ' H'→∃ m',m' < m∧W (i+1) m' σ' H')∧∀ x H',(Itl K a).yld i H x H'→g x σ H' fun σ2 H2=>tb { D with nx:=N,ct:=N,bk:=D.nx } σ2 H2):=by
  refine ⟨fun i m σ H=>m=xs.length - i∧i≤xs.length∧Pv i σ H,⟨xs.length,by simp,yaF _,h0⟩,?_⟩;rintro i m σ H ⟨rfl,hi,p⟩;have q:=hl i σ H hi p;by_cases hlt:i < xs.length
  · refine .inr ⟨⟨xs,xs[i],q,by simp[hlt]⟩,Pv (i+1),fun σ' H' p'=>⟨xs.length - (i+1),by omega,rfl,hlt,p'⟩,fun x H' y=>?_⟩
    obtain ⟨e,y⟩:=y;subst e;exact hs i x σ _ (y xs q) p
  · have e:i=xs.length:=by omega
    subst e;exact .inl ⟨⟨xs,q,yaa _⟩,hd σ H p⟩
theorem zgp {K:Frag}{a:Addr}{xs:List V}{g:TG}{tb:TS}{D:Ends}{σ:St}{H:Hp}(Pv:Nat→St→Hp→Prop)(h0:Pv 0 σ H)(hl:∀ i σ H,i≤xs.length→Pv i σ H→SqT K H a xs)
    (hs:∀ i x σ H,xs[i]?=some x→Pv i σ H→g x σ H fun σ2 H2=>tb { D with nx:=Pv (i+1),ct:=Pv (i+1),bk:=D.nx } σ2 H2) (hd:∀ σ H,Pv xs.length σ H→D.nx σ H) :
    ∃ W:Nat→Nat→St→Hp→Prop,(∃ m,W 0 m σ H)∧∀ i m σ H,W i m σ H→
      ((Itt K a).stop i H∧D.nx σ H)∨((Itt K a).go i H∧∃ N:St→Hp→Prop,(∀ σ' H',N σ' H'→∃ m',m' < m∧W (i+1) m' σ' H')∧∀ x H',(Itt K a).yld i H x H'→g x σ H' fun σ2 H2=>tb { D with nx:=N,ct:=N,bk:=D.nx } σ2 H2):=by
  refine ⟨fun i m σ H=>m=xs.length - i∧i≤xs.length∧Pv i σ H,⟨xs.length,by simp,yaF _,h0⟩,?_⟩;rintro i m σ H ⟨rfl,hi,p⟩;have q:=hl i σ H hi p;by_cases hlt:i < xs.length
  · refine .inr ⟨⟨xs,xs[i],q,by simp[hlt]⟩,Pv (i+1),fun σ' H' p'=>⟨xs.length - (i+1),by omega,rfl,hlt,p'⟩,fun x H' y=>?_⟩
    obtain ⟨e,y⟩:=y;subst e;exact hs i x σ _ (y xs q) p
  · have e:i=xs.length:=by omega
    subst e;exact .inl ⟨⟨xs,q,yaa _⟩,hd σ H p⟩
theorem zbc {lo:Int}{n:Nat}{g:TG}{tb:TS}{D:Ends}{σ:St}{H:Hp}(Pv:Nat→St→Hp→Prop)(h0:Pv 0 σ H)
    (hs:∀ i σ H,i < n→Pv i σ H→g (.int (lo+i)) σ H fun σ2 H2=>tb { D with nx:=Pv (i+1),ct:=Pv (i+1),bk:=D.nx } σ2 H2) (hd:∀ σ H,Pv n σ H→D.nx σ H) :
    ∃ W:Nat→Nat→St→Hp→Prop,(∃ m,W 0 m σ H)∧∀ i m σ H,W i m σ H→
      ((Itr lo n).stop i H∧D.nx σ H)∨((Itr lo n).go i H∧∃ N:St→Hp→Prop,(∀ σ' H',N σ' H'→∃ m',m' < m∧W (i+1) m' σ' H')∧∀ x H',(Itr lo n).yld i H x H'→g x σ H' fun σ2 H2=>tb { D with nx:=N,ct:=N,bk:=D.nx } σ2 H2):=by
  refine ⟨fun i m σ H=>m=n - i∧i≤n∧Pv i σ H,⟨n,by simp,yaF _,h0⟩,?_⟩;rintro i m σ H ⟨rfl,hi,p⟩;by_cases hlt:i < n
  · refine .inr ⟨hlt,Pv (i+1),fun σ' H' p'=>⟨n - (i+1),by omega,rfl,hlt,p'⟩,fun x H' y=>?_⟩
    obtain ⟨e,y⟩:=y;subst e y;exact hs i σ _ hlt p
  · have e:i=n:=by omega
    subst e;exact .inl ⟨yaa _,hd σ H p⟩
theorem zjx {c:TT}{tb:TS}{D:Ends}{σ:St}{H:Hp}(Pv:St→Hp→Prop)(μ:St→Hp→Nat)(h0:Pv σ H)
    (hs:∀ σ H,Pv σ H→c σ H fun b H1=>if b=true then tb { D with nx:=fun σ' H'=>Pv σ' H'∧μ σ' H' < μ σ H,ct:=fun σ' H'=>Pv σ' H'∧μ σ' H' < μ σ H,bk:=D.nx } σ H1 else D.nx σ H1)
    (mono:∀ σ H Q Q',(∀ b H1,Q b H1→Q' b H1)→c σ H Q→c σ H Q'):zlB c tb D σ H:=by
  refine ⟨fun m σ H=>m=μ σ H∧Pv σ H,⟨_,rfl,h0⟩,?_⟩;rintro m σ H ⟨rfl,p⟩;refine mono σ H _ _ (fun b H1 q=>?_) (hs σ H p);cases b with
  | true=>exact ⟨_,fun σ' H' ⟨p',l⟩=>⟨_,l,rfl,p'⟩,q⟩
  | false=>exact q
end L2
namespace L2
open PySem PySem.Spec PyProof.Rows
abbrev R2:=V→V→Hp→VK→Prop
def OpR (X:Cx)(f:Value→Value→Sem Value)(r:R2):Prop:=
  ∀(pins:List (Addr×Obj)) (s:Shared) (σ:St) (H:Hp) (x y:V) (v u:Value) (Q:VK),Inv X pins σ H s→RelV x v→RelV y u→r x y H Q→
    wpAny (model X.prog X.w) X.A (f v u) (EP X pins σ Q) X.xe s
def UnR (X:Cx)(f:Value→Sem Value)(r:V→Hp→VK→Prop):Prop:=
  ∀(pins:List (Addr×Obj)) (s:Shared) (σ:St) (H:Hp) (x:V) (v:Value) (Q:VK),Inv X pins σ H s→RelV x v→r x H Q→
    wpAny (model X.prog X.w) X.A (f v) (EP X pins σ Q) X.xe s
def zey (X:Cx)(f:Value)(r:List V→Hp→VK→Prop):Prop:=
  ∀(pins:List (Addr×Obj)) (s:Shared) (σ:St) (H:Hp) (xs:List V) (us:List Value) (Q:VK),Inv X pins σ H s→Vals xs us→r xs H Q→
    wpAny (model X.prog X.w) X.A (call f us) (EP X pins σ Q) X.xe s
def tOp (r:R2)(ta tb:TE):TE:=fun σ H Q=>ta σ H fun x H1=>tb σ H1 fun y H2=>r x y H2 Q
def tUn (r:V→Hp→VK→Prop)(ta:TE):TE:=fun σ H Q=>ta σ H fun x H1=>r x H1 Q
def rI (C:Int→Int→Prop)(g:Int→Int→V):R2:=fun x y H Q=>∃ i j,x=.int i∧y=.int j∧C i j∧Q (g i j) H
def rI0 (g:Int→Int→V):R2:=fun x y H Q=>∃ i j,x=.int i∧y=.int j∧Q (g i j) H
def rU (g:Int→V):V→Hp→VK→Prop:=fun x H Q=>∃ i,x=.int i∧Q (g i) H
section
variable {X:Cx}{a b c:Expr}{ta tb tc:TE}{pos:Pos}
theorem binT (ha:PE X a ta)(hb:PE X b tb){pins:List (Addr×Obj)}{s:Shared}{σ:St}{H:Hp}{R:V→V→Hp→Prop}(I:Inv X pins σ H s)
    (h:ta σ H fun x H1=>tb σ H1 fun y H2=>R x y H2) {Q:Value→Shared→Prop} {f:Value→Value→Sem Value}
    (hf:∀ v u s2 x y H2,Inv X pins σ H2 s2→RelV x v→RelV y u→R x y H2→wpAny (model X.prog X.w) X.A (f v u) Q X.xe s2) :
    wpAny (model X.prog X.w) X.A (eval a X.env) (fun v s₁=>wpAny (model X.prog X.w) X.A (eval b X.env) (fun u s₂=>wpAny (model X.prog X.w) X.A (f v u) Q X.xe s₂) X.xe s₁) X.xe s:=by
  refine thn (ha pins s σ H _ I h) fun v s1 zq0=>?_;obtain ⟨x,H1,I1,r1,q1⟩:=zq0;refine thn (hb pins s1 σ H1 _ I1 q1) fun u s2 zq0=>?_;obtain ⟨y,H2,I2,r2,q2⟩:=zq0;exact hf v u s2 x y H2 I2 r1 r2 q2
theorem zao {op:Operator}{r:R2}(ho:OpR X (binaryOp op) r)(ha:PE X a ta)(hb:PE X b tb):PE X (.BinOp a op b pos) (tOp r ta tb):=by
  intro pins s σ H Q I h;exact wpAny_BinOp (binT ha hb I h fun v u s2 x y H2 I2 rx ry q=>ho pins s2 σ H2 x y v u Q I2 rx ry q)
theorem zgG {op:UnaryOp}{r:V→Hp→VK→Prop}(ho:UnR X (unaryOp op) r)(ha:PE X a ta):PE X (.UnaryOp op a pos) (tUn r ta):=by
  intro pins s σ H Q I h;exact UnaryOp_ (thn (ha pins s σ H _ I h) fun v s1 zq0=>(by obtain ⟨x,H1,I1,r1,q1⟩:=zq0;exact ho pins s1 σ H1 x v Q I1 r1 q1))
theorem opI {f:Value→Value→Sem Value}{C:Int→Int→Prop}{g:Int→Int→Int}
    (rule:∀(i j:Int) (t u:Tok) (s:Shared) (Q:Value→Shared→Prop) (E:Value→Shared→Prop),C i j→Q (.int (g i j) s.toks) { s with toks:=s.toks+1 }→wpAny (model X.prog X.w) X.A (f (.int i t) (.int j u)) Q E s) :
    OpR X f (rI C fun i j=>.int (g i j)):=by
  intro pins s σ H x y v u Q I rx ry h;obtain ⟨i,j,rfl,rfl,hc,q⟩:=h;obtain ⟨t,rfl⟩:=rx;obtain ⟨t',rfl⟩:=ry;exact rule i j t t' s _ _ hc ⟨.int (g i j),H,I.tok _,⟨_,rfl⟩,q⟩
theorem opI0 {f:Value→Value→Sem Value}{g:Int→Int→Int}
    (rule:∀(i j:Int) (t u:Tok) (s:Shared) (Q:Value→Shared→Prop) (E:Value→Shared→Prop),Q (.int (g i j) s.toks) { s with toks:=s.toks+1 }→wpAny (model X.prog X.w) X.A (f (.int i t) (.int j u)) Q E s) :
    OpR X f (rI0 fun i j=>.int (g i j)):=by
  intro pins s σ H x y v u Q I rx ry h;obtain ⟨i,j,rfl,rfl,q⟩:=h;obtain ⟨t,rfl⟩:=rx;obtain ⟨t',rfl⟩:=ry;exact rule i j t t' s _ _ ⟨.int (g i j),H,I.tok _,⟨_,rfl⟩,q⟩
theorem opB0 {f:Value→Value→Sem Value}{g:Int→Int→Bool}
    (rule:∀(i j:Int) (t u:Tok) (s:Shared) (Q:Value→Shared→Prop) (E:Value→Shared→Prop),Q (.bool (g i j)) s→wpAny (model X.prog X.w) X.A (f (.int i t) (.int j u)) Q E s) :
    OpR X f (rI0 fun i j=>.bl (g i j)):=by
  intro pins s σ H x y v u Q I rx ry h;obtain ⟨i,j,rfl,rfl,q⟩:=h;obtain ⟨t,rfl⟩:=rx;obtain ⟨t',rfl⟩:=ry;exact rule i j t t' s _ _ ⟨.bl (g i j),H,I,rfl,q⟩
def CDiv (i j:Int):Prop:=0 < j∧j < 1073741824
def CPow (i j:Int):Prop:=0≤j∧j≤1000000∧i.natAbs < 2 ^ 64
def CMul (i j:Int):Prop:=(-(2 ^ 64) < i∧i < 2 ^ 64)∨(-(2 ^ 64) < j∧j < 2 ^ 64)
theorem CMul.ok {i j:Int}(h:CMul i j):IntMulOk i j:=by
  rcases h with ⟨h1,h2⟩ | ⟨h1,h2⟩
  · exact .of_left (intBits_le_64 h1 h2)
  · exact .of_right (intBits_le_64 h1 h2)
theorem zkH (k:Nat):(0:Int)≤2 ^ k:=by
  rw[two_pow_cast];exact ybx _
theorem zaO:OpR X (binaryOp .Add) (rI0 fun i j=>.int (i+j)):=opI0 fun _ _ _ _ _ _ _ q=>add_int q
theorem zbb:OpR X (binaryOp .Sub) (rI0 fun i j=>.int (i - j)):=opI0 fun _ _ _ _ _ _ _ q=>sub_int q
theorem zb1:OpR X (binaryOp .Mult) (rI CMul fun i j=>.int (i * j)):=opI fun _ _ _ _ _ _ _ hc q=>mul_int q hc.ok
theorem zhC:OpR X (binaryOp .FloorDiv) (rI CDiv fun i j=>.int (i / j)):=opI fun i j _ _ _ _ _ hc q=>by
  have h1:(0:Int) < j:=hc.1;have h2:j < 1073741824:=hc.2;exact floordiv_int (by omega) (by rw[Int.fdiv_eq_ediv_of_nonneg i (by omega)];exact q) (.inl (PyProof.noPylong_small (by omega)))
theorem zdl:OpR X (binaryOp .Mod) (rI (fun _ j=>0 < j) fun i j=>.int (i % j)):=opI fun i j _ _ _ _ _ hc q=>by
  have h1:(0:Int) < j:=hc;exact mod_int' (by omega) (by rw[Int.fmod_eq_emod_of_nonneg i (by omega)];exact q)
theorem ze6:OpR X (binaryOp .Pow) (rI CPow fun i j=>.int (i ^ j.toNat)):=opI fun _ _ _ _ _ _ _ hc q=>pow_int_small hc.1 hc.2.1 hc.2.2 q
theorem zqH:OpR X (binaryOp .RShift) (rI (fun _ j=>0≤j) fun i j=>.int (i / 2 ^ j.toNat)):=opI fun i j _ _ _ _ _ hc q=>
  rshift_int hc (by rw[Int.fdiv_eq_ediv_of_nonneg i (zkH _)];exact q)
theorem zoM:OpR X (binaryOp .BitAnd) (rI0 fun i j=>.int (Builtin.bitAnd i j)):=opI0 fun _ _ _ _ _ _ _ q=>and_int q
theorem zqG:OpR X (binaryOp .BitXor) (rI0 fun i j=>.int (Builtin.bitXor i j)):=opI0 fun _ _ _ _ _ _ _ q=>xor_int q
theorem unI {f:Value→Sem Value}{g:Int→Int}
    (rule:∀(i:Int) (t:Tok) (s:Shared) (Q:Value→Shared→Prop) (E:Value→Shared→Prop),Q (.int (g i) s.toks) { s with toks:=s.toks+1 }→wpAny (model X.prog X.w) X.A (f (.int i t)) Q E s) :
    UnR X f (rU fun i=>.int (g i)):=by
  intro pins s σ H x v Q I rx h;obtain ⟨i,rfl,q⟩:=h;obtain ⟨t,rfl⟩:=rx;exact rule i t s _ _ ⟨.int (g i),H,I.tok _,⟨_,rfl⟩,q⟩
theorem zeg:UnR X (unaryOp .USub) (rU fun i=>.int (-i)):=unI fun _ _ _ _ _ q=>neg_int q
end
def scal:V→V→Bool
  | .non,.non=>true | .non,.int _=>true | .int _,.non=>true | .non,.bl _=>true | .bl _,.non=>true | .non,.str _=>true | .str _,.non=>true
  | .int _,.int _=>true | .bl _,.bl _=>true | .str _,.str _=>true | .byt _,.byt _=>true
  | .int _,.str _=>true | .str _,.int _=>true | .bl _,.str _=>true | .str _,.bl _=>true
  | _,_=>false
def rEq:R2:=fun x y H Q=>scal x y=true∧Q (.bl (decide (x=y))) H
def rNe:R2:=fun x y H Q=>scal x y=true∧Q (.bl (!decide (x=y))) H
theorem zmX {i j:Int}:decide (V.int i=V.int j)=(i == j):=by
  rw[ybl];simp
theorem zoW {i j:Bool}:decide (V.bl i=V.bl j)=(i == j):=by
  rw[ybl];simp
theorem zmW {i j:Str}:decide (V.str i=V.str j)=(i == j):=by
  rw[ybl];simp
theorem zmY {i j:Array UInt8}:decide (V.byt i=V.byt j)=(i.toList == j.toList):=by
  rw[ybl];cases i
  cases j
  simp
section
variable {X:Cx}{a b c:Expr}{ta tb tc:TE}{pos:Pos}
theorem zaU {pins:List (Addr×Obj)}{σ:St}{H:Hp}{s:Shared}{Q:VK}{k k':Bool}(I:Inv X pins σ H s)(q:Q (.bl k) H)(e:k=k'):EP X pins σ Q (.bool k') s:=by
  subst e;exact ⟨.bl k,H,I,rfl,q⟩
theorem zcO:OpR X (compareOp .Eq) rEq:=by
  intro pins s σ H x y v u Q I rx ry h;obtain ⟨hs,q⟩:=h;cases x with
  | non=>
    cases rx
    cases y with
    | non=>cases ry;exact PySem.EqNone.eq_none_none (zaU I q (by simp))
    | bl j=>cases ry;exact PySem.EqNone.eq_none_bool (zaU I q (by simp))
    | int j=>obtain ⟨t',rfl⟩:=ry;exact PySem.EqNone.eq_none_int (zaU I q (by simp))
    | str j=>obtain ⟨t',rfl⟩:=ry;exact PySem.EqNone.eq_none_str (zaU I q (by simp))
    | _=>exact absurd (show false=true from hs) yaA
  | bl i=>
    cases rx
    cases y with
    | non=>cases ry;exact PySem.EqNone.eq_bool_none (zaU I q (by simp))
    | bl j=>cases ry;exact eq_bool (zaU I q zoW)
    | str j=>obtain ⟨t',rfl⟩:=ry;exact PySem.EqMixed.eq_bool_str (zaU I q (by simp))
    | _=>exact absurd (show false=true from hs) yaA
  | int i=>
    obtain ⟨t,rfl⟩:=rx;cases y with
    | non=>cases ry;exact PySem.EqNone.eq_int_none (zaU I q (by simp))
    | int j=>obtain ⟨t',rfl⟩:=ry;exact eq_int (zaU I q zmX)
    | str j=>obtain ⟨t',rfl⟩:=ry;exact PySem.EqMixed.eq_int_str (zaU I q (by simp))
    | _=>exact absurd (show false=true from hs) yaA
  | str i=>
    obtain ⟨t,rfl⟩:=rx;cases y with
    | non=>cases ry;exact PySem.EqNone.eq_str_none (zaU I q (by simp))
    | bl j=>cases ry;exact PySem.EqMixed.eq_str_bool (zaU I q (by simp))
    | int j=>obtain ⟨t',rfl⟩:=ry;exact PySem.EqMixed.eq_str_int (zaU I q (by simp))
    | str j=>obtain ⟨t',rfl⟩:=ry;exact eq_str (zaU I q zmW)
    | _=>exact absurd (show false=true from hs) yaA
  | byt i=>
    obtain ⟨t,rfl⟩:=rx;cases y with
    | byt j=>obtain ⟨t',rfl⟩:=ry;exact PySem.W.eq_bytes (zaU I q zmY)
    | _=>exact absurd (show false=true from hs) yaA
  | _=>cases y <;> exact absurd (show false=true from hs) yaA
theorem ziW:OpR X (compareOp .NotEq) rNe:=by
  intro pins s σ H x y v u Q I rx ry h;obtain ⟨hs,q⟩:=h;cases x with
  | non=>
    cases rx
    cases y with
    | non=>cases ry;exact PySem.EqNone.ne_none_none (zaU I q (by simp))
    | bl j=>cases ry;exact PySem.EqNone.ne_none_bool (zaU I q (by simp))
    | int j=>obtain ⟨t',rfl⟩:=ry;exact PySem.EqNone.ne_none_int (zaU I q (by simp))
    | str j=>obtain ⟨t',rfl⟩:=ry;exact PySem.EqNone.ne_none_str (zaU I q (by simp))
    | _=>exact absurd (show false=true from hs) yaA
  | bl i=>
    cases rx
    cases y with
    | non=>cases ry;exact PySem.EqNone.ne_bool_none (zaU I q (by simp))
    | bl j=>cases ry;exact ne_bool (zaU I q (congrArg not zoW))
    | str j=>obtain ⟨t',rfl⟩:=ry;exact PySem.EqMixed.ne_bool_str (zaU I q (by simp))
    | _=>exact absurd (show false=true from hs) yaA
  | int i=>
    obtain ⟨t,rfl⟩:=rx;cases y with
    | non=>cases ry;exact PySem.EqNone.ne_int_none (zaU I q (by simp))
    | int j=>obtain ⟨t',rfl⟩:=ry;exact ne_int (zaU I q (congrArg not zmX))
    | str j=>obtain ⟨t',rfl⟩:=ry;exact PySem.EqMixed.ne_int_str (zaU I q (by simp))
    | _=>exact absurd (show false=true from hs) yaA
  | str i=>
    obtain ⟨t,rfl⟩:=rx;cases y with
    | non=>cases ry;exact PySem.EqNone.ne_str_none (zaU I q (by simp))
    | bl j=>cases ry;exact PySem.EqMixed.ne_str_bool (zaU I q (by simp))
    | int j=>obtain ⟨t',rfl⟩:=ry;exact PySem.EqMixed.ne_str_int (zaU I q (by simp))
    | str j=>obtain ⟨t',rfl⟩:=ry;exact ne_str (zaU I q (congrArg not zmW))
    | _=>exact absurd (show false=true from hs) yaA
  | byt i=>
    obtain ⟨t,rfl⟩:=rx;cases y with
    | byt j=>obtain ⟨t',rfl⟩:=ry;exact PySem.W.ne_bytes (zaU I q (congrArg not zmY))
    | _=>exact absurd (show false=true from hs) yaA
  | _=>cases y <;> exact absurd (show false=true from hs) yaA
theorem ziX:OpR X (compareOp .Lt) (rI0 fun i j=>.bl (decide (i < j))):=opB0 fun _ _ _ _ _ _ _ q=>lt_int q
theorem zl3:OpR X (compareOp .LtE) (rI0 fun i j=>.bl (decide (i≤j))):=opB0 fun _ _ _ _ _ _ _ q=>le_int q
theorem znD:OpR X (compareOp .Gt) (rI0 fun i j=>.bl (decide (j < i))):=opB0 fun _ _ _ _ _ _ _ q=>gt_int q
theorem znE:OpR X (compareOp .GtE) (rI0 fun i j=>.bl (decide (j≤i))):=opB0 fun _ _ _ _ _ _ _ q=>ge_int q
theorem zaA (b:Expr){op:CmpOp}(h:op≠.In:=by decide)(h2:op≠.NotIn:=by decide):behindInMarks op b=false:=by
  have e1:(op == CmpOp.In)=false:=by cases op <;> first | rfl | exact absurd rfl h
  have e2:(op == CmpOp.NotIn)=false:=by cases op <;> first | rfl | exact absurd rfl h2
  cases b <;> simp[behindInMarks,e1,e2]
theorem zgf {op:CmpOp}{r:R2}(ho:OpR X (compareOp op) r)(ha:PE X a ta)(hb:PE X b tb)(hm:behindInMarks op b=false):PE X (.Compare a [op] [b] pos) (tOp r ta tb):=by
  intro pins s σ H Q I h;exact wpAny_Compare1 (binT ha hb I h fun v u s2 x y H2 I2 rx ry q=>ho pins s2 σ H2 x y v u Q I2 rx ry q) hm
def zpa (t:TE):TT:=fun σ H Q=>t σ H fun x H'=>∃ k,x=.bl k∧Q k H'
theorem zau {op:CmpOp}{r:R2}(ho:OpR X (compareOp op) r)(ha:PE X a ta)(hb:PE X b tb)(hm:behindInMarks op b=false):PT X (.Compare a [op] [b] pos) (zpa (tOp r ta tb)):=by
  intro pins s σ H Q I h;refine wpAny_isTrue_Compare1 (thn (ha pins s σ H _ I h) fun v s1 ⟨x,H1,I1,r1,q1⟩=>thn (hb pins s1 σ H1 _ I1 q1) fun u s2 ⟨y,H2,I2,r2,q2⟩=>
    thn (ho pins s2 σ H2 x y v u _ I2 r1 r2 q2) fun c s3 ⟨z,H3,I3,r3,k,e,q3⟩=>?_) hm
  subst e;cases r3
  exact wpAny_truthy_bool ⟨H3,I3,q3⟩
def zos (r r':R2)(ta tb tc:TE):TE:=fun σ H Q=>ta σ H fun x H1=>tb σ H1 fun y H2=>r x y H2 fun z H3=>∃ k,z=.bl k∧
  (if k=true then tc σ H3 fun w' H4=>r' y w' H4 Q else Q (.bl false) H3)
theorem zjX {op op':CmpOp}{r r':R2}(ho:OpR X (compareOp op) r)(ho':OpR X (compareOp op') r')(ha:PE X a ta)(hb:PE X b tb)(hc:PE X c tc)
    (hm:lastMarks [op,op'] [b,c]=false:=by with_unfolding_all rfl):PE X (.Compare a [op,op'] [b,c] pos) (zos r r' ta tb tc):=by
  intro pins s σ H Q I h;refine Compare_chain (thn (ha pins s σ H _ I h) fun v s1 ⟨x,H1,I1,r1,q1⟩=>chain_link (thn (hb pins s1 σ H1 _ I1 q1) fun u s2 ⟨y,H2,I2,r2,q2⟩=>
    thn (ho pins s2 σ H2 x y v u _ I2 r1 r2 q2) fun d s3 ⟨z,H3,I3,r3,k,e,q3⟩=>?_)) hm
  subst e;cases r3
  refine wpAny_truthy_bool ?_;cases k with
  | false=>exact ite_ff ⟨.bl false,H3,I3,rfl,q3⟩
  | true=>exact ite_tt (chain_last (thn (hc pins s3 σ H3 _ I3 q3) fun w' s4 ⟨z',H4,I4,r4,q4⟩=>ho' pins s4 σ H4 y z' u w' Q I4 r2 r4 q4))
theorem znt {op op':CmpOp}{r r':R2}(ho:OpR X (compareOp op) r)(ho':OpR X (compareOp op') r')(ha:PE X a ta)(hb:PE X b tb)(hc:PE X c tc)
    (hm:lastMarks [op,op'] [b,c]=false:=by with_unfolding_all rfl):PT X (.Compare a [op,op'] [b,c] pos) (zpa (zos r r' ta tb tc)):=by
  intro pins s σ H Q I h;refine isTrue_chain (thn (ha pins s σ H _ I h) fun v s1 ⟨x,H1,I1,r1,q1⟩=>test_link (thn (hb pins s1 σ H1 _ I1 q1) fun u s2 ⟨y,H2,I2,r2,q2⟩=>
    thn (ho pins s2 σ H2 x y v u _ I2 r1 r2 q2) fun d s3 ⟨z,H3,I3,r3,k,e,q3⟩=>?_)) hm
  subst e;cases r3
  refine wpAny_truthy_bool ?_;cases k with
  | false=>
    obtain ⟨k',e',q'⟩:=q3;cases e'
    exact ite_ff ⟨H3,I3,q'⟩
  | true=>
    refine ite_tt (test_last (thn (hc pins s3 σ H3 _ I3 q3) fun w' s4 zq0=>?_));obtain ⟨z',H4,I4,r4,q4⟩:=zq0;refine thn (ho' pins s4 σ H4 y z' u w' _ I4 r2 r4 q4) fun d' s5 zq1=>?_;obtain ⟨z2,H5,I5,r5,k2,e2,q5⟩:=zq1;subst e2;cases r5
    exact wpAny_truthy_bool ⟨H5,I5,q5⟩
theorem zkb:(sizeLine:Nat) < 2 ^ 63:=by rw[sizeLine_eq];decide
theorem zgF {x:V}{us:List Value}(r:Vals [x] us):∃ u,us=[u]∧RelV x u:=by
  cases r with
  | cons r1 r2=>cases r2;exact ⟨_,rfl,r1⟩
theorem zhY {x y:V}{us:List Value}(r:Vals [x,y] us):∃ u w',us=[u,w']∧RelV x u∧RelV y w':=by
  cases r with
  | cons r1 r2=>
    cases r2 with
    | cons r3 r4=>cases r4;exact ⟨_,_,rfl,r1,r3⟩
theorem zkz:zey X (.builtin "abs") (fun xs H Q=>∃ i,xs=[.int i]∧Q (.int (if i < 0 then -i else i)) H):=by
  intro pins s σ H xs us Q I r h;obtain ⟨i,rfl,q⟩:=h;obtain ⟨u,rfl,t,rfl⟩:=zgF r;exact call_abs_int fun u tk=>⟨.int (if i < 0 then -i else i),H,I.tok _,⟨_,rfl⟩,q⟩
theorem zfl (hc:X.calm=true):zey X (.builtin "max") (fun xs H Q=>∃ i j,xs=[.int i,.int j]∧Q (.int (if j > i then j else i)) H):=by
  intro pins s σ H xs us Q I r h;obtain ⟨i,j,rfl,q⟩:=h;obtain ⟨u,w',rfl,⟨t,rfl⟩,⟨t',rfl⟩⟩:=zhY r;refine max_two_ints (I.ok.hd hc) fun h' tk k=>⟨_,H,I.kept k,?_,q⟩;by_cases hj:j > i
  · rw[if_pos hj,if_pos hj];exact ⟨_,rfl⟩
  · rw[if_neg hj,if_neg hj];exact ⟨_,rfl⟩
theorem zm8 (hc:X.calm=true):zey X (.builtin "min") (fun xs H Q=>∃ i j,xs=[.int i,.int j]∧Q (.int (if j < i then j else i)) H):=by
  intro pins s σ H xs us Q I r h;obtain ⟨i,j,rfl,q⟩:=h;obtain ⟨u,w',rfl,⟨t,rfl⟩,⟨t',rfl⟩⟩:=zhY r;refine min_two_ints (I.ok.hd hc) fun h' tk k=>⟨_,H,I.kept k,?_,q⟩;by_cases hj:j < i
  · rw[if_pos hj,if_pos hj];exact ⟨_,rfl⟩
  · rw[if_neg hj,if_neg hj];exact ⟨_,rfl⟩
end
end L2
namespace L2
open PySem PySem.Spec PyProof.Rows
structure ObjM (h:Heap)(x dx C:Addr)(mA:Str→Option Value):Prop where
  obj:h.get? x=some (PySem.W.instObj C dx)
  ns:h.Ns1 dx mA
  ne:dx≠x
theorem zmp {h:Heap}{dx:Addr}{mA:Str→Option Value}(n:h.Ns1 dx mA):∃ od,h.get? dx=some od∧∀ name,PySem.W.lookIn name od=some (mA name):=by
  obtain ⟨o,es,ep,ho,hd,hk,_,hm⟩:=n;refine ⟨o,ho,fun name=>?_⟩;have e:=hm name;unfold nsFind findBy at e;rw[← Array.find?_toList]at e;unfold PySem.W.lookIn;rw[hd];dsimp only;split
  · rename_i y q
    rw[q]at e;exact congrArg some e
  · rename_i q
    rw[q]at e;have a:es.toList.any (·.refKey)=false:=by
      rw[List.any_eq_false];intro y hy;obtain ⟨z,t,hkey⟩:=hk y (Array.mem_toList_iff.mp hy);simp[DictEntry.refKey,hkey]
    have a':¬ es.toList.any (·.refKey)=true:=by rw[a];exact yaA
    rw[if_neg a'];exact congrArg some e
theorem ObjM.look {h:Heap}{x dx C:Addr}{mA:Str→Option Value}(I:ObjM h x dx C mA):∃ od,PySem.W.InstAt h x (PySem.W.instObj C dx) C (some od)∧∀ name,PySem.W.lookIn name od=some (mA name):=
  let ⟨od,ho,hl⟩:=zmp I.ns
  ⟨od,⟨I.obj,rfl,rfl,ho⟩,hl⟩
theorem RelO.some_of {v:V}{o:Option Value}(r:RelO (some v) o):∃ u,o=some u∧RelV v u:=by
  cases o with
  | none=>exact (show False from r).elim
  | some u=>exact ⟨u,rfl,r⟩
section
variable {P:Program}{w:World}{H H':Hp}{h h':Heap}{a C dx:Addr}{fs fs':List (Str×V)}
theorem zpN (hok:HOk P w H h)(e:H a=some (.ins C dx fs)):∃ mA,ObjM h a dx C mA∧(∀ f,RelO (fs.lookup f) (mA f))∧PySem.Within mA (fs.map (·.1))∧fs.length≤1000∧H dx=some (.own a):=by
  obtain ⟨d,z,ne,ob,mA,n,r,q⟩:=(show zbA P w H h a (.ins C dx fs) from hok a _ e);exact ⟨mA,⟨ob,n,ne⟩,r,q,z,d⟩
end
structure Cls (K:Frag)(C:Addr):Prop where
  pg:PySem.W.plainGet K C Str.empty=true
  hd:PySem.W.hasDictIn K C=true
  po:PySem.W.plainOver K C=true
  sa:findIn K (.ref C) "__setattr__" = some (some (.builtin "object.__setattr__"))
theorem Cls.get {K:Frag}{C:Addr}(c:Cls K C)(f:Str):PySem.W.plainGet K C f=true:=c.pg
section
variable {X:Cx}{pins:List (Addr×Obj)}{σ:St}{H:Hp}{s:Shared}{A:Around}{E:Value→Shared→Prop}{Q:Value→Shared→Prop}{c:Value}{b:Bool}
inductive TyOf (K:Frag)(H:Hp):V→Value→Prop where
  | non:TyOf K H .non (.type "NoneType")
  | bl (x:Bool):TyOf K H (.bl x) (.type "bool")
  | int (i:Int):TyOf K H (.int i) (.type "int")
  | str (x:Str):TyOf K H (.str x) (.type "str")
  | flt (x:UInt64):TyOf K H (.flt x) (.type "float")
  | lst {a:Addr} {xs:List V} (e:H a=some (.lst xs)):TyOf K H (.ref a) (.type "list")
  | frz {a:Addr} {o:Obj} {xs:List V} (e:H a=some (.frz o (.lst xs))):TyOf K H (.ref a) (.type "list")
  | tup {a:Addr} {xs:List V} (e:H a=some (.tup xs)):TyOf K H (.ref a) (.type "tuple")
  | dK {a:Addr} {kvs:List (Key×V)} (e:H a=some (.dK kvs)):TyOf K H (.ref a) (.type "dict")
  | dT {a:Addr} {kvs:List (List Key×V)} (e:H a=some (.dT kvs)):TyOf K H (.ref a) (.type "dict")
  | ins {a C dx:Addr} {fs:List (Str×V)} (e:H a=some (.ins C dx fs)) (cl:Cls K C) (ha:findIn K (.ref C) "__class__" = some (some (.builtin "object.__class__")))
      (hn:PySem.W.specialIn K (.builtin "object.__class__") "__get__" = some (some (.builtin "getset_descriptor.__get__"))) (htk:PySem.W.takesIn K (.builtin "object.__class__")=some true)
      (hm:mroIn K C (.type "object")=some true):TyOf K H (.ref a) (.ref C)
theorem zmE {x:V}{u t:Value}(I:Inv X pins σ H s)(rx:RelV x u)(ty:TyOf X.K H x t)(e:kitOne X.K t c=some b)(h:∀ tk,Q (.bool b) { s with toks:=tk }) :
    wpAny (model X.prog X.w) A (call (.builtin "isinstance") [u,c]) Q E s:=by
  cases ty with
  | non=>cases (show u=Value.none from rx);exact PySem.W.kia_one PySem.W.kitx_none I.kIn True.intro e (fun z=>nomatch z) h
  | bl y=>cases (show u=Value.bool y from rx);exact PySem.W.kia_one PySem.W.kitx_bool I.kIn True.intro e (fun z=>nomatch z) h
  | int i=>obtain ⟨t,q⟩:=(show ∃ t,u=Value.int i t from rx);cases q;exact PySem.W.kia_one PySem.W.kitx_int I.kIn True.intro e (fun z=>nomatch z) h
  | str y=>obtain ⟨t,q⟩:=(show ∃ t,u=Value.str y t from rx);cases q;exact PySem.W.kia_one PySem.W.kitx_str I.kIn True.intro e (fun z=>nomatch z) h
  | flt y=>obtain ⟨t,q⟩:=(show ∃ t,u=Value.float y t from rx);cases q;exact PySem.W.kia_one PySem.W.kitx_float I.kIn True.intro e (fun z=>nomatch z) h
  | @lst a xs ea=>
    cases (show u=Value.ref a from rx)
    obtain ⟨_,_,n,_,h1⟩:=(show zbA X.prog X.w H s.heap a (.lst xs) from I.hok a _ ea);exact PySem.W.kia_one PySem.W.kitx_list I.kIn ⟨_,h1,rfl⟩ e (fun z=>nomatch z) h
  | @frz a ob xs ea=>
    cases (show u=Value.ref a from rx)
    obtain ⟨_,_,_,n,_,h1⟩:=(show zbA X.prog X.w H s.heap a (.frz ob (.lst xs)) from I.hok a _ ea);exact PySem.W.kia_one PySem.W.kitx_list I.kIn ⟨_,h1,rfl⟩ e (fun z=>nomatch z) h
  | @tup a xs ea=>
    cases (show u=Value.ref a from rx)
    obtain ⟨_,_,_,p⟩:=(show zbA X.prog X.w H s.heap a (.tup xs) from I.hok a _ ea);obtain ⟨o,h1,h2,_⟩:=p;exact PySem.W.kia_one PySem.W.kitx_tuple I.kIn ⟨o,h1,h2⟩ e (fun z=>nomatch z) h
  | @dK a kvs ea=>
    cases (show u=Value.ref a from rx)
    obtain ⟨_,_,vs,_,p⟩:=(show zbA X.prog X.w H s.heap a (.dK kvs) from I.hok a _ ea);obtain ⟨o,es,ep,h1,h2,_⟩:=p;exact PySem.W.kia_one PySem.W.kitx_dict I.kIn ⟨o,h1,h2.1⟩ e (fun z=>nomatch z) h
  | @dT a kvs ea=>
    cases (show u=Value.ref a from rx)
    obtain ⟨_,_,xs,_,o,es,ep,h1,h2,_⟩:=(show zbA X.prog X.w H s.heap a (.dT kvs) from I.hok a _ ea);exact PySem.W.kia_one PySem.W.kitx_dict I.kIn ⟨o,h1,h2.1⟩ e (fun z=>nomatch z) h
  | @ins a C dx fs ea cl ha hn htk hm=>
    cases (show u=Value.ref a from rx)
    obtain ⟨mA,O,_⟩:=zpN I.hok ea;obtain ⟨od,J,_⟩:=O.look;exact PySem.W.kia_one (PySem.W.kitx_own (cl.get _) cl.hd ha hn htk hm) I.kIn J e (fun z=>nomatch z) h
end
end L2
namespace L2
open PySem PySem.Spec PyProof.Rows
structure Room (k:Nat)(A:Around):Prop where
  hd:A.handled=none
  dp:A.depth+3 * k+5 < recursionLimit
  un:A.units+16 * k+200 < cLine
  gd:A.guards=some []
theorem Room.mono {j k:Nat}{A:Around}(r:Room k A)(h:j≤k):Room j A:=⟨r.hd,by have:=r.dp;omega,by have:=r.un;omega,r.gd⟩
theorem Room.deeper {k:Nat}{A:Around}(r:Room (k+1) A)(env:Env):Room k (A.deeper env):=
  ⟨r.hd,by have:=r.dp;show A.depth+1+3 * k+5 < _;omega,by have:=r.un;show A.units+3+16 * k+200 < _;omega,r.gd⟩
theorem Room.depth {k:Nat}{A:Around}(r:Room k A):A.depth < recursionLimit:=by have:=r.dp;omega
theorem Room.units {k:Nat}{A:Around}(r:Room k A):A.units+64 < cLine:=by have:=r.un;omega
def tNil:TA:=fun _ H Q=>Q [] H
def zlD (ta:TE)(tr:TA):TA:=fun σ H Q=>ta σ H fun x H1=>tr σ H1 fun xs H2=>Q (x::xs) H2
section
variable {X:Cx}{e:Expr}{es:List Expr}{te:TE}{t:TA}{pos:Pos}
theorem zad:PA X [] tNil:=fun _ _ _ _ H Q I h=>Calls.spliced_nil ⟨[],H,I,.nil,h⟩
theorem zaa (ha:PE X e te)(hr:PA X es t)(hs:starEach (e::es) X.env=(false,eval e X.env)::starEach es X.env:=by rfl):PA X (e::es) (zlD te t):=by
  intro pos pins s σ H Q I h;rw[hs];show wpAny _ _ (spliced ((false,eval e X.env)::backTo pos (starEach es X.env))) _ _ s;refine Calls.spliced_cons (thn (ha pins s σ H _ I h) fun u s1 zq0=>?_);obtain ⟨x,H1,I1,r1,q1⟩:=zq0;exact thn (hr pos pins s1 σ H1 _ I1 q1) fun us s2 zq0=>(by obtain ⟨xs,H2,I2,r2,q2⟩:=zq0;exact ⟨x::xs,H2,I2,.cons r1 r2,q2⟩)
def tTup (t:TA):TE:=fun σ H Q=>t σ H fun xs H1=>xs.length≤sizeLine∧∀ p,H1 p=none→Q (.ref p) (upd H1 p (.tup xs))
def tLst (t:TA):TE:=fun σ H Q=>t σ H fun xs H1=>xs.length≤sizeLine∧∀ p,H1 p=none→Q (.ref p) (upd H1 p (.lst xs))
theorem zbu {x1}(h:PA X es t):PE X (.Tuple es x1 pos) (tTup t):=by
  intro pins s σ H Q I hq;refine wpAny_Tuple_spliced (thn (h pos pins s σ H _ I hq) fun us s1 zq0=>?_);obtain ⟨xs,H1,I1,r,z,q⟩:=zq0;refine ⟨by rw[← r.length];exact z,?_⟩;have hf:H1 s1.heap.objs.size=none:=I1.hok.fresh (yaa _);refine ⟨.ref s1.heap.objs.size,upd H1 s1.heap.objs.size (.tup xs),I1.laid (t':=s1.toks) (fun b u e=>yan _ e) (yaa _) ?_,rfl,q _ hf⟩;exact ⟨z,us,r,⟨_,yaK _ rfl,rfl,_,rfl⟩⟩
theorem zaG (h:PA X es t):PE X (.List es pos) (tLst t):=by
  intro pins s σ H Q I hq;refine wpAny_List_spliced (thn (h pos pins s σ H _ I hq) fun us s1 zq0=>?_);obtain ⟨xs,H1,I1,r,z,q⟩:=zq0;refine ⟨by rw[← r.length];exact z,?_⟩;have hf:H1 s1.heap.objs.size=none:=I1.hok.fresh (yaa _);refine ⟨.ref s1.heap.objs.size,upd H1 s1.heap.objs.size (.lst xs),I1.laid (t':=s1.toks) (fun b u e=>yan _ e) (yaa _) ?_,rfl,q _ hf⟩;exact ⟨z,us,0,r,yaK _ rfl⟩
end
abbrev Sp:=List V→Hp→VK→XK→Prop
abbrev CXT:=List Env→Hp→Shared→XK→Value→Shared→Prop
structure Env0 (P:Program)(w:World)(K:Frag)(mg:Str→Option Value)(base:Heap)(A:Around)(outer:List Env)(s:Shared)(H:Hp):Prop where
  frames:A.frames=some outer
  mod:Mod K mg base
  bs:∀ b o,base.get? b=some o→s.heap.get? b=some o∧H b=none
  bsz:base.objs.size≤s.heap.objs.size
  funs:s.heap.FunFrames base outer
  frf:∀ b∈frs outer,H b=none
  hok:HOk P w H s.heap
  bare:AllBare s.gens
def CE (outer:List Env)(P:Program)(w:World)(H:Hp)(s:Shared)(Q:VK)(u:Value)(s':Shared):Prop:=
  ∃ v H',s'.os=s.os∧AllBare s'.gens∧Un (frs outer) [] H H' s.heap s'.heap∧HOk P w H' s'.heap∧RelV v u∧Q v H'
def CR (CX:CXT)(outer:List Env)(P:Program)(w:World)(H:Hp)(s:Shared)(Q:VK)(E:XK)(r:Result)(s':Shared):Prop:=
  match r with
  | .ok (.ret u)=>CE outer P w H s Q u s'
  | .ok _=>False
  | .error e=>CX outer H s E e s'
structure FnOk (P:Program)(w:World)(K:Frag)(mg:Str→Option Value)(base:Heap)(CX:CXT)(k:Nat)(f:Addr)(fd:FuncData)(ps:List Str)(sp:Sp):Prop where
  len:∀ vs H Q E,sp vs H Q E→vs.length=ps.length
  run:∀(A:Around) (outer:List Env) (s:Shared) (H:Hp) (args:Args) (us:List Value) (vs:List V) (Q:VK) (E:XK),Room k A→Env0 P w K mg base A outer s H→BindsTo s fd args (ps.zip us)→Vals vs us→sp vs H Q E→
    codeAny (model P w) A (.call (.ref f) args) (CR CX outer P w H s Q E) s
section
variable {X:Cx}{pins:List (Addr×Obj)}{σ:St}{H:Hp}{s s':Shared}
theorem Inv.env0 (I:Inv X pins σ H s):Env0 X.prog X.w X.K X.mg X.base X.A X.stack s H:=
  ⟨I.ok.frames,I.ok.mod,I.bs,yar I.ok.bsz I.sz,I.stack,I.stkFree,I.hok,I.bare⟩
theorem Inv.after {Q:VK}{u:Value}(I:Inv X pins σ H s)(h:CE X.stack X.prog X.w H s Q u s'):EP X pins σ Q u s':=by
  obtain ⟨v,H',os,bare,un,hok,r,q⟩:=h;obtain ⟨hh,g,d,t,os'⟩:=s';obtain rfl:os'=s.os:=os;exact ⟨v,H',I.call (h':=hh) (g':=g) (d':=d) (t':=t) (ch:=[]) un hok bare (fun b z=>absurd z (by simp)),r,q⟩
end
def zqj (sp:Sp)(dvs:List V)(E:XK)(t:TA):TE:=fun σ H Q=>t σ H fun vs H1=>sp (vs++dvs) H1 Q E
def zjt (K:Frag)(fd:FuncData)(ps:List Str)(ds:List Value):Prop:=
  ∀(s:Shared) (us:List Value),K.In s.heap→(us++ds).length=ps.length→BindsTo s fd ⟨us,[]⟩ (ps.zip (us++ds))
theorem zjt.all {K:Frag}{fd:FuncData}{ps:List Str}(h:∀ us:List Value,us.length=ps.length→bindArgs fd ⟨us,[]⟩=pure (ps.zip us)):zjt K fd ps []:=fun s us _ hl=>by
  rw[yaG]at hl ⊢;exact .of_eq (h us hl)
def zng (CX:CXT)(X:Cx)(E:XK):Prop:=∀(pins:List (Addr×Obj)) (σ:St) (H:Hp) (s:Shared) (e:Value) (s':Shared),Inv X pins σ H s→CX X.stack H s E e s'→X.xe e s'
section
variable {X:Cx}{CX:CXT}{k:Nat}{f C:Addr}{fd:FuncData}{ps:List Str}{sp:Sp}{dvs:List V}{ds:List Value}{E:XK}{x m:Str}{p pos apos:Pos}{e o:Expr}{es:List Expr}{ta:TE}{t:TA}
theorem zqt {pins:List (Addr×Obj)}{σ:St}{H:Hp}{s:Shared}{Q:VK}{us:List Value}{vs:List V}(F:FnOk X.prog X.w X.K X.mg X.base CX k f fd ps sp)(hr:Room k X.A)(hb:zjt X.K fd ps ds)(hd:Vals dvs ds)(hx:zng CX X E)
    (I:Inv X pins σ H s) (r:Vals vs us) (h:sp (vs++dvs) H Q E):wpAny (model X.prog X.w) X.A (call (.ref f) us) (EP X pins σ Q) X.xe s:=by
  have r2:Vals (vs++dvs) (us++ds):=r.append hd;have hl:(us++ds).length=ps.length:=by rw[← r2.length];exact F.len _ _ _ _ h
  refine wpAny_call (codeAny_mono (F.run X.A X.stack s H ⟨us,[]⟩ (us++ds) (vs++dvs) Q E hr I.env0 (hb s us I.kIn hl) r2 h) fun r s' hq=>?_);cases r with
  | error e=>exact hx pins σ H s e s' I hq
  | ok fl=>
    cases fl with
    | ret u=>exact I.after hq
    | next=>exact False.elim hq
    | brk=>exact False.elim hq
    | cont=>exact False.elim hq
theorem zpr (F:FnOk X.prog X.w X.K X.mg X.base CX k f fd ps sp)(hr:Room k X.A)(hg:Gl X x)(hm:X.mg x=some (.ref f))(hk:keepIn X.K (.ref f)=true)(hb:zjt X.K fd ps ds)(hd:Vals dvs ds)(hx:zng CX X E)
    (ha:PA X (e::es) t) (hdb:(x == ("__debug__" : Str))=false:=by decide) (he:starEach (e::es) X.env=(false,eval e X.env)::starEach es X.env:=by rfl) (hpl:(backTo pos (starEach es X.env)).any (·.1)=false:=by rfl) :
    PE X (.Call (.Name x p) (e::es) [] pos) (zqj sp dvs E t):=by
  intro pins s σ H Q I h;refine wpAny_Call_Name_kw (zmr I hg hm ?_ hdb);refine PySem.W.callWith_K (h₀:=X.base) I.ok.mod.kin hk (thn (ha pos pins s σ H _ I h) fun us s1 zq0=>?_) he hpl;obtain ⟨vs,H1,I1,r,q⟩:=zq0;refine ⟨I1.kIn,?_⟩;exact zqt F hr hb hd hx I1 r q
end
structure zas (N P:List Str)(sc:Scope):Prop where
  kind:sc.kind=.function
  co:sc.isCoroutine=false
  gen:sc.isGenerator=false
  nd:N.Nodup
  pre:N.take P.length=P
  par:∀ x∈P,sc.names.lookup x=some .local∨sc.names.lookup x=some .cell
  nofree:∀ y∈sc.names,y.2≠.free
theorem ziD {kindOf:Str→Option NameKind}{x:Str}:∀{binds:List (Str×Value)} {m:Str→Option Value},(∀ v,(x,v)∉binds)→bindL kindOf binds m x=m x
  | [],_,_=>rfl
  | (n,v)::r,m,h=>by
    unfold bindL;rw[ziD fun w hw=>h w (yaD _ hw)];split
    · have:x≠n:=by rintro rfl;exact h v yaC
      simp[this]
    · rfl
theorem ziF {kindOf:Str→Option NameKind}{x:Str}:∀{binds:List (Str×Value)} {m:Str→Option Value},(∀ v,(x,v)∉binds)→bindC kindOf binds m x=m x
  | [],_,_=>rfl
  | (n,v)::r,m,h=>by
    unfold bindC;rw[ziF fun w hw=>h w (yaD _ hw)];split
    · rfl
    · have:x≠n:=by rintro rfl;exact h v yaC
      simp[this]
theorem ziE {kindOf:Str→Option NameKind}{x:Str}{v:Value}:∀{P:List Str} {vs:List Value} {i:Nat} {m:Str→Option Value},P.Nodup→P[i]?=some x→vs[i]?=some v→kindOf x=some .local→
    bindL kindOf (P.zip vs) m x=some v
  | [],_,_,_,_,h,_,_=>by simp at h
  | _::_,[],_,_,_,_,h,_=>by simp at h
  | p::P,w::vs,0,m,nd,h1,h2,hk=>by
    simp at h1 h2;subst h1;subst h2;show bindL kindOf ((p,w)::P.zip vs) m p=_;unfold bindL;rw[ziD fun v hv=>(ya0.mp nd).1 (List.of_mem_zip hv).1,if_pos hk];simp
  | p::P,w::vs,i+1,m,nd,h1,h2,hk=>by
    show bindL kindOf ((p,w)::P.zip vs) m x=_;unfold bindL;exact ziE (i:=i) (ya0.mp nd).2 (by simpa using h1) (by simpa using h2) hk
theorem ziG {kindOf:Str→Option NameKind}{x:Str}{v:Value}:∀{P:List Str} {vs:List Value} {i:Nat} {m:Str→Option Value},P.Nodup→P[i]?=some x→vs[i]?=some v→kindOf x≠some .local→
    bindC kindOf (P.zip vs) m x=some v
  | [],_,_,_,_,h,_,_=>by simp at h
  | _::_,[],_,_,_,_,h,_=>by simp at h
  | p::P,w::vs,0,m,nd,h1,h2,hk=>by
    simp at h1 h2;subst h1;subst h2;show bindC kindOf ((p,w)::P.zip vs) m p=_;unfold bindC;rw[ziF fun v hv=>(ya0.mp nd).1 (List.of_mem_zip hv).1,if_neg hk];simp
  | p::P,w::vs,i+1,m,nd,h1,h2,hk=>by
    show bindC kindOf ((p,w)::P.zip vs) m x=_;unfold bindC;exact ziG (i:=i) (ya0.mp nd).2 (by simpa using h1) (by simpa using h2) hk
def zdm (N:List Str)(vs:List V):St:=vs.map some++List.replicate (N.length - vs.length) none
def cxOf (CX:CXT)(P:Program)(w:World)(K:Frag)(mg:Str→Option Value)(base:Heap)(N:List Str)(qual:Str)(scope:Scope)(f:Addr)(cd:Value)(A:Around)(outer:List Env)(s:Shared)(H:Hp)(E:XK):Cx where
  prog:=P
  w:=w
  K:=K
  mg:=mg
  base:=base
  A:=A.deeper (envOfC qual scope s.heap.objs.size f cd)
  N:=N
  s₀:=s
  H₀:=H
  env:=envOfC qual scope s.heap.objs.size f cd
  outer:=outer
  stack:=envOfC qual scope s.heap.objs.size f cd::outer
  ex:=[]
  calm:=true
  fn:=fun _=>true
  pn:=[]
  xe:=fun e s'=>wpAny (model P w) (A.deeper (envOfC qual scope s.heap.objs.size f cd)) (leaving (envOfC qual scope s.heap.objs.size f cd) e) (fun _ s''=>CX outer H s E e s'') (fun e' s''=>CX outer H s E e' s'') s'
theorem zkx {sc:Scope}{n:Nat}{x:Str}(h:sc.names.lookup x=some .cell):∃ c,(cellsFrom n sc.names []).lookup x=some c:=by
  have q:=PySem.W.cellsFrom_some sc.names n [] (.inl h);exact yct.mp q
theorem zmF {CX:CXT}{P:Program}{w:World}{K:Frag}{mg:Str→Option Value}{base:Heap}{N ps:List Str}{qual:Str}{scope:Scope}{f:Addr}{cd:Value}{A:Around}{outer:List Env}{s s1:Shared}{H:Hp}{E:XK}{us:List Value}{vs:List V}
    (S:zas N ps scope) (hd:A.handled=none) (e0:Env0 P w K mg base A outer s H) (hl:vs.length=ps.length) (r:Vals vs us)
    (x:InCallC s s.heap.objs.size (bindL (envOfC qual scope s.heap.objs.size f cd).kindOf (ps.zip us) fun _=>none) (cellsFrom (s.heap.objs.size+1) scope.names []) (bindC (envOfC qual scope s.heap.objs.size f cd).kindOf (ps.zip us) fun _=>none) s1) :
    Inv (cxOf CX P w K mg base N qual scope f cd A outer s H E) [] (zdm N vs) H s1:=by
  have hpl:ps.length≤N.length:=by have:=congrArg List.length S.pre;rw[yaj]at this;omega
  obtain ⟨h1,tk,rfl,hk⟩:=x.done;have noA:∀ b:Addr,b∉(cxOf CX P w K mg base N qual scope f cd A outer s H E).ex:=fun b z=>absurd (show b∈([]:List Addr) from z) (by simp);refine ⟨⟨e0.mod,S.kind,rfl,rfl,yaa _,fun y z c h1 h2=>?_,fun y hy=>?_,fun y c _ h=>?_,fun _=>hd,Around.frames_deeper e0.frames,.inr ⟨rfl,rfl⟩,fun b z=>absurd z (noA b),e0.bs,e0.bsz,fun b _ _=>noA b,fun b z=>absurd z (noA b),e0.funs,e0.frf⟩,
    rfl,e0.bare,Un.kept hk,⟨_,x.toInCall.ns,fun i y v h1 h2 h3=>?_⟩,fun y c h=>⟨_,x.cell y c h⟩,e0.hok.fresh (yaa _),fun y c h=>?_,fun p hp=>absurd (show p∈([]:List (Addr×Obj)) from hp) (by simp),e0.hok.kept hk,?_⟩
  · exact name_of_addr x.apart (PySem.mem_of_lookup h1) (PySem.mem_of_lookup h2)
  · have hy:scope.names.lookup y=some .cell∨scope.names.lookup y=some .free:=hy
    rcases hy with hy | hy
    · exact zkx hy
    · exact absurd rfl (S.nofree _ (PySem.mem_of_lookup hy))
  · exact ybw (x.above y c (PySem.mem_of_lookup h))
  · have hi:i < vs.length:=by
      unfold zdm at h2;by_cases hi:i < vs.length
      · exact hi
      · rw[ya7 (by simpa using hi)]at h2
        rw[ycu]at h2;split at h2 <;> cases h2
    have ha:vs[i]?=some v:=by
      unfold zdm at h2;rw[ybm (by simpa using hi),yal]at h2;cases e:vs[i]? with
      | none=>rw[e]at h2;cases h2
      | some a=>rw[e]at h2;cases h2;rfl
    obtain ⟨u,hu,rv⟩:=r.get ha;have hp:ps[i]?=some y:=by
      rw[← S.pre,List.getElem?_take_of_lt (by omega)];exact h1
    have ndP:ps.Nodup:=by rw[← S.pre];exact S.nd.sublist (List.take_sublist _ _)
    refine ⟨u,rv,?_⟩;rcases S.par y (yaO hp) with k | k
    · exact .inl ⟨k,ziE ndP hp hu k⟩
    · obtain ⟨c,e⟩:=zkx (n:=s.heap.objs.size+1) k
      refine .inr ⟨.inl k,c,e,?_⟩;have q:=x.cell y c e;rw[ziG ndP hp hu (by show scope.names.lookup y≠_;rw[k];decide)]at q;exact q
  · exact e0.hok.fresh (ybw (x.above y c (PySem.mem_of_lookup h)))
  · unfold zdm
    show _=N.length;rw[yak,yab,ya8];omega
theorem zrM {CX:CXT}{P:Program}{w:World}{K:Frag}{mg:Str→Option Value}{base:Heap}{k:Nat}{f:Addr}{name qual:Str}{params:Arguments}{body:List Stmt}{scope:Scope}{dV kV doc pm cdv ct oc:Value}{an od:Option Addr}
    {osl:Array (Option Value)} {N ps:List Str} {sp:Sp} (lk:K.lookup f=some ⟨oc,od,.func (fnOf name qual params body scope dV kV doc pm an cdv ct),osl⟩) (hcd:codeIn K cdv qual=true) (S:zas N ps scope)
    (len:∀ vs H Q E,sp vs H Q E→vs.length=ps.length)
    (hbody:∀(A:Around) (outer:List Env) (s:Shared) (H:Hp) (vs:List V) (Q:VK) (E:XK),Room k (A.deeper (envOfC qual scope s.heap.objs.size f cdv))→sp vs H Q E→
      ∃ t,PSs (cxOf CX P w K mg base N qual scope f cdv A outer s H E) body t∧t { nx:=fun _ H'=>Q .non H',rt:=Q } (zdm N vs) H) :
    FnOk P w K mg base CX (k+1) f (fnOf name qual params body scope dV kV doc pm an cdv ct) ps sp:=by
  refine ⟨len,fun A outer s H args us vs Q E hr e0 hb r hsp=>?_⟩;have hl:=len _ _ _ _ hsp;have KX:K.In s.heap:=e0.mod.kin.keeps fun b o e=>(e0.bs b o e).1;have lim:s.heap.NoLimit:=e0.mod.nolimit.keeps fun b o e=>(e0.bs b o e).1;have hkind:∀ y∈ps.zip us,scope.names.lookup y.1=some .local∨(scope.names.lookup y.1=some .cell∧((cellsFrom (s.heap.objs.size+1) scope.names []).lookup y.1).isSome=true):=fun ⟨n,v⟩ hy=>by
    rcases S.par n (List.of_mem_zip hy).1 with q | q
    · exact .inl q
    · exact .inr ⟨q,PySem.W.cellsFrom_some _ _ _ (.inl q)⟩
  refine codeAny_call_function hr.depth (KX _ _ lk) rfl S.co S.gen rfl (PySem.W.codeRec_of KX hcd) (hb _ _ _ _ ?_);refine wpAny_newFunctionEnv_cells S.kind hkind fun env he s1 x=>?_;subst he;refine ⟨lim.keeps x.toInCall.keep,codeAny_func ?_⟩;obtain ⟨t,ht,hq⟩:=hbody A outer s H vs Q E (hr.deeper _) hsp;have I:Inv (cxOf CX P w K mg base N qual scope f cdv A outer s H E) [] (zdm N vs) H s1:=zmF S hr.hd e0 hl r x;refine wpAny_mono (ht [] s1 (zdm N vs) H _ I hq) (fun fl s' hs=>?_) fun e s' hs=>hs;have fin:∀{σ':St} {H':Hp} {v:V} {u:Value},Inv (cxOf CX P w K mg base N qual scope f cdv A outer s H E) [] σ' H' s'→RelV v u→Q v H'→CE outer P w H s Q u s':=
    fun {σ' H' v u} J rv q=>⟨v,H',J.os,J.bare,J.base,J.hok,rv,q⟩
  cases fl with
  | ret u=>
    obtain ⟨v,σ',H',J,rv,q⟩:=hs;exact fin J rv q
  | next=>
    obtain ⟨σ',H',J,q⟩:=hs;exact fin (v:=V.non) (u:=Value.none) J rfl q
  | brk=>
    obtain ⟨_,_,_,q⟩:=hs;exact False.elim q
  | cont=>
    obtain ⟨_,_,_,q⟩:=hs;exact False.elim q
end L2
namespace L2
open PySem PySem.Spec PyProof.Rows
section
variable {X:Cx}{x:Str}{p pos:Pos}{e:Expr}{es:List Expr}{t:TA}{id T:String}{r:List V→Hp→VK→Prop}
def tCB (r:List V→Hp→VK→Prop)(t:TA):TE:=fun σ H Q=>t σ H fun vs H1=>r vs H1 Q
theorem zam (hc:zey X (.builtin id) r)(hg:Gl X x)(hm:X.mg x=none)(hv:bootBuiltins x=some (.builtin id))(ha:PA X (e::es) t)(hn:x ≠ "__name__":=by decide)(hdb:(x == ("__debug__" : Str))=false:=by decide)
    (he:starEach (e::es) X.env=(false,eval e X.env)::starEach es X.env:=by rfl) (hpl:(backTo pos (starEach es X.env)).any (·.1)=false:=by rfl):PE X (.Call (.Name x p) (e::es) [] pos) (tCB r t):=by
  intro pins s σ H Q I h;refine wpAny_Call_Name_kw (zfc I hg hm hv ?_ hn hdb);exact PyProof.Rows.callWith_builtin1 (thn (ha pos pins s σ H _ I h) fun us s1 zq0=>(by obtain ⟨vs,H1,I1,r1,q1⟩:=zq0;exact hc pins s1 σ H1 vs us Q I1 r1 q1)) he hpl
theorem zbi (hc:zey X (.type T) r)(hg:Gl X x)(hm:X.mg x=none)(hv:bootBuiltins x=some (.type T))(ha:PA X (e::es) t)(hn:x ≠ "__name__":=by decide)(hdb:(x == ("__debug__" : Str))=false:=by decide)
    (he:starEach (e::es) X.env=(false,eval e X.env)::starEach es X.env:=by rfl) (hpl:(backTo pos (starEach es X.env)).any (·.1)=false:=by rfl):PE X (.Call (.Name x p) (e::es) [] pos) (tCB r t):=by
  intro pins s σ H Q I h;refine wpAny_Call_Name_kw (zfc I hg hm hv ?_ hn hdb);exact PyProof.Rows.callWith_type1 (thn (ha pos pins s σ H _ I h) fun us s1 zq0=>(by obtain ⟨vs,H1,I1,r1,q1⟩:=zq0;exact hc pins s1 σ H1 vs us Q I1 r1 q1)) he hpl
end
end L2
namespace HT
open PySem PyProof.Rows
section
variable {prog:Program}{w:World}{A:Around}{E:Value→Shared→Prop}{s:Shared}
theorem cat_tup {t b:Addr}{vs ws:List Value}{Q:Value→Shared→Prop}(ht:IsTup s.heap t vs.toArray)(hb:IsTup s.heap b ws.toArray)(hv:vs≠[])
    (h1:ws=[]→Q (.ref t) s) (h2:ws≠[]→Q (.ref s.heap.objs.size) { s with heap:=s.heap.push { cls:=.type "tuple",data:=.seq (vs++ws).toArray } })
    (hsz:vs.length+ws.length≤sizeLine):wpAny (model prog w) A (binaryOp .Add (.ref t) (.ref b)) Q E s:=by
  obtain ⟨⟨cls,dd,data,sl⟩,ho,hc,n,hd⟩:=id ht;obtain ⟨⟨cls2,dd2,data2,sl2⟩,ho2,hc2,n2,hd2⟩:=id hb;simp only at hc hd hc2 hd2;subst hc hd hc2 hd2;have e:vs.toArray++ws.toArray=(vs++ws).toArray:=by simp
  by_cases hw:ws=[]
  · exact concat_meets ⟨_,ho,rfl⟩ ⟨_,ho2,rfl⟩ noFill_tuple_add seq_tuple_add PySem.F.slot_tuple_add PySem.F.entry_tuple_add (PySem.F.args_tuple_add_2 _ _)
      (tuple_addW1 t b vs.toArray ws.toArray n n2 dd dd2 sl sl2 (by simpa using hv) (by simp[hw])) ⟨ho,ho2,h1 hw⟩
  · refine concat_meets ⟨_,ho,rfl⟩ ⟨_,ho2,rfl⟩ noFill_tuple_add seq_tuple_add PySem.F.slot_tuple_add PySem.F.entry_tuple_add (PySem.F.args_tuple_add_2 _ _)
      (tuple_addW2 t b vs.toArray ws.toArray n n2 dd dd2 sl sl2 (by simpa using hv) (by simpa using hw) (by rw[yav,yav];exact hsz)) ⟨ho,ho2,?_⟩
    rw[e];exact h2 hw
def sIx (n d:Nat):Option Int→Nat
  | none=>d
  | some v=>if v < 0 then (v+(n:Int)).toNat else min v.toNat n
theorem zem (n d k:Nat):sIx n d (some (k:Int))=min k n:=by
  show (if (k:Int) < 0 then ((k:Int)+(n:Int)).toNat else min (k:Int).toNat n)=min k n
  rw[if_neg (by omega),ya9]
theorem zqs (n d:Nat)(hd:d≤n)(o:Option Int):sIx n d o≤n:=by
  cases o with
  | none=>exact hd
  | some v=>
    show (if v < 0 then (v+(n:Int)).toNat else min v.toNat n)≤n
    by_cases hv:v < 0
    · rw[if_pos hv];omega
    · rw[if_neg hv];exact Nat.min_le_right _ _
theorem zm4 (v:Int)(n d:Nat):(if v < 0 then max (v+(n:Int)) 0 else min v (n:Int))=((sIx n d (some v):Nat):Int):=by
  show (if v < 0 then max (v+(n:Int)) 0 else min v (n:Int))=(((if v < 0 then (v+(n:Int)).toNat else min v.toNat n):Nat):Int)
  by_cases hv:v < 0
  · simp only[if_pos hv];omega
  · simp only[if_neg hv];omega
theorem zli (lo hi:Option Int)(n:Nat):Builtin.Slice.sliceAdjust lo hi 1 (n:Int)=(((sIx n 0 lo:Nat):Int),((sIx n n hi:Nat):Int)):=by
  have h1:¬ ((1:Int) < 0):=by omega
  unfold Builtin.Slice.sliceAdjust;simp only[h1,if_false];refine Prod.ext ?_ ?_
  · cases lo with
    | none=>rfl
    | some v=>exact zm4 v n 0
  · cases hi with
    | none=>rfl
    | some v=>exact zm4 v n n
theorem zkP (i j:Nat):Builtin.Slice.slicePlaces (i:Int) (j:Int) 1=j - i:=by
  unfold Builtin.Slice.slicePlaces;have h1:(1:Int) > 0:=by omega
  simp only[h1,if_true,Int.ediv_one];split <;> omega
theorem zgQ {v:Value}{o:Option Int}{Q:Option Int→Shared→Prop}(p:IsPart v o)(h:Q o s):wpAny (model prog w) A (Builtin.Slice.slicePartIndex v) Q E s:=by
  cases p with
  | none=>exact slicePart_none h
  | int i t=>exact slicePart_int h
theorem zdi {sl:Addr}{vl vu:Value}{lo hi:Option Int}{n:Nat}{Q:Int×Int×Nat→Shared→Prop}(hs:s.heap.IsSliceOf sl vl vu .none)(pl:IsPart vl lo)(pu:IsPart vu hi)
    (h:Q (((sIx n 0 lo:Nat):Int),1,sIx n n hi - sIx n 0 lo) s):wpAny (model prog w) A (Builtin.Slice.sliceApplied (.ref sl) (pure (n:Int))) Q E s:=by
  obtain ⟨os,hos,hcs,hds⟩:=id hs;unfold Builtin.Slice.sliceApplied Builtin.Slice.sliceFields;refine wpAny_bind (wpAny_bind (wpAny_field hos hds (x:=vl) rfl (wpAny_bind (wpAny_field hos hds (x:=vu) rfl (wpAny_bind (wpAny_field hos hds (x:=.none) rfl (wpAny_pure ?_)))))));refine wpAny_bind (slicePart_none ?_);show wpAny _ _ (if ((1:Int) == 0)=true then _ else _) _ _ s
  rw[if_neg (by decide)];refine wpAny_bind (zgQ pl (wpAny_bind (zgQ pu (wpAny_bind (wpAny_pure ?_)))));show wpAny _ _ (match Builtin.Slice.sliceAdjust lo hi 1 (n:Int) with | (lo,hi)=>pure (lo,(1:Int),Builtin.Slice.slicePlaces lo hi 1)) _ _ s
  rw[zli lo hi n];show wpAny _ _ (pure (((sIx n 0 lo:Nat):Int),(1:Int),Builtin.Slice.slicePlaces ((sIx n 0 lo:Nat):Int) ((sIx n n hi:Nat):Int) 1)) _ _ s;rw[zkP];exact wpAny_pure h
theorem znw (xs:Array Value)(i k:Nat):((List.range k).filterMap fun (m:Nat)=>xs[((i:Int)+(m:Int) * 1).toNat]?).toArray=((xs.toList.drop i).take k).toArray:=by
  have e:(fun (m:Nat)=>xs[((i:Int)+(m:Int) * 1).toNat]?)=fun m=>xs[i+m]?:=by
    funext m
    have:((i:Int)+(m:Int) * 1).toNat=i+m:=by omega
    rw[this]
  rw[e];have:=pick_run xs i k;rw[List.filterMap_map]at this;have e2:((fun x=>xs[x]?) ∘ fun x=>i+x)=fun m=>xs[i+m]?:=rfl;rw[e2]at this;rw[this]
theorem getItem_tuple_cut {t sl:Addr}{items:Array Value}{vl vu:Value}{lo hi:Option Int}{Q:Value→Shared→Prop}(ht:IsTup s.heap t items)(hs:s.heap.IsSliceOf sl vl vu .none)(pl:IsPart vl lo)(pu:IsPart vu hi)
    (hw:¬ (sIx items.size 0 lo=0∧sIx items.size items.size hi=items.size))
    (h:Q (.ref s.heap.objs.size) { s with heap:=s.heap.push { cls:=.type "tuple",data:=.seq ((items.toList.drop (sIx items.size 0 lo)).take (sIx items.size items.size hi - sIx items.size 0 lo)).toArray } })
    (hsz:items.size≤sizeLine):wpAny (model prog w) A (getItem (.ref t) (.ref sl)) Q E s:=by
  have htake:sizeOk (.seq ((items.toList.drop (sIx items.size 0 lo)).take (sIx items.size items.size hi - sIx items.size 0 lo)).toArray):=by
    show ((items.toList.drop (sIx items.size 0 lo)).take (sIx items.size items.size hi - sIx items.size 0 lo)).toArray.size≤sizeLine;rw[yav,yaj,yaP,yau];omega
  have hj:sIx items.size items.size hi≤items.size:=zqs _ _ (yaa _) hi;obtain ⟨os,hos,hcs,hds⟩:=id hs;have hTs:s.TypeIs (.ref sl) "slice":=⟨os,hos,hcs⟩;unfold getItem
  try with_reducible refine wpAny_holding ?_
  first | refine wpAny_bind (wpAny_pure ?_) | skip
  refine wpAny_bind (wpAny_sequenceKey ht.typeIs (by decide) ?_);refine wpAny_bind (wpAny_callSpecial?_slot (name:=Str.ofString "__getitem__") ht.typeIs PyProof.Rows.slot_tuple_getitem
    (wpAny_call_entry PyProof.Rows.slot_tuple_getitem ht.typeIs entry_tuple_getitem ?_ (args_tuple_getitem _ _)))
  show wpAny _ _ (Builtin.Tuple.tupleItemsOf (.ref t) >>= _) _ _ s;refine wpAny_bind (tupleItemsOf_ ht ?_);refine wpAny_bind (wpAny_typeOf hTs ?_);rw[if_pos (by decide)];refine wpAny_bind (zdi hs pl pu ?_);have hno:¬ ((((sIx items.size 0 lo:Nat):Int) == 0 && (1:Int) == 1 && (sIx items.size items.size hi - sIx items.size 0 lo) == items.size)=true):=by
    intro q;rw[ya1,ya1]at q;have q1:((sIx items.size 0 lo:Nat):Int)=0:=eq_of_beq q.1.1;have q2:sIx items.size items.size hi - sIx items.size 0 lo=items.size:=eq_of_beq q.2;exact hw ⟨by omega,by omega⟩
  show wpAny _ _ (if (((sIx items.size 0 lo:Nat):Int) == 0 && (1:Int) == 1 && (sIx items.size items.size hi - sIx items.size 0 lo) == items.size)=true then _ else _) _ _ s
  rw[if_neg hno,znw]
  first
    | exact wpAny_bind (m:=Builtin.Tuple.tupleExact _) (wpAny_newObj_type (wpAny_pure ⟨_,rfl,wpAny_pure h⟩) htake)
    | exact wpAny_bind (m:=Builtin.Tuple.tupleExact _) (wpAny_newObj_type (wpAny_bind (wpAny_pure (wpAny_pure ⟨_,rfl,wpAny_pure h⟩))) htake)
    | exact wpAny_bind (wpAny_bind (m:=Builtin.Tuple.tupleExact _) (wpAny_newObj_type (wpAny_pure (wpAny_pure ⟨_,rfl,wpAny_pure h⟩)) htake))
    | exact wpAny_bind (wpAny_bind (m:=Builtin.Tuple.tupleExact _) (wpAny_newObj_type (wpAny_pure ⟨_,rfl,wpAny_pure h⟩) htake))
end
end HT
namespace L2
open PySem PySem.Spec PyProof.Rows
abbrev TO:=St→Hp→(Option Int→Hp→Prop)→Prop
def PO (X:Cx)(e:Option Expr)(t:TO):Prop:=
  ∀(pins:List (Addr×Obj)) (s:Shared) (σ:St) (H:Hp) (Q:Option Int→Hp→Prop),Inv X pins σ H s→t σ H Q→
    wpAny (model X.prog X.w) X.A (evalPart e X.env) (fun u s'=>∃ o H',Inv X pins σ H' s'∧IsPart u o∧Q o H') X.xe s
def ziR:TO:=fun _ H Q=>Q none H
def ziQ (t:TE):TO:=fun σ H Q=>t σ H fun x H1=>∃ i,x=.int i∧Q (some i) H1
section
variable {X:Cx}{e:Expr}{te:TE}{lo hi:Option Expr}{tl th:TO}{pos p2:Pos}
theorem zba:PO X none ziR:=by
  intro pins s σ H Q I h;rw[evalPart_none];exact wpAny_pure ⟨none,H,I,.none,h⟩
theorem zaL (h:PE X e te):PO X (some e) (ziQ te):=by
  intro pins s σ H Q I hw;rw[evalPart_some];refine thn (h pins s σ H _ I hw) fun u s1 zq0=>?_;obtain ⟨x,H1,I1,r1,q1⟩:=zq0;obtain ⟨i,rfl,q⟩:=q1;obtain ⟨t,rfl⟩:=r1;exact ⟨some i,H1,I1,.int i t,q⟩
def SlR (X:Cx)(r:V→Option Int→Option Int→Hp→VK→Prop):Prop:=
  ∀(pins:List (Addr×Obj)) (s:Shared) (σ:St) (H:Hp) (x:V) (v vl vu:Value) (lo hi:Option Int) (sl:Addr) (Q:VK),Inv X pins σ H s→RelV x v→s.heap.IsSliceOf sl vl vu .none→IsPart vl lo→IsPart vu hi→r x lo hi H Q→
    ∃ T id,typeLookup (.type T) "__getitem__" = pure (some (.builtin id))∧s.TypeIs v T∧wpAny (model X.prog X.w) X.A (getItem v (.ref sl)) (EP X pins σ Q) X.xe s
def tSl (r:V→Option Int→Option Int→Hp→VK→Prop)(te:TE)(tl th:TO):TE:=fun σ H Q=>te σ H fun x H1=>tl σ H1 fun l H2=>th σ H2 fun u H3=>r x l u H3 Q
theorem zaI {r:V→Option Int→Option Int→Hp→VK→Prop}(hr:SlR X r)(he:PE X e te)(hl:PO X lo tl)(hu:PO X hi th):PE X (.Subscript e (.Slice lo hi none p2) pos) (tSl r te tl th):=by
  intro pins s σ H Q I h;refine Subscript_ (thn (he pins s σ H _ I h) fun v s1 zq0=>?_);obtain ⟨x,H1,I1,r1,q1⟩:=zq0;refine wpAny_Slice (thn (hl pins s1 σ H1 _ I1 q1) fun vl s2 zq0=>?_);obtain ⟨l,H2,I2,pl,q2⟩:=zq0;refine thn (hu pins s2 σ H2 _ I2 q2) fun vu s3 zq1=>?_;obtain ⟨u,H3,I3,pu,q3⟩:=zq1;rw[evalPart_none];refine wpAny_pure ?_;have I4:Inv X pins σ H3 { s3 with heap:=s3.heap.push { cls:=.type "slice",data:=.fields #[vl,vu,.none] } }:=I3.kept (t':=s3.toks) fun b ob q=>yan _ q;obtain ⟨T,id,hT,ht,hg⟩:=hr pins { s3 with heap:=s3.heap.push { cls:=.type "slice",data:=.fields #[vl,vu,.none] } } σ H3 x v vl vu l u s3.heap.objs.size Q I4 r1 (Heap.IsSliceOf.new ..) pl pu q3;show wpAny (model X.prog X.w) X.A (subscriptTail e (.Slice lo hi none p2) v (.ref s3.heap.objs.size)) (EP X pins σ Q) X.xe { s3 with heap:=s3.heap.push { cls:=.type "slice",data:=.fields #[vl,vu,.none] } };exact tail_any (ops:=[.ref s3.heap.objs.size,v]) ht hT hg (by with_unfolding_all rfl)
def cutV (xs:List V)(lo hi:Option Int):List V:=(xs.drop (HT.sIx xs.length 0 lo)).take (HT.sIx xs.length xs.length hi - HT.sIx xs.length 0 lo)
theorem zgq (xs:List V)(lo hi:Option Int):(cutV xs lo hi).length≤xs.length:=by
  unfold cutV;rw[yaj,yaP];omega
def rSlT (K:Frag):V→Option Int→Option Int→Hp→VK→Prop:=fun x lo hi H Q=>∃ a xs,x=.ref a∧SqT K H a xs∧
  ¬ (HT.sIx xs.length 0 lo=0∧HT.sIx xs.length xs.length hi=xs.length)∧∀ p,H p=none→Q (.ref p) (upd H p (.tup (cutV xs lo hi)))
theorem zqr:SlR X (rSlT X.K):=by
  intro pins s σ H x v vl vu lo hi sl Q I rx hs pl pu h;obtain ⟨a,xs,rfl,hx,hw,q⟩:=h;cases rx
  obtain ⟨its,r,ht,hz⟩:=I.tuple hx;have hlen:its.toArray.size=xs.length:=by rw[yav];exact r.length.symm
  refine ⟨"tuple",_,PyProof.Rows.slot_tuple_getitem.lookup,ht.typeIs,?_⟩;refine HT.getItem_tuple_cut ht hs pl pu (by rw[hlen];exact hw) ?_ (by rw[hlen];exact hz);rw[hlen];refine ⟨.ref s.heap.objs.size,_,I.laid (t':=s.toks) (o:=.tup (cutV xs lo hi)) (fun b ob q=>yan _ q) (yaa _) ?_,rfl,q _ (I.hok.fresh (yaa _))⟩;exact ⟨yar (zgq xs lo hi) hz,_,(r.drop (HT.sIx xs.length 0 lo)).take (HT.sIx xs.length xs.length hi - HT.sIx xs.length 0 lo),IsTup.new _ _⟩
def zrz (K:Frag):R2:=fun x y H Q=>∃ a b xs ys,x=.ref a∧y=.ref b∧SqT K H a xs∧SqT K H b ys∧xs≠[]∧xs.length+ys.length≤sizeLine∧
  (ys=[]→Q (.ref a) H)∧(ys≠[]→∀ p,H p=none→Q (.ref p) (upd H p (.tup (xs++ys))))
theorem Vals.nil_iff {xs:List V}{us:List Value}(r:Vals xs us):us=[]↔xs=[]:=by
  cases r with
  | nil=>simp
  | cons _ _=>simp
theorem zl5:OpR X (binaryOp .Add) (zrz X.K):=by
  intro pins s σ H x y v u Q I rx ry h;obtain ⟨a,b,xs,ys,rfl,rfl,ha,hb,hx,hz,q1,q2⟩:=h;cases rx
  cases ry
  obtain ⟨its,r1,p1,_⟩:=I.tuple ha;obtain ⟨its2,r2,p2,_⟩:=I.tuple hb;refine HT.cat_tup p1 p2 (fun z=>hx (r1.nil_iff.mp z)) (fun z=>⟨.ref a,H,I,rfl,q1 (r2.nil_iff.mp z)⟩) (fun z=>?_) (by rw[← r1.length,← r2.length];exact hz);refine ⟨.ref s.heap.objs.size,_,I.laid (t':=s.toks) (o:=.tup (xs++ys)) (fun b ob q=>yan _ q) (yaa _) ?_,rfl,q2 (fun w=>z (r2.nil_iff.mpr w)) _ (I.hok.fresh (yaa _))⟩;exact ⟨by rw[yak];exact hz,_,r1.append r2,IsTup.new _ _⟩
end
end L2
namespace L2
open PySem PySem.Spec PyProof.Rows
def ixN (n:Nat)(i:Int):Option Nat:=if 0≤i then (if i < n then some i.toNat else none) else if -(n:Int)≤i then some (i+n).toNat else none
def atI {α:Type}(xs:List α)(i:Int):Option α:=(ixN xs.length i).bind fun j=>xs[j]?
theorem zmD {n:Nat}{i:Int}{j:Nat}(h:ixN n i=some j):seqIndex? i n=some j∧j < n∧-(n:Int)≤i∧i < n:=by
  unfold ixN at h;by_cases h0:0≤i
  · rw[if_pos h0]at h
    by_cases h1:i < n
    · rw[if_pos h1]at h
      have e:i.toNat=j:=yae h;exact ⟨by rw[seqIndex_of h0 h1,e],by omega,by omega,h1⟩
    · rw[if_neg h1]at h;cases h
  · rw[if_neg h0]at h
    by_cases h1:-(n:Int)≤i
    · rw[if_pos h1]at h
      have e:(i+n).toNat=j:=yae h;exact ⟨by rw[seqIndex_neg (by omega) h1,e],by omega,h1,by omega⟩
    · rw[if_neg h1]at h;cases h
theorem znf {α:Type}{xs:List α}{i:Int}{v:α}(h:atI xs i=some v):∃ j,seqIndex? i xs.length=some j∧xs[j]?=some v∧j < xs.length∧-(xs.length:Int)≤i∧i < xs.length:=by
  unfold atI at h;cases e:ixN xs.length i with
  | none=>rw[e]at h;cases h
  | some j=>
    rw[e]at h;obtain ⟨h1,h2,h3,h4⟩:=zmD e;exact ⟨j,h1,h,h2,h3,h4⟩
theorem zbI {α:Type}{xs:List α}{j:Nat}{v:α}(h:xs[j]?=some v):atI xs (j:Int)=some v:=by
  have hj:j < xs.length:=(yaf.mp h).1;have e:ixN xs.length (j:Int)=some j:=by
    unfold ixN;rw[if_pos (by omega),if_pos (by omega)];simp
  unfold atI;rw[e];exact h
def zqa (b:Expr):Prop:=∀ o i,subscripted b false o i=operate [o,i] (getItem o i)
def IxR (X:Cx)(r:R2):Prop:=
  ∀(value slice:Expr) (pins:List (Addr×Obj)) (s:Shared) (σ:St) (H:Hp) (x y:V) (v u:Value) (Q:VK),Inv X pins σ H s→RelV x v→RelV y u→r x y H Q→
    subscripted slice false v u=operate [v,u] (getItem v u)→wpAny (model X.prog X.w) X.A (subscriptTail value slice v u) (EP X pins σ Q) X.xe s
def MtR (X:Cx)(id:String)(r:V→List V→Hp→VK→Prop):Prop:=
  ∀(pins:List (Addr×Obj)) (s:Shared) (σ:St) (H:Hp) (x:V) (xs:List V) (v:Value) (us:List Value) (Q:VK),Inv X pins σ H s→RelV x v→Vals xs us→r x xs H Q→
    wpAny (model X.prog X.w) X.A (call (.builtin id) (v::us)) (EP X pins σ Q) X.xe s
section
variable {X:Cx}{a b:Expr}{ta tb:TE}{pos:Pos}
theorem zay {r:R2}(hr:IxR X r)(ha:PE X a ta)(hb:PE X b tb)(hs:zqa b):PE X (.Subscript a b pos) (tOp r ta tb):=by
  intro pins s σ H Q I h;exact Subscript_ (binT ha hb I h fun v u s2 x y H2 I2 rx ry q=>hr a b pins s2 σ H2 x y v u Q I2 rx ry q (hs _ _))
def rIxL (K:Frag):R2:=fun x y H Q=>∃ p xs i v,x=.ref p∧y=.int i∧SqL K H p xs∧atI xs i=some v∧Q v H
def rIxT (K:Frag):R2:=fun x y H Q=>∃ p xs i v,x=.ref p∧y=.int i∧SqT K H p xs∧atI xs i=some v∧Q v H
theorem zaz:IxR X (rIxL X.K):=by
  intro value slice pins s σ H x y v u Q I rx ry h hs;obtain ⟨p,xs,i,z,rfl,rfl,hq,he,q⟩:=h;cases rx
  obtain ⟨t,rfl⟩:=ry;obtain ⟨its,r,pl,hz⟩:=I.list hq;obtain ⟨j,h1,h2,h3,h4,h5⟩:=znf he;obtain ⟨w,ew,rw'⟩:=r.get h2;have hl:=r.length;have hn:=zkb;have fin:EP X pins σ Q w s:=⟨z,H,I,rw',q⟩;by_cases h0:0≤i
  · have hj:i.toNat=j:=by
      rw[seqIndex_of h0 h5]at h1;exact yae h1
    exact item_listR pl.isList h0 (by omega) (by rw[hj];simpa using ew) fin hs
  · have hj:(i+(its.toArray.size:Int)).toNat=j:=by
      rw[seqIndex_neg (by omega) h4]at h1;rw[yav,← hl];exact yae h1
    exact subscriptTail_builtinR (x:=w) pl.isList.typeIs slot_list_getitem.lookup
      (wpAny_getItem_list_neg (Q:=fun r s'=>r=w∧EP X pins σ Q r s') pl.isList (by omega) (by rw[yav] <;> omega) (by omega) (by rw[hj];simpa using ew) ⟨rfl,fin⟩) hs
theorem zaN:IxR X (rIxT X.K):=by
  intro value slice pins s σ H x y v u Q I rx ry h hs;obtain ⟨p,xs,i,z,rfl,rfl,hq,he,q⟩:=h;cases rx
  obtain ⟨t,rfl⟩:=ry;obtain ⟨its,r,pl,hz⟩:=I.tuple hq;obtain ⟨j,h1,h2,h3,h4,h5⟩:=znf he;obtain ⟨w,ew,rw'⟩:=r.get h2;have hl:=r.length;have hn:=zkb;have fin:EP X pins σ Q w s:=⟨z,H,I,rw',q⟩;exact subscriptTail_builtinR (x:=w) pl.typeIs slot_tuple_getitem.lookup
    (getItem_tuple (j:=j) (Q:=fun r s'=>r=w∧EP X pins σ Q r s') pl (by omega) (by omega) (by rw[yav,← hl];exact h1) (by simpa using ew) ⟨rfl,fin⟩) hs
theorem zk6 (its:List Value)(n j:Nat)(u:Value):Obj.mapSeq (·.setIfInBounds j u) { cls:=.type "list",data:=.seq its.toArray n }={ cls:=.type "list",data:=.seq (its.set j u).toArray n }:=by
  simp[Obj.mapSeq]
theorem Inv.lst {pins:List (Addr×Obj)}{σ:St}{H:Hp}{s:Shared}{p:Addr}{xs:List V}(I:Inv X pins σ H s)(h:H p=some (.lst xs)) :
    ∃(its:List Value) (n:Nat),Vals xs its∧s.heap.get? p=some { cls:=.type "list",data:=.seq its.toArray n }∧xs.length≤sizeLine:=by
  obtain ⟨z,its,n,r,e⟩:=I.hok p _ h;exact ⟨its,n,r,e,z⟩
theorem Inv.lstUpd {pins:List (Addr×Obj)}{σ:St}{H:Hp}{s:Shared}{p:Addr}{xs ys:List V}{its its':List Value}{n n':Nat}{f:Obj→Obj}(I:Inv X pins σ H s)(h:H p=some (.lst xs))
    (ho:s.heap.get? p=some { cls:=.type "list",data:=.seq its.toArray n }) (hf:f { cls:=.type "list",data:=.seq its.toArray n }={ cls:=.type "list",data:=.seq its'.toArray n' }) (r:Vals ys its') (hz:ys.length≤sizeLine) (t:Nat) :
    Inv X pins σ (upd H p (.lst ys)) { s with heap:=s.heap.update p f,toks:=t }:=by
  have e:(s.heap.update p f).get? p=some { cls:=.type "list",data:=.seq its'.toArray n' }:=by
    rw[Heap.get?_update_self f ho (by rw[hf] <;> rfl),hf]
  refine I.write (x:=p) (e:=p) (by rw[h];trivial) (.inl rfl) (fun b u hb q=>(yby _ _ (Ne.symm hb)).trans q) ⟨_,e⟩ ?_;exact ⟨hz,its',n',r,e⟩
def zry:V→V→V→Hp→(Hp→Prop)→Prop:=fun o i v H Q=>∃ p xs k j,o=.ref p∧i=.int k∧H p=some (.lst xs)∧ixN xs.length k=some j∧Q (upd H p (.lst (xs.set j v)))
theorem zdM:PSet X zry:=by
  intro pins s σ H o i v ov iv u Q I ro ri rv h;obtain ⟨p,xs,k,j,rfl,rfl,hp,hj,q⟩:=h;cases ro
  obtain ⟨t,rfl⟩:=ri;obtain ⟨its,n,r,ho,hz⟩:=I.lst hp;obtain ⟨h1,h2,h3,h4⟩:=zmD hj;have hl:=r.length;have hn:=zkb;have I':Inv X pins σ (upd H p (.lst (xs.set j v))) { s with heap:=s.heap.update p (Obj.mapSeq (·.setIfInBounds j u)) }:=
    I.lstUpd hp ho (zk6 its n j u) (r.set rv j) (by rw[List.length_set];exact hz) s.toks
  by_cases h0:0≤k
  · have hk:k.toNat=j:=by
      rw[seqIndex_of h0 h4]at h1;exact yae h1
    exact PySem.W.ki_setAt ho h0 (by omega) (by rw[yav,← hl];exact h4) (by rw[hk];exact ⟨_,I',q⟩)
  · have hk:(k+(its.toArray.size:Int)).toNat=j:=by
      rw[seqIndex_neg (by omega) h3]at h1;rw[yav,← hl];exact yae h1
    exact PySem.W.ki_setBack ho (by omega) (by rw[yav,← hl];exact h3) (by omega) (by rw[hk];exact ⟨_,I',q⟩)
theorem zh5 (lo hi:Option Int)(n:Nat):(sliceBounds lo hi none n).1=((HT.sIx n 0 lo:Nat):Int)∧(sliceBounds lo hi none n).2.1=((HT.sIx n n hi:Nat):Int)∧(sliceBounds lo hi none n).2.2=1:=by
  refine ⟨?_,?_,rfl⟩
  · cases lo with
    | none=>simp[sliceBounds,HT.sIx]
    | some i=>
      simp only[sliceBounds,HT.sIx,Option.getD_none,show (1:Int) > 0 by decide,if_true];by_cases h:i < 0
      · simp only[h,if_true] <;> omega
      · simp only[h,if_false] <;> omega
  · cases hi with
    | none=>simp[sliceBounds,HT.sIx]
    | some i=>
      simp only[sliceBounds,HT.sIx,Option.getD_none,show (1:Int) > 0 by decide,if_true];by_cases h:i < 0
      · simp only[h,if_true] <;> omega
      · simp only[h,if_false] <;> omega
theorem zhi (its:List Value)(lo hi:Option Int):slicePick its.toArray lo hi none=((its.drop (HT.sIx its.length 0 lo)).take (HT.sIx its.length its.length hi - HT.sIx its.length 0 lo)).toArray:=by
  obtain ⟨h1,h2,h3⟩:=zh5 lo hi its.toArray.size;unfold slicePick;rw[h1,h2,h3];simp only[sliceRange_one,pick_run,yav] <;> rfl
def rSlL (K:Frag):V→Option Int→Option Int→Hp→VK→Prop:=fun x lo hi H Q=>∃ a xs,x=.ref a∧SqL K H a xs∧∀ p,H p=none→Q (.ref p) (upd H p (.lst (cutV xs lo hi)))
theorem za8:SlR X (rSlL X.K):=by
  intro pins s σ H x v vl vu lo hi sl Q I rx hs pl pu h;obtain ⟨a,xs,rfl,hx,q⟩:=h;cases rx
  obtain ⟨its,r,ht,hz⟩:=I.list hx;have hlen:=r.length;refine ⟨"list",_,slot_list_getitem.lookup,ht.isList.typeIs,?_⟩;refine wpAny_getItem_list_slice ht.isList hs pl pu .none (by simp) ?_ (by rw[yav] <;> omega)
  rw[zhi,← hlen];refine ⟨.ref s.heap.objs.size,_,I.laid (t':=s.toks) (o:=.lst (cutV xs lo hi)) (fun b ob q=>yan _ q) (yaa _) ?_,rfl,q _ (I.hok.fresh (yaa _))⟩;exact ⟨yar (zgq xs lo hi) hz,_,0,(r.drop (HT.sIx xs.length 0 lo)).take (HT.sIx xs.length xs.length hi - HT.sIx xs.length 0 lo),yaK _ rfl⟩
def zgH:V→Bool
  | .non=>true
  | .bl _=>true
  | .int _=>true
  | .str _=>true
  | _=>false
def eqV:V→V→Bool
  | .non,.non=>true
  | .bl a,.bl b=>a == b
  | .bl a,.int b=>(if a then 1 else 0) == b
  | .int a,.bl b=>a == (if b then 1 else 0)
  | .int a,.int b=>a == b
  | .str a,.str b=>a == b
  | _,_=>false
theorem zrg {A:Around}{s:Shared}{y x:V}{u v:Value}(ry:RelV y u)(rx:RelV x v)(fy:zgH y=true)(fx:zgH x=true):SeqAt.EqAt A s u v (eqV y x):=by
  cases y with
  | non=>
    cases ry
    cases x with
    | non=>cases rx;exact SeqAt.EqAt.same _
    | bl b=>cases rx;exact SeqAt.EqAt.none_bool b
    | int b=>obtain ⟨t,rfl⟩:=rx;exact SeqAt.EqAt.none_int b t
    | str b=>obtain ⟨t,rfl⟩:=rx;exact SeqAt.EqAt.none_str b t
    | _=>exact absurd (show false=true from fx) yaA
  | bl a=>
    cases ry
    cases x with
    | non=>cases rx;exact SeqAt.EqAt.bool_none a
    | bl b=>cases rx;exact SeqAt.EqAt.bool_bool a b
    | int b=>obtain ⟨t,rfl⟩:=rx;exact SeqAt.EqAt.bool_int a b t
    | str b=>obtain ⟨t,rfl⟩:=rx;exact SeqAt.EqAt.bool_str a b t
    | _=>exact absurd (show false=true from fx) yaA
  | int a=>
    obtain ⟨t',rfl⟩:=ry;cases x with
    | non=>cases rx;exact SeqAt.EqAt.int_none a t'
    | bl b=>cases rx;exact SeqAt.EqAt.int_bool a t' b
    | int b=>obtain ⟨t,rfl⟩:=rx;exact SeqAt.EqAt.int_int a t' b t
    | str b=>obtain ⟨t,rfl⟩:=rx;exact SeqAt.EqAt.int_str a t' b t
    | _=>exact absurd (show false=true from fx) yaA
  | str a=>
    obtain ⟨t',rfl⟩:=ry;cases x with
    | non=>cases rx;exact SeqAt.EqAt.str_none a t'
    | bl b=>cases rx;exact SeqAt.EqAt.str_bool a t' b
    | int b=>obtain ⟨t,rfl⟩:=rx;exact SeqAt.EqAt.str_int a t' b t
    | str b=>obtain ⟨t,rfl⟩:=rx;exact SeqAt.EqAt.str_str a t' b t
    | _=>exact absurd (show false=true from fx) yaA
  | _=>exact absurd (show false=true from fy) yaA
def eqU (x:V)(u:Value):Bool:=match u with
  | .none=>eqV .non x
  | .bool b=>eqV (.bl b) x
  | .int i _=>eqV (.int i) x
  | .str z _=>eqV (.str z) x
  | _=>false
theorem zoU {x y:V}{u:Value}(r:RelV y u)(f:zgH y=true):eqU x u=eqV y x:=by
  cases y with
  | non=>cases r;rfl
  | bl b=>cases r;rfl
  | int i=>obtain ⟨t,rfl⟩:=r;rfl
  | str z=>obtain ⟨t,rfl⟩:=r;rfl
  | _=>exact absurd (show false=true from f) yaA
theorem zgC {x:V}:∀{xs:List V} {us:List Value},Vals xs us→xs.all zgH=true→us.any (eqU x)=xs.any fun y=>eqV y x
  | _,_,.nil,_=>rfl
  | y::xs,u::us,.cons r t,f=>by
    rw[yb4,ya1]at f;rw[ybn,ybn,zoU r f.1,zgC t f.2]
theorem ze8 {A:Around}{s:Shared}{x:V}{v:Value}(rx:RelV x v)(fx:zgH x=true):∀{xs:List V} {us:List Value},Vals xs us→xs.all zgH=true→∀ u∈us,SeqAt.EqAt A s u v (eqU x u)
  | _,_,.nil,_=>fun u hu=>by cases hu
  | y::xs,u::us,.cons r t,f=>fun u' hu=>by
    rw[yb4,ya1]at f;rcases yat.mp hu with rfl | hu
    · rw[zoU r f.1];exact zrg r rx f.1 fx
    · exact ze8 rx fx t f.2 u' hu
def inV (x:V)(xs:List V):Bool:=xs.any fun y=>eqV y x
def rIn (K:Frag)(neg:Bool):R2:=fun x y H Q=>∃ p xs,y=.ref p∧(SqL K H p xs∨SqT K H p xs)∧zgH x=true∧xs.all zgH=true∧Q (.bl (if neg then !inV x xs else inV x xs)) H
theorem zl4:OpR X (compareOp .In) (rIn X.K false):=by
  intro pins s σ H x y v u Q I rx ry h;obtain ⟨p,xs,rfl,hq,fx,fs,q⟩:=h;cases ry
  rcases hq with hq | hq
  · obtain ⟨its,r,pl,hz⟩:=I.list hq
    refine SeqAt.in_listAt (eqU x) pl.isList (fun w hw=>ze8 rx fx r fs w (by simpa using hw)) ⟨.bl _,H,I,rfl,?_⟩;rw[show its.toArray.any (eqU x)=its.any (eqU x) by simp,zgC r fs];exact q
  · obtain ⟨its,r,pl,hz⟩:=I.tuple hq
    refine SeqAt.in_tupleAt (eqU x) pl (fun w hw=>ze8 rx fx r fs w (by simpa using hw)) ⟨.bl _,H,I,rfl,?_⟩;rw[show its.toArray.any (eqU x)=its.any (eqU x) by simp,zgC r fs];exact q
theorem zdA:OpR X (compareOp .NotIn) (rIn X.K true):=by
  intro pins s σ H x y v u Q I rx ry h;obtain ⟨p,xs,rfl,hq,fx,fs,q⟩:=h;cases ry
  rcases hq with hq | hq
  · obtain ⟨its,r,pl,hz⟩:=I.list hq
    refine SeqAt.notIn_listAt (eqU x) pl.isList (fun w hw=>ze8 rx fx r fs w (by simpa using hw)) ⟨.bl _,H,I,rfl,?_⟩;rw[show its.toArray.any (eqU x)=its.any (eqU x) by simp,zgC r fs];exact q
  · obtain ⟨its,r,pl,hz⟩:=I.tuple hq
    refine SeqAt.notIn_tupleAt (eqU x) pl (fun w hw=>ze8 rx fx r fs w (by simpa using hw)) ⟨.bl _,H,I,rfl,?_⟩;rw[show its.toArray.any (eqU x)=its.any (eqU x) by simp,zgC r fs];exact q
theorem zal:zey X (.builtin "len") (fun xs H Q=>∃ p ys,xs=[.ref p]∧(SqL X.K H p ys∨SqT X.K H p ys)∧Q (.int ys.length) H):=by
  intro pins s σ H xs us Q I r h;obtain ⟨p,ys,rfl,hq,q⟩:=h;obtain ⟨u,rfl,rx⟩:=zgF r;cases rx
  have hn:=zkb;rcases hq with hq | hq
  · obtain ⟨its,r',pl,hz⟩:=I.list hq
    have hlen:=r'.length;exact Calls.call_len_list pl.isList (by simp only[yav] <;> omega) ⟨.int ys.length,H,I.tok _,⟨s.toks+1,by rw[yav,hlen]⟩,q⟩
  · obtain ⟨its,r',pl,hz⟩:=I.tuple hq
    have hlen:=r'.length;exact len_tuple pl (by simp only[yav] <;> omega) ⟨.int ys.length,H,I.tok _,⟨s.toks+1,by rw[yav,hlen]⟩,q⟩
theorem zbJ:zey X (.type "list") (fun xs H Q=>∃ p ys,xs=[.ref p]∧(SqL X.K H p ys∨SqT X.K H p ys)∧∀ l,H l=none→Q (.ref l) (upd H l (.lst ys))):=by
  intro pins s σ H xs us Q I r h;obtain ⟨p,ys,rfl,hq,q⟩:=h;obtain ⟨u,rfl,rx⟩:=zgF r;cases rx
  have fin:∀(its:List Value),Vals ys its→ys.length≤sizeLine→∀(h':Heap) (c':Nat),(∀ b o',s.heap.get? b=some o'→h'.get? b=some o')→
      h'.get? s.heap.objs.size=some { cls:=.type "list",dict:=none,data:=.seq its.toArray c',slots:=#[] }→EP X pins σ Q (.ref s.heap.objs.size) { s with heap:=h' }:=fun its r' hz h' c' kp e=>
    ⟨.ref s.heap.objs.size,_,I.laid (t':=s.toks) kp (yaa _) (show zbA X.prog X.w _ h' _ (.lst ys) from ⟨hz,its,c',r',e⟩),rfl,q _ (I.hok.fresh (yaa _))⟩
  rcases hq with hq | hq
  · obtain ⟨its,r',pl,hz⟩:=I.list hq
    have hlen:=r'.length;obtain ⟨o,ho,hc,n,hd⟩:=pl.isList;exact call_list_seq p (.inl rfl) ho hc hd (fun h' c' kp e=>fin its r' hz h' c' kp e) (by simp only[yav] <;> omega)
  · obtain ⟨its,r',pl,hz⟩:=I.tuple hq
    have hlen:=r'.length;obtain ⟨o,ho,hc,n,hd⟩:=pl;exact call_list_seq p (.inr rfl) ho hc hd (fun h' c' kp e=>fin its r' hz h' c' kp e) (by simp only[yav] <;> omega)
theorem zdg:zey X (.type "tuple") (fun xs H Q=>∃ p ys,xs=[.ref p]∧((SqL X.K H p ys∧∀ l,H l=none→Q (.ref l) (upd H l (.tup ys)))∨(SqT X.K H p ys∧Q (.ref p) H))):=by
  intro pins s σ H xs us Q I r h;obtain ⟨p,ys,rfl,h⟩:=h;obtain ⟨u,rfl,rx⟩:=zgF r;cases rx
  rcases h with ⟨hq,q⟩ | ⟨hq,q⟩
  · obtain ⟨its,r',pl,hz⟩:=I.list hq
    have hlen:=r'.length;refine call_tuple_list pl.isList (fun h' kp=>?_) (by simp only[yav] <;> omega)
    have I1:Inv X pins σ H { s with heap:=h' }:=I.kept (t':=s.toks) kp;have I2:Inv X pins σ (upd H h'.objs.size (.tup ys)) { s with heap:=h'.push { cls:=.type "tuple",data:=.seq its.toArray } }:=
      I1.laid (t':=s.toks) (fun b o e=>yan _ e) (yaa _) (show zbA X.prog X.w _ _ _ (.tup ys) from ⟨hz,its,r',IsTup.new _ _⟩)
    exact ⟨.ref h'.objs.size,_,I2,rfl,q _ (I1.hok.fresh (yaa _))⟩
  · obtain ⟨its,r',pl,hz⟩:=I.tuple hq
    exact call_tuple_same pl ⟨.ref p,H,I,rfl,q⟩
def tyV (K:Frag)(T:String)(x:V)(H:Hp):Prop:=match x with
  | .str _=>T = "str"
  | .int _=>T = "int"
  | .ref p=>(T = "list"∧∃ xs,SqL K H p xs)∨(T = "tuple"∧∃ o,K.lookup p=some o∧o.cls=.type "tuple"∧o.dict=none)∨
      (T = "dict"∧((∃ kvs,H p=some (.dK kvs))∨∃ kvs,H p=some (.dT kvs)))∨(T = "set"∧∃ S n,H p=some (.set S n))
  | _=>False
theorem zor {pins:List (Addr×Obj)}{σ:St}{H:Hp}{s:Shared}{T:String}{x:V}{v:Value}(I:Inv X pins σ H s)(r:RelV x v)(ty:tyV X.K T x H) :
    s.TypeIs v T∧∀ a,v=.ref a→∃ ob,s.heap.get? a=some ob∧ob.dict=none:=by
  cases x with
  | str z=>
    obtain ⟨t,rfl⟩:=r;cases (show T = "str" from ty)
    exact ⟨typeIs_str s z t,fun _ e=>nomatch e⟩
  | int i=>
    obtain ⟨t,rfl⟩:=r;cases (show T = "int" from ty)
    exact ⟨typeIs_int s i t,fun _ e=>nomatch e⟩
  | ref p=>
    cases r
    rcases ty with ⟨rfl,xs,hq⟩ | ⟨rfl,o,hk,hc,hd⟩ | ⟨rfl,hk⟩ | ⟨rfl,S,n,hk⟩
    · obtain ⟨its,_,pl,_⟩:=I.list hq
      refine ⟨pl.isList.typeIs,fun a e=>?_⟩;cases e
      obtain ⟨o,n,e,c,hd,_⟩:=pl;exact ⟨o,e,hd⟩
    · refine ⟨⟨o,I.kIn p o hk,hc⟩,fun a e=>?_⟩
      cases e
      exact ⟨o,I.kIn _ o hk,hd⟩
    · have z:∃ o,s.heap.get? p=some o∧o.ExactDict:=by
        rcases hk with ⟨kvs,hk⟩ | ⟨kvs,hk⟩
        · obtain ⟨_,_,_,_,o,_,_,e,ex,_⟩:=I.hok p _ hk
          exact ⟨o,e,ex⟩
        · obtain ⟨_,_,_,_,o,_,_,e,ex,_⟩:=I.hok p _ hk
          exact ⟨o,e,ex⟩
      obtain ⟨o,e,ex⟩:=z;refine ⟨⟨o,e,ex.1⟩,fun a e2=>?_⟩;cases e2
      exact ⟨o,e,ex.2.1⟩
    · obtain ⟨o,_,_,_,e,ex,_⟩:=I.hok p _ hk
      refine ⟨⟨o,e,ex.1⟩,fun a e2=>?_⟩;cases e2
      exact ⟨o,e,ex.2.1⟩
  | _=>exact False.elim ty
def tBM0 (K:Frag)(T:String)(r:V→List V→Hp→VK→Prop)(to:TE):TE:=fun σ H Q=>to σ H fun x H1=>tyV K T x H1∧r x [] H1 Q
def tBM (K:Frag)(T:String)(r:V→List V→Hp→VK→Prop)(to:TE)(t:TA):TE:=fun σ H Q=>to σ H fun x H1=>tyV K T x H1∧t σ H1 fun xs H2=>r x xs H2 Q
variable {o e:Expr}{es:List Expr}{to:TE}{t:TA}{name:Str}{apos cpos:Pos}{T id:String}{r:V→List V→Hp→VK→Prop}
theorem zqC (pa:PlainAttrs T)(slot:Slot T name id)(hty:typeOf (.builtin id)=pure (.type "method_descriptor"))(hm:MtR X id r)(ho:PE X o to)
    (hbase:attributeBase o name X.env (eval o X.env)=eval o X.env:=by rfl) (hline:(apos.endLine == cpos.line)=true:=by rfl):PE X (.Call (.Attribute o name apos) [] [] cpos) (tBM0 X.K T r to):=by
  intro pins s σ H Q I h;refine wpAny_Call_method0_late hbase hline (thn (ho pins s σ H _ I h) fun v s1 zq0=>?_);obtain ⟨x,H1,I1,r1,ty,q1⟩:=zq0;obtain ⟨h1,h2⟩:=zor I1 r1 ty;exact ⟨T,id,pa,slot,hty,h1,h2,Calls.callWith_builtin rfl (PySem.evalArgs_none (hm pins s1 σ H1 x [] v [] Q I1 r1 .nil q1))⟩
theorem zep (pa:PlainAttrs T)(slot:Slot T name id)(hty:typeOf (.builtin id)=pure (.type "method_descriptor"))(hm:MtR X id r)(ho:PE X o to)(ha:PA X (e::es) t)
    (hbase:attributeBase o name X.env (eval o X.env)=eval o X.env:=by rfl)
    (hfew:((backTo cpos (starEach (e::es) X.env)).all (fun x=>!x.1) && (backToKw cpos (keywordEach [] X.env)).all (fun x=>x.1.isSome)
      && decide ((e::es).length+([]:List Keyword).length+(if ([]:List Keyword).isEmpty then 0 else 1) < 30))=true:=by rfl)
    (hline:(apos.endLine == cpos.line)=true:=by rfl) (hs:starEach (e::es) X.env=(false,eval e X.env)::starEach es X.env:=by rfl) (hplain:(backTo cpos (starEach es X.env)).any (·.1)=false:=by rfl) :
    PE X (.Call (.Attribute o name apos) (e::es) [] cpos) (tBM X.K T r to t):=by
  intro pins s σ H Q I h;refine wpAny_Call_method_late hbase hfew hline rfl (thn (ho pins s σ H _ I h) fun v s1 zq0=>?_);obtain ⟨x,H1,I1,r1,ty,q1⟩:=zq0;obtain ⟨h1,h2⟩:=zor I1 r1 ty;refine ⟨T,id,pa,slot,hty,h1,h2,?_⟩;have hA:=ha cpos pins s1 σ H1 _ I1 q1;rw[hs]at hA ⊢;refine Calls.callWith_builtin (by show (false || (backTo cpos (starEach es X.env)).any (·.1))=false;rw[hplain] <;> rfl) (Calls.evalArgs_plain ?_)
  exact thn hA fun us s2 zq0=>(by obtain ⟨vs,H2,I2,r2,q2⟩:=zq0;exact hm pins s2 σ H2 x vs v us Q I2 r1 r2 q2)
end
end L2
namespace L2
open PySem PySem.Spec PyProof.Rows
def MtM (X:Cx)(id:String)(r:V→List V→Hp→VK→Prop):Prop:=
  ∀(pins:List (Addr×Obj)) (s:Shared) (σ:St) (H:Hp) (x:V) (xs:List V) (v:Value) (us:List Value) (Q:VK),Inv X pins σ H s→RelV x v→Vals xs us→r x xs H Q→
    wpAny (model X.prog X.w) X.A (call (.builtin id) (v::us)) (EP X pins σ Q) X.xe s
theorem Vals.one:∀{x:V} {us:List Value},Vals [x] us→∃ u,us=[u]∧RelV x u
  | _,_,.cons r .nil=>⟨_,rfl,r⟩
section
variable {X:Cx}{pins:List (Addr×Obj)}{σ:St}{H:Hp}{s:Shared}{l b:Addr}{xs ys zs:List V}
theorem Inv.lset {its its':List Value}{n:Nat}{f:Array Value→Array Value}{t':Nat}(I:Inv X pins σ H s)(hH:H l=some (.lst xs))
    (e:s.heap.get? l=some { cls:=.type "list",data:=.seq its.toArray n }) (hf:f its.toArray=its'.toArray) (hv:Vals ys its') (hz:ys.length≤sizeLine) :
    Inv X pins σ (upd H l (.lst ys)) { s with heap:=s.heap.update l (Obj.mapSeq f),toks:=t' }:=by
  have q:=PySem.IsL.update e f;rw[hf]at q;refine I.write (x:=l) (e:=l) (by rw[hH];exact trivial) (.inl rfl) (fun b' u hb hu=>(yby s.heap (Obj.mapSeq f) (Ne.symm hb)).trans hu) ⟨_,q⟩ ?_;exact ⟨hz,its',_,hv,q⟩
theorem Inv.lnew {its:List Value}{t':Nat}(I:Inv X pins σ H s)(hv:Vals ys its)(hz:ys.length≤sizeLine) :
    Inv X pins σ (upd H s.heap.objs.size (.lst ys)) { s with heap:=s.heap.push { cls:=.type "list",data:=.seq its.toArray },toks:=t' }:=
  I.laid (fun _ _ q=>yan _ q) (yaa _) ⟨hz,its,0,hv,yaK _ rfl⟩
theorem Inv.fresh (I:Inv X pins σ H s):H s.heap.objs.size=none:=I.hok.fresh (yaa _)
theorem Inv.lstM (I:Inv X pins σ H s)(hH:H l=some (.lst xs)):xs.length≤sizeLine∧∃(its:List Value) (n:Nat),Vals xs its∧xs.length=its.length∧s.heap.get? l=some { cls:=.type "list",data:=.seq its.toArray n }:=by
  obtain ⟨z,its,n,r,e⟩:=I.hok l _ hH;exact ⟨z,its,n,r,r.length,e⟩
theorem znT {n:Nat}(h:n≤sizeLine):Builtin.List.listTooLong n=false:=by
  unfold Builtin.List.listTooLong;exact yaq (by omega)
end
section
variable {X:Cx}
def zpl:V→List V→Hp→VK→Prop:=fun x vs H Q=>∃ l xs y,x=.ref l∧vs=[y]∧H l=some (.lst xs)∧xs.length < sizeLine∧Q .non (upd H l (.lst (xs++[y])))
theorem zaQ:MtM X "list.append" zpl:=by
  intro pins s σ H x vs v us Q I rx rv h;obtain ⟨l,xs,y,rfl,rfl,hH,hz,q⟩:=h;cases rx
  obtain ⟨u,rfl,ru⟩:=rv.one;obtain ⟨z,its,n,r,hl,e⟩:=I.lstM hH;refine call_meets F.slot_list_append ⟨_,e,rfl⟩ F.entry_list_append (F.args_list_append_2 _ _) (PySem.list_append l its.toArray n u (by rw[yav];omega)) ⟨e,?_⟩;refine ⟨.non,_,I.lset (its':=its++[u]) hH e (by simp) (r.append (.cons ru .nil)) ?_,rfl,q⟩;rw[yak,yaL];omega
def zpi:V→List V→Hp→VK→Prop:=fun x vs H Q=>∃ l b xs zs,x=.ref l∧vs=[.ref b]∧H l=some (.lst xs)∧H b=some (.lst zs)∧xs.length+zs.length≤sizeLine∧Q .non (upd H l (.lst (xs++zs)))
theorem zmi:MtM X "list.extend" zpi:=by
  intro pins s σ H x vs v us Q I rx rv h;obtain ⟨l,b,xs,zs,rfl,rfl,hH,hB,hz,q⟩:=h;cases rx
  obtain ⟨u,rfl,ru⟩:=rv.one;cases ru
  obtain ⟨z,its,n,r,hl,e⟩:=I.lstM hH;obtain ⟨z2,its2,n2,r2,hl2,e2⟩:=I.lstM hB;have hsz:its.toArray.size+its2.toArray.size≤sizeLine:=by rw[yav,yav];omega
  have hlong:¬ (!its.toArray.isEmpty && Builtin.List.listTooLong (its.toArray.size+its2.toArray.size))=true:=by
    rw[znT hsz,Bool.and_false];exact yaA
  refine call_meets F.slot_list_extend ⟨_,e,rfl⟩ F.entry_list_extend (F.args_list_extend_2 _ _)
    (AutoSeq1.list_extend_list_list_0 l its.toArray n b its2.toArray n2 hlong (by rw[yav];omega) (by omega)) ⟨e,e2,?_⟩
  refine ⟨.non,_,I.lset (its':=its++its2) hH e (by simp) (r.append r2) ?_,rfl,q⟩;rw[yak];omega
def rCat:R2:=fun x y H Q=>∃ l b xs zs,x=.ref l∧y=.ref b∧H l=some (.lst xs)∧H b=some (.lst zs)∧xs.length+zs.length≤sizeLine∧∀ p,H p=none→Q (.ref p) (upd H p (.lst (xs++zs)))
theorem zbO:OpR X (binaryOp .Add) rCat:=by
  intro pins s σ H x y v u Q I rx ry h;obtain ⟨l,b,xs,zs,rfl,rfl,hH,hB,hz,q⟩:=h;cases rx
  cases ry
  obtain ⟨z,its,n,r,hl,e⟩:=I.lstM hH;obtain ⟨z2,its2,n2,r2,hl2,e2⟩:=I.lstM hB;refine PySem.P.add_list e e2 ?_ (by rw[yav,yav];omega);have ea:its.toArray++its2.toArray=(its++its2).toArray:=by simp
  rw[ea];exact ⟨.ref _,_,I.lnew (t':=s.toks) (r.append r2) (by rw[yak];omega),rfl,q _ I.fresh⟩
end
end L2
namespace L2
open PySem PySem.Spec PyProof.Rows
section
variable {κ:Type}[DecidableEq κ]
def valV (kvs:List (κ×V))(k:κ):Option V:=(kvs.find? fun kv=>decide (kv.1=k)).map (·.2)
def putK (kvs:List (κ×V))(k:κ)(v:V):List (κ×V):=
  if (kvs.any fun kv=>decide (kv.1=k))=true then kvs.map (fun kv=>if kv.1=k then (kv.1,v) else kv) else kvs++[(k,v)]
theorem zcA {p:κ×V}{r:List (κ×V)}{k:κ}(e:p.1=k):valV (p::r) k=some p.2:=by simp[valV,ybA,e]
theorem zbB {p:κ×V}{r:List (κ×V)}{k:κ}(e:¬ p.1=k):valV (p::r) k=valV r k:=by simp[valV,ybA,e]
theorem zhe (k:κ):∀ kvs:List (κ×V),(kvs.any fun kv=>decide (kv.1=k))=(valV kvs k).isSome
  | []=>rfl
  | p::r=>by
    rw[ybn];by_cases e:p.1=k
    · simp only[zcA e,yah e,Bool.true_or,Option.isSome_some]
    · rw[zbB e,yaq e,Bool.false_or];exact zhe k r
theorem zc9 (kvs:List (κ×V))(k:κ)(v:V):(putK kvs k v).length≤kvs.length+1:=by
  unfold putK;split
  · rw[yab];omega
  · rw[yak,yaI,ybB];omega
theorem zeV {kvs:List (κ×V)}{k:κ}(v:V)(h:valV kvs k=none):putK kvs k v=kvs++[(k,v)]:=by
  unfold putK;rw[zhe,h];exact if_neg (by decide)
theorem RelO.isSome_eq {o:Option V}{u:Option Value}(r:RelO o u):o.isSome=u.isSome:=by
  cases o with
  | none=>cases u with
    | none=>rfl
    | some _=>exact (show False from r).elim
  | some _=>cases u with
    | none=>exact (show False from r).elim
    | some _=>rfl
theorem RelO.getD {o:Option V}{u:Option Value}{d:V}{d':Value}(r:RelO o u)(rd:RelV d d'):RelV (o.getD d) (u.getD d'):=by
  cases o with
  | none=>cases u with
    | none=>exact rd
    | some _=>exact (show False from r).elim
  | some _=>cases u with
    | none=>exact (show False from r).elim
    | some _=>exact r
theorem KV.val {kvs:List (κ×V)}{vs:List (κ×Value)}(r:KV kvs vs)(k:κ):RelO (valV kvs k) (valueAt vs k):=by
  unfold KV at r
  induction r with
  | nil=>exact True.intro
  | @cons p q ps qs h t ih=>
    obtain ⟨h1,h2⟩:=h;by_cases e:p.1=k
    · have e':q.1=k:=h1.symm.trans e
      have b:valueAt (q::qs) k=some q.2:=by simp[valueAt,ybA,e']
      rw[zcA e,b];exact h2
    · have e':¬ q.1=k:=fun z=>e (h1.trans z)
      have b:valueAt (q::qs) k=valueAt qs k:=by simp[valueAt,ybA,e']
      rw[zbB e,b];exact ih
theorem KV.any {kvs:List (κ×V)}{vs:List (κ×Value)}(r:KV kvs vs)(k:κ):(kvs.any fun kv=>decide (kv.1=k))=vs.any fun kv=>decide (kv.1=k):=by
  unfold KV at r
  induction r with
  | nil=>rfl
  | cons h t ih=>rw[ybn,ybn,ih,h.1]
theorem KV.repl {kvs:List (κ×V)}{vs:List (κ×Value)}(r:KV kvs vs)(k:κ){y:V}{u:Value}(ry:RelV y u) :
    KV (kvs.map fun kv=>if kv.1=k then (kv.1,y) else kv) (vs.map fun kv=>if kv.1=k then (kv.1,u) else kv):=by
  unfold KV at r ⊢
  induction r with
  | nil=>exact .nil
  | @cons p q ps qs h t ih=>
    rw[yax,yax];refine .cons ?_ ih;obtain ⟨h1,h2⟩:=h;by_cases e:p.1=k
    · rw[if_pos e,if_pos (h1.symm.trans e)];exact ⟨h1,ry⟩
    · rw[if_neg e,if_neg (fun z=>e (h1.trans z))];exact ⟨h1,h2⟩
theorem KV.put {kvs:List (κ×V)}{vs:List (κ×Value)}(r:KV kvs vs)(k:κ){y:V}{u:Value}(ry:RelV y u):KV (putK kvs k y) (stored vs k u):=by
  unfold putK stored;rw[r.any k];by_cases e:(vs.any fun kv=>decide (kv.1=k))=true
  · rw[if_pos e,if_pos e];exact r.repl k ry
  · rw[if_neg e,if_neg e];exact Paired.snoc r ⟨rfl,ry⟩
theorem KV.length {kvs:List (κ×V)}{vs:List (κ×Value)}(r:KV kvs vs):kvs.length=vs.length:=Paired.length r
end
theorem zk8 {P:Program}{w:World}{k:Key}{u:Value}(r:RelV (kV k) u):(zaM P w).is k u=true:=by
  cases k with
  | inl i=>obtain ⟨t,e⟩:=(show ∃ t,u=Value.int i t from r);subst e;exact zi3 P w i t
  | inr x=>obtain ⟨t,e⟩:=(show ∃ t,u=Value.str x t from r);subst e;exact zi2 P w x t
theorem zis {P:Program}{w:World}:∀{ks:List Key} {us:List Value},Vals (ks.map kV) us→ItemsAre (zaM P w) ks us
  | [],_,r=>by rw[ybR]at r;cases r;exact .nil
  | k::ks,_,r=>by
    rw[yax]at r;cases r with
    | cons h t=>exact .cons (zk8 h) (zis t)
abbrev KT (H:Hp):List (List Key×V)→List (List Key×Addr×Value)→Prop:=Paired fun p q=>p.1=q.1∧H q.2.1=some (.tup (p.1.map kV))∧RelV p.2 q.2.2
theorem KT.val {H:Hp}{kvs:List (List Key×V)}{xs:List (List Key×Addr×Value)}(r:KT H kvs xs)(k:List Key):RelO (valV kvs k) ((atKey xs k).map (·.2)):=by
  induction r with
  | nil=>exact True.intro
  | @cons p q ps qs h t ih=>
    obtain ⟨h1,_,h2⟩:=h;by_cases e:p.1=k
    · have e':q.1=k:=h1.symm.trans e
      have b:atKey (q::qs) k=some q.2:=by simp[atKey,ybA,e']
      rw[zcA e,b];exact h2
    · have e':¬ q.1=k:=fun z=>e (h1.trans z)
      have b:atKey (q::qs) k=atKey qs k:=by simp[atKey,ybA,e']
      rw[zbB e,b];exact ih
theorem KT.repl {H:Hp}{kvs:List (List Key×V)}{xs:List (List Key×Addr×Value)}(r:KT H kvs xs)(k:List Key){y:V}{u:Value}(ry:RelV y u) :
    KT H (kvs.map fun kv=>if kv.1=k then (kv.1,y) else kv) (xs.map (putAt k u)):=by
  induction r with
  | nil=>exact .nil
  | @cons p q ps qs h t ih=>
    rw[yax,yax];refine .cons ?_ ih;obtain ⟨h1,h2,h3⟩:=h;unfold putAt;by_cases e:p.1=k
    · rw[if_pos e,if_pos (h1.symm.trans e)];exact ⟨h1,h2,ry⟩
    · rw[if_neg e,if_neg (fun z=>e (h1.trans z))];exact ⟨h1,h2,h3⟩
theorem KT.put {H:Hp}{kvs:List (List Key×V)}{xs:List (List Key×Addr×Value)}(r:KT H kvs xs)(k:List Key){b:Addr}{y:V}{u:Value}(hb:H b=some (.tup (k.map kV)))(ry:RelV y u) :
    KT H (putK kvs k y) (storedH xs k b u):=by
  have e:(kvs.any fun kv=>decide (kv.1=k))=(atKey xs k).isSome:=by
    rw[zhe,(r.val k).isSome_eq,Option.isSome_map]
  unfold putK storedH;rw[e];by_cases q:(atKey xs k).isSome=true
  · rw[if_pos q,if_pos q];exact r.repl k ry
  · rw[if_neg q,if_neg q];exact Paired.snoc r ⟨rfl,hb,ry⟩
theorem KT.keeps {H H':Hp}{kvs:List (List Key×V)}{xs:List (List Key×Addr×Value)}(r:KT H kvs xs)(ht:∀ b ys,H b=some (.tup ys)→H' b=some (.tup ys)):KT H' kvs xs:=
  Paired.mapP r fun _ _ z=>⟨z.1,ht _ _ z.2.1,z.2.2⟩
section
variable {P:Program}{w:World}{H:Hp}{h:Heap}{a:Addr}
theorem zqu {u:HO}(ok:HOk P w H h)(e:Rd H a u):zbA P w H h a u:=e.ok ok
theorem zmS {kvs:List (Key×V)}(ok:HOk P w H h)(e:Rd H a (.dK kvs)):kvs.length≤sizeLine∧(a == sysModules)=false∧∃ vs,KV kvs vs∧h.DictOf (zaM P w) a vs:=
  show zbA P w H h a (.dK kvs) from zqu ok e
theorem zp0 {kvs:List (Key×V)}(ok:HOk P w H h)(e:H a=some (.dK kvs)):kvs.length≤sizeLine∧(a == sysModules)=false∧∃ vs,KV kvs vs∧h.DictOf (zaM P w) a vs:=zmS ok (.inl e)
theorem zkh {ks:List Key}(ok:HOk P w H h)(e:H a=some (.tup (ks.map kV))):(tupleKind (zaM P w)).is h ks a:=by
  obtain ⟨_,its,r,o,h1,h2,n,h3⟩:=(show zbA P w H h a (.tup (ks.map kV)) from ok a _ e);exact ⟨o,its.toArray,n,h1,h2,h3,by simpa using zis r⟩
theorem zmR {kvs:List (List Key×V)}(ok:HOk P w H h)(e:Rd H a (.dT kvs)):kvs.length≤sizeLine∧(a == sysModules)=false∧
    ∃ xs,KT H kvs xs∧h.DictOfH (tupleKind (zaM P w)) a xs:=by
  obtain ⟨z,y,xs,r,o,es,ep,h1,h2,h3,h4,h5⟩:=(show zbA P w H h a (.dT kvs) from zqu ok e);refine ⟨z,y,xs,r,o,es,ep,h1,h2,h3,h4,fun x hx=>?_,h5⟩;have all:∀{l:List (List Key×V)} {m:List (List Key×Addr×Value)},KT H l m→∀ x∈m,(tupleKind (zaM P w)).is h x.1 x.2.1:=by
    intro l m q
    induction q with
    | nil=>intro x hx;exact nomatch hx
    | @cons p q ps qs hq t ih=>
      intro x hx;rcases yat.mp hx with e | hx
      · subst e
        exact zkh ok (by rw[← hq.1];exact hq.2.1)
      · exact ih x hx
  exact all r x hx
theorem zrN {kvs:List (List Key×V)}(ok:HOk P w H h)(e:H a=some (.dT kvs)):kvs.length≤sizeLine∧(a == sysModules)=false∧
    ∃ xs,KT H kvs xs∧h.DictOfH (tupleKind (zaM P w)) a xs:=zmR ok (.inl e)
end
def DGet (H:Hp)(a:Addr)(y:V)(r:Option V):Prop:=
  (∃ kvs k,Rd H a (.dK kvs)∧y=kV k∧r=valV kvs k)∨∃ kvs k b,Rd H a (.dT kvs)∧y=.ref b∧H b=some (.tup (k.map kV))∧r=valV kvs k
def DPut (H:Hp)(a:Addr)(y v:V)(H':Hp):Prop:=
  (∃ kvs k,H a=some (.dK kvs)∧y=kV k∧kvs.length < sizeLine∧H'=upd H a (.dK (putK kvs k v)))∨
  ∃ kvs k b,H a=some (.dT kvs)∧y=.ref b∧H b=some (.tup (k.map kV))∧kvs.length < sizeLine∧H'=upd H a (.dT (putK kvs k v))
theorem DGet.k {H:Hp}{a:Addr}{kvs:List (Key×V)}{k:Key}(e:H a=some (.dK kvs)):DGet H a (kV k) (valV kvs k):=.inl ⟨kvs,k,.inl e,rfl,rfl⟩
theorem DGet.t {H:Hp}{a b:Addr}{kvs:List (List Key×V)}{k:List Key}(e:H a=some (.dT kvs))(eb:H b=some (.tup (k.map kV))):DGet H a (.ref b) (valV kvs k):=.inr ⟨kvs,k,b,.inl e,rfl,eb,rfl⟩
theorem DPut.k {H:Hp}{a:Addr}{kvs:List (Key×V)}{k:Key}{v:V}(e:H a=some (.dK kvs))(hl:kvs.length < sizeLine):DPut H a (kV k) v (upd H a (.dK (putK kvs k v))):=.inl ⟨kvs,k,e,rfl,hl,rfl⟩
theorem DPut.t {H:Hp}{a b:Addr}{kvs:List (List Key×V)}{k:List Key}{v:V}(e:H a=some (.dT kvs))(eb:H b=some (.tup (k.map kV)))(hl:kvs.length < sizeLine) :
    DPut H a (.ref b) v (upd H a (.dT (putK kvs k v))):=.inr ⟨kvs,k,b,e,rfl,eb,hl,rfl⟩
section
variable {X:Cx}{pins:List (Addr×Obj)}{σ:St}{H:Hp}{s:Shared}{a:Addr}{y v:V}{u r:Value}{o:Option V}{A:Around}{E:Value→Shared→Prop}
theorem Inv.big (I:Inv X pins σ H s):sysModules < s.heap.objs.size:=by
  have h:mainGlobals < s.heap.objs.size:=(I.mod.glob.keeps I.bk).lt;exact Nat.lt_trans (by decide) h
theorem zm0 {Q:Value→Shared→Prop}(hu:A.units+1 < cLine)(I:Inv X pins σ H s)(g:DGet H a y (some v))(ry:RelV y u)(h:∀ w' s',Inv X pins σ H s'→RelV v w'→Q w' s') :
    wpAny (model X.prog X.w) A (getItem (.ref a) u) Q E s:=by
  rcases g with ⟨kvs,k,e,ey,l⟩ | ⟨kvs,k,b,e,ey,eb,l⟩
  · subst ey
    obtain ⟨z,hd,vs,rel,dd⟩:=zmS I.hok e;obtain ⟨w',hw,rw'⟩:=RelO.some_of (v:=v) (o:=valueAt vs k) (by rw[l];exact rel.val k);exact wpAny_getItem_of (zk8 ry) dd.mapOf hw (h w' _ (I.tok _) rw')
  · subst ey
    cases (show u=Value.ref b from ry)
    obtain ⟨z,hd,xs,rel,dd⟩:=zmR I.hok e;obtain ⟨w',hw,rw'⟩:=RelO.some_of (v:=v) (o:=(atKey xs k).map (·.2)) (by rw[l];exact rel.val k);obtain ⟨p,hp,hp2⟩:=ybh.mp hw;refine wpAny_getItem_heap (tupleKind_room_in1 hu) (zkh I.hok eb) dd hp ?_;rw[hp2];exact h w' _ (I.tok _) rw'
theorem zjh {h':Heap}{t':Nat}{ob:HO}(I:Inv X pins σ H s)(mu:Mut (H a))(hs:Heap.SameBut a s.heap h')(he:∃ q,h'.get? a=some q)(new:zbA X.prog X.w (upd H a ob) h' a ob) :
    Inv X pins σ (upd H a ob) { s with heap:=h',toks:=t' }:=
  I.write (x:=a) (e:=a) mu (.inl rfl) (fun b q hb z=>(hs.2 b hb).trans z) he new
theorem zoV {P:Program}{w:World}{H':Hp}{h':Heap}{kvs:List (Key×V)}{vs:List (Key×Value)}(z:kvs.length≤sizeLine)(hd:(a == sysModules)=false)(rel:KV kvs vs)(dd:h'.DictOf (zaM P w) a vs) :
    zbA P w H' h' a (.dK kvs):=⟨z,hd,vs,rel,dd⟩
theorem zmZ {H':Hp}{Q:Unit→Shared→Prop}(hu:A.units+1 < cLine)(I:Inv X pins σ H s)(g:DPut H a y v H')(ry:RelV y u)(rv:RelV v r)(h:∀ s',Inv X pins σ H' s'→Q () s') :
    wpAny (model X.prog X.w) A (setItem (.ref a) u r) Q E s:=by
  rcases g with ⟨kvs,k,e,ey,l,eH⟩ | ⟨kvs,k,b,e,ey,eb,l,eH⟩
  · subst ey eH
    obtain ⟨z,hd,vs,rel,dd⟩:=zp0 I.hok e;have hz:vs.length≤sizeLine:=by rw[← rel.length];exact z
    have hl:(putK kvs k v).length≤sizeLine:=by have:=zc9 kvs k v;omega
    refine wpAny_setItem_pairs (hsz:=hz) (zk8 ry) dd fun h' dd' hs=>h _ ?_;have he:∃ q,h'.get? a=some q:=let ⟨q,_,_,hq,_⟩:=dd';⟨q,hq⟩;exact zjh I (by rw[e];exact True.intro) hs he (zoV hl hd (rel.put k rv) dd')
  · subst ey eH
    cases (show u=Value.ref b from ry)
    obtain ⟨z,hd,xs,rel,dd⟩:=zrN I.hok e;have hz:xs.length≤sizeLine:=by rw[← Paired.length rel];exact z
    have hl:(putK kvs k v).length≤sizeLine:=by have:=zc9 kvs k v;omega
    refine wpAny_setItem_heap (hsz:=hz) (tupleKind_room_in1 hu) (zkh I.hok eb) dd fun h' dd' hs=>h _ ?_;obtain ⟨q,es,ep,hq,h2,h3,h4,_,h5⟩:=dd';refine zjh I (by rw[e];exact True.intro) hs ⟨q,hq⟩ ⟨hl,hd,_,(rel.put k eb rv).keeps fun c ys ec=>?_,q,es,ep,hq,h2,h3,h4,h5⟩;rw[zai (zqO ec e (fun z=>nomatch z))];exact ec
end
def NoSl (i:Expr):Prop:=∀ ov iv,subscripted i false ov iv=operate [ov,iv] (getItem ov iv)
theorem zpd {prog:Program}{w:World}{A:Around}{E:Value→Shared→Prop}{s:Shared}{env:Env}{value slice:Expr}{pos:Pos}{T id:String}{Q:Value→Shared→Prop}
    (hl:typeLookup (.type T) "__getitem__" = pure (some (.builtin id))) (hs:NoSl slice)
    (h:wpAny (model prog w) A (eval value env) (fun o s₁=>wpAny (model prog w) A (eval slice env) (fun i s₂=>s₂.TypeIs o T∧wpAny (model prog w) A (getItem o i) Q E s₂) E s₁) E s) :
    wpAny (model prog w) A (eval (.Subscript value slice pos) env) Q E s:=by
  refine Subscript_ (wpAny_mono h (fun o s₁ h₁=>wpAny_mono h₁ (fun i s₂ h₂=>?_) fun _ _ x=>x) fun _ _ x=>x);obtain ⟨hT,h₂⟩:=h₂;unfold subscriptTail;refine wpAny_bind ?_;rw[getitemInPython_of_ne hT.not_modules];refine wpAny_bind (wpAny_specialOf hT hl ?_);have fin:wpAny (model prog w) A (subscripted slice false o i) (fun r s₃=>wpAny (model prog w) A (letTemporaryGo value o r >>= fun _=>pure r) Q E s₃) E s₂:=by
    rw[hs o i];exact wpAny_operating (wpAny_mono h₂ (fun r s₃ h₃=>wpAny_bind (wpAny_letTemporaryGo (wpAny_pure h₃))) fun _ _ x=>x)
  first
    | exact wpAny_pure (wpAny_bind fin)
    | exact wpAny_bind (wpAny_pure (wpAny_bind fin))
    | exact wpAny_bind fin
theorem zjg {X:Cx}{pins:List (Addr×Obj)}{σ:St}{H:Hp}{s:Shared}{a:Addr}{y:V}{o:Option V}(I:Inv X pins σ H s)(g:DGet H a y o):s.TypeIs (.ref a) "dict":=by
  rcases g with ⟨kvs,k,e,_,_⟩ | ⟨kvs,k,b,e,_,_,_⟩
  · obtain ⟨_,_,vs,_,dd⟩:=zmS I.hok e
    exact dd.typeIs
  · obtain ⟨_,_,xs,_,dd⟩:=zmR I.hok e
    exact dd.typeIs
def zrv (td ty:TE):TE:=fun σ H Q=>td σ H fun x H1=>ty σ H1 fun y H2=>∃ a v,x=.ref a∧DGet H2 a y (some v)∧Q v H2
def zrx (td ty tv:TE):TS:=fun D σ H=>tv σ H fun v H1=>td σ H1 fun x H2=>ty σ H2 fun y H3=>∃ a H4,x=.ref a∧DPut H3 a y v H4∧D.nx σ H4
section
variable {X:Cx}{o i e value:Expr}{pos pos' tpos:Pos}{td ty tv:TE}
theorem zdy (hu:X.A.units+1 < cLine)(ho:PE X o td)(hi:PE X i ty)(hs:NoSl i):PE X (.Subscript o i pos) (zrv td ty):=by
  intro pins s σ H Q I h;refine zpd PySem.F.slot_dict_getitem.lookup hs (thn (ho pins s σ H _ I h) fun u s1 zq0=>?_);obtain ⟨x,H1,I1,rx,q1⟩:=zq0;refine thn (hi pins s1 σ H1 _ I1 q1) fun iv s2 zq1=>?_;obtain ⟨y,H2,I2,ry,a,v,ex,g,q2⟩:=zq1;subst ex;obtain rfl:u=Value.ref a:=rx;exact ⟨zjg I2 g,zm0 hu I2 g ry fun w' s3 I3 rw'=>⟨v,H2,I3,rw',q2⟩⟩
theorem zft (hu:X.A.units+1 < cLine)(ho:PE X o td)(hi:PE X i ty)(hv:PE X value tv)(hs:swapsWith value (some (.Subscript o i pos')) pos.line X.env=pure false) :
    PS X (.Assign [.Subscript o i pos'] value pos) (zrx td ty tv):=by
  intro pins s σ H D I h;refine wpAny_Assign_Subscript (thn (hv pins s σ H _ I h) fun r s1 zq0=>?_) hs;obtain ⟨v,H1,I1,rv,q1⟩:=zq0;refine thn (ho pins s1 σ H1 _ I1 q1) fun u s2 zq1=>?_;obtain ⟨x,H2,I2,rx,q2⟩:=zq1;refine thn (hi pins s2 σ H2 _ I2 q2) fun iv s3 zq2=>?_;obtain ⟨y,H3,I3,ry,a,H4,ex,g,q3⟩:=zq2;subst ex;obtain rfl:u=Value.ref a:=rx;exact zmZ hu I3 g ry rv fun s4 I4=>⟨σ,H4,I4,q3⟩
end
theorem zkt {P:Program}{w:World}{H:Hp}(h:Heap)(hb:sysModules < h.objs.size):zbA P w H (h.push { cls:=.type "dict",data:=.dict #[] }) h.objs.size (.dK []):=
  ⟨yaF _,beq_eq_false_iff_ne.mpr (Ne.symm (yas hb)),[],.nil,Heap.DictOf.new h⟩
theorem zob {P:Program}{w:World}{H:Hp}(h:Heap)(hb:sysModules < h.objs.size):zbA P w H (h.push { cls:=.type "dict",data:=.dict #[] }) h.objs.size (.dT []):=
  ⟨yaF _,beq_eq_false_iff_ne.mpr (Ne.symm (yas hb)),[],.nil,_,#[],0,yaK _ rfl,⟨rfl,rfl,rfl⟩,rfl,rfl,ybo⟩
def zqh:TE:=fun _ H Q=>∀ p,H p=none→Q (.ref p) (upd H p (.dK []))
def zqg:TE:=fun _ H Q=>∀ p,H p=none→Q (.ref p) (upd H p (.dT []))
section
variable {X:Cx}{pos:Pos}
theorem zhx:PE X (.Dict [] [] pos) zqh:=fun pins s σ H Q I h=>
  wpAny_Dict_empty ⟨.ref s.heap.objs.size,_,I.laid (a:=s.heap.objs.size) (o:=.dK []) (t':=s.toks) (fun _ _ q=>yan _ q) (yaa _) (zkt s.heap I.big),rfl,h _ (I.hok.fresh (yaa _))⟩
theorem znx:PE X (.Dict [] [] pos) zqg:=fun pins s σ H Q I h=>
  wpAny_Dict_empty ⟨.ref s.heap.objs.size,_,I.laid (a:=s.heap.objs.size) (o:=.dT []) (t':=s.toks) (fun _ _ q=>yan _ q) (yaa _) (zob s.heap I.big),rfl,h _ (I.hok.fresh (yaa _))⟩
end
def zlC:List (TE×TE)→St→Hp→(List (V×V)→Hp→Prop)→Prop
  | [],_,H,Q=>Q [] H
  | (tk,tv)::r,σ,H,Q=>tk σ H fun x H1=>tv σ H1 fun y H2=>zlC r σ H2 fun ps H3=>Q ((x,y)::ps) H3
abbrev VV:List (V×V)→List (Value×Value)→Prop:=Paired fun p q=>RelV p.1 q.1∧RelV p.2 q.2
def PPs (X:Cx)(pos:Pos)(keys:List (Option Expr))(values:List Expr)(trs:List (TE×TE)):Prop:=
  ∀(pins:List (Addr×Obj)) (s:Shared) (σ:St) (H:Hp) (Q:List (V×V)→Hp→Prop),Inv X pins σ H s→zlC trs σ H Q→
    wpAny (model X.prog X.w) X.A (evalPairs (pairTrees keys values X.env pos)) (fun vs s'=>∃ ps H',Inv X pins σ H' s'∧VV ps vs∧Q ps H') X.xe s
theorem zpn {X:Cx}{pos:Pos}:PPs X pos [] [] []:=fun pins s σ H Q I h=>pairTrees_nil_walk ⟨[],H,I,.nil,h⟩
theorem zhv {X:Cx}{pos:Pos}{k v:Expr}{ks:List (Option Expr)}{vs:List Expr}{tk tv:TE}{trs:List (TE×TE)}(hk:PE X k tk)(hv:PE X v tv)(hr:PPs X pos ks vs trs) :
    PPs X pos (some k::ks) (v::vs) ((tk,tv)::trs):=fun pins s σ H Q I h=>
  pairTrees_cons_walk (thn (hk pins s σ H _ I h) fun u s1 ⟨x,H1,I1,rx,q1⟩=>thn (hv pins s1 σ H1 _ I1 q1) fun w2 s2 ⟨y,H2,I2,ry,q2⟩=>
    thn (hr pins s2 σ H2 _ I2 q2) fun ws s3 ⟨ps,H3,I3,rel,q3⟩=>⟨(x,y)::ps,H3,I3,.cons ⟨rx,ry⟩ rel,q3⟩)
def zfF (kvs more:List (Key×V)):List (Key×V):=more.foldl (fun acc kv=>putK acc kv.1 kv.2) kvs
theorem KV.merge:∀{more:List (Key×V)} {rs:List (Key×Value)} {kvs:List (Key×V)} {vs:List (Key×Value)},KV more rs→KV kvs vs→KV (zfF kvs more) (merged vs rs):=by
  intro more rs kvs vs r;unfold KV at r
  induction r generalizing kvs vs with
  | nil=>intro q;exact q
  | @cons p q ps qs h t ih=>
    intro r0;have e:KV (putK kvs p.1 p.2) (stored vs q.1 q.2):=by
      have:=r0.put p.1 h.2;rw[← h.1];exact this
    exact ih e
theorem zfb:∀(more kvs:List (Key×V)),(zfF kvs more).length≤kvs.length+more.length
  | [],kvs=>by show kvs.length≤kvs.length+0;omega
  | p::r,kvs=>by
    have h1:=zfb r (putK kvs p.1 p.2);have h2:=zc9 kvs p.1 p.2;show (zfF (putK kvs p.1 p.2) r).length≤_;rw[yaI];omega
theorem zha {P:Program}{w:World}:∀{kvs:List (Key×V)} {ws:List (Value×Value)},VV (kvs.map fun kv=>(kV kv.1,kv.2)) ws→∃ rs,Carries (zaM P w) ws rs∧KV kvs rs
  | [],_,r=>by rw[ybR]at r;cases r;exact ⟨[],True.intro,.nil⟩
  | p::kvs,_,r=>by
    rw[yax]at r;cases r with
    | @cons a b as bs h t=>
      obtain ⟨rs,c,q⟩:=zha (P:=P) (w:=w) t;obtain ⟨b1,b2⟩:=b;exact ⟨(p.1,b2)::rs,⟨zk8 h.1,rfl,c⟩,.cons ⟨rfl,h.2⟩ q⟩
def zru (trs:List (TE×TE)):TE:=fun σ H Q=>∀ p,H p=none→zlC trs σ (upd H p (.dK [])) fun ps H2=>H2 p=some (.dK [])∧∃ kvs:List (Key×V),ps=kvs.map (fun kv=>(kV kv.1,kv.2))∧kvs.length≤15∧Q (.ref p) (upd H2 p (.dK (zfF [] kvs)))
theorem zpq {X:Cx}{pos:Pos}{keys:List (Option Expr)}{values:List Expr}{trs:List (TE×TE)}(h:PPs X pos keys values trs)(hall:keys.all (·.isSome)=true)(hl:keys.length=values.length)(h0:keys≠[])
    (h15:keys.length≤15):PE X (.Dict keys values pos) (zru trs):=by
  intro pins s σ H Q I q;have hn:=I.hok.fresh (yaa s.heap.objs.size);have I1:=I.laid (a:=s.heap.objs.size) (o:=.dK []) (h':=s.heap.push { cls:=.type "dict",data:=.dict #[] }) (t':=s.toks) (fun _ _ q=>yan _ q) (yaa _) (zkt s.heap I.big);refine wpAny_Dict_walk (knd:=zaM X.prog X.w) hall hl h0 h15 (thn (h pins _ σ _ _ I1 (q _ hn)) fun ws s2 zq0=>?_);obtain ⟨ps,H2,I2,rel,e,kvs,ep,lk,q2⟩:=zq0;subst ep;obtain ⟨rs,c,rk⟩:=zha (P:=X.prog) (w:=X.w) rel;obtain ⟨z,hd,vs0,r0,dd⟩:=zp0 I2.hok e;cases r0
  refine ⟨rs,c,dd,fun h' dd' hs=>⟨.ref s.heap.objs.size,_,?_,rfl,q2⟩⟩;have hz:(zfF [] kvs).length≤sizeLine:=by
    have h1:=zfb kvs [];rw[ybB]at h1;rw[sizeLine_eq];omega
  have he:∃ q,h'.get? s.heap.objs.size=some q:=let ⟨q,_,_,hq,_⟩:=dd';⟨q,hq⟩;exact zjh I2 (by rw[e];exact True.intro) hs he (zoV hz hd (rk.merge .nil) dd')
structure M1 (X:Cx)(o:Expr)(m:Str)(apos:Pos)(e:Expr)(cpos:Pos):Prop where
  base:attributeBase o m X.env (eval o X.env)=eval o X.env
  few:((backTo cpos (starEach [e] X.env)).all (fun x=>!x.1) && (backToKw cpos (keywordEach [] X.env)).all (fun x=>x.1.isSome)
    && decide (([e]:List Expr).length+([]:List Keyword).length+(if ([]:List Keyword).isEmpty then 0 else 1) < 30))=true
  line:(apos.endLine == cpos.line)=true
  trees:backTo cpos (starEach [e] X.env)=[(false,eval e X.env)]
structure M2 (X:Cx)(o:Expr)(m:Str)(apos:Pos)(e f:Expr)(cpos:Pos):Prop where
  base:attributeBase o m X.env (eval o X.env)=eval o X.env
  few:((backTo cpos (starEach [e,f] X.env)).all (fun x=>!x.1) && (backToKw cpos (keywordEach [] X.env)).all (fun x=>x.1.isSome)
    && decide (([e,f]:List Expr).length+([]:List Keyword).length+(if ([]:List Keyword).isEmpty then 0 else 1) < 30))=true
  line:(apos.endLine == cpos.line)=true
  trees:backTo cpos (starEach [e,f] X.env)=[(false,eval e X.env),(false,eval f X.env)]
def IsD (H:Hp)(a:Addr):Prop:=(∃ kvs,Rd H a (.dK kvs))∨∃ kvs,Rd H a (.dT kvs)
theorem zra {X:Cx}{pins:List (Addr×Obj)}{σ:St}{H:Hp}{s:Shared}{a:Addr}(I:Inv X pins σ H s)(d:IsD H a) :
    s.TypeIs (.ref a) "dict"∧(∀ b,Value.ref a=.ref b→∃ ob,s.heap.get? b=some ob∧ob.dict=none)∧(a == sysModules)=false:=by
  rcases d with ⟨kvs,e⟩ | ⟨kvs,e⟩
  · obtain ⟨_,hd,vs,_,dd⟩:=zmS I.hok e
    refine ⟨dd.typeIs,fun b q=>?_,hd⟩;cases q
    obtain ⟨ob,_,_,h1,h2,_⟩:=dd;exact ⟨ob,h1,h2.2.1⟩
  · obtain ⟨_,hd,xs,_,dd⟩:=zmR I.hok e
    refine ⟨dd.typeIs,fun b q=>?_,hd⟩;cases q
    obtain ⟨ob,_,_,h1,h2,_⟩:=dd;exact ⟨ob,h1,h2.2.1⟩
section
variable {X:Cx}{pins:List (Addr×Obj)}{σ:St}{H:Hp}{s:Shared}{a:Addr}{y d:V}{u r:Value}{o:Option V}{A:Around}{E:Value→Shared→Prop}
theorem zri {Q:Value→Shared→Prop}(hu:A.units+1 < cLine)(I:Inv X pins σ H s)(g:DGet H a y o)(ry:RelV y u)(rd:RelV d r)(h:∀ w' s',Inv X pins σ H s'→RelV (o.getD d) w'→Q w' s') :
    wpAny (model X.prog X.w) A (call (.builtin "dict.get") [.ref a,u,r]) Q E s:=by
  rcases g with ⟨kvs,k,e,ey,l⟩ | ⟨kvs,k,b,e,ey,eb,l⟩
  · subst ey
    obtain ⟨z,hd,vs,rel,dd⟩:=zmS I.hok e;refine call_meetsIn PySem.F.slot_dict_get dd.typeIs PySem.F.entry_dict_get (PySem.F.args_dict_get_3 _ _ _) (meets_dict_get_default (zaM X.prog X.w) a (zk8 ry) hd r) ⟨_,dd.mapOf,h _ _ (I.tok _) ?_⟩;rw[l];exact (rel.val k).getD rd
  · subst ey
    cases (show u=Value.ref b from ry)
    obtain ⟨z,hd,xs,rel,dd⟩:=zmR I.hok e;refine call_meetsIn PySem.F.slot_dict_get dd.typeIs PySem.F.entry_dict_get (PySem.F.args_dict_get_3 _ _ _) (meetsH_dict_get_default (tupleKind (zaM X.prog X.w)) a b hd r) ⟨tupleKind_room_in1 hu,k,xs,zkh I.hok eb,dd,h _ _ (I.tok _) ?_⟩;rw[l];exact (rel.val k).getD rd
end
def zqi (td ty tx:TE):TE:=fun σ H Q=>td σ H fun x H1=>∃ a,x=.ref a∧IsD H1 a∧ty σ H1 fun y H2=>tx σ H2 fun z H3=>∃ o,DGet H3 a y o∧Q (o.getD z) H3
section
variable {X:Cx}{o e f:Expr}{apos cpos:Pos}{td ty tx:TE}
theorem zny (hu:X.A.units+1 < cLine)(ho:PE X o td)(he:PE X e ty)(hf:PE X f tx)(m:M2 X o "get" apos e f cpos):PE X (.Call (.Attribute o "get" apos) [e,f] [] cpos) (zqi td ty tx):=by
  intro pins s σ H Q I h;refine wpAny_Call_method m.base m.few m.line PySem.F.plainAttrs_dict PySem.F.slot_dict_get PySem.F.type_dict_get (thn (ho pins s σ H _ I h) fun u s1 zq0=>?_);obtain ⟨x,H1,I1,rx,a,ex,d,q1⟩:=zq0;subst ex;obtain rfl:u=Value.ref a:=rx;obtain ⟨t1,t2,_⟩:=zra I1 d;refine ⟨t1,t2,?_⟩;rw[m.trees];refine Calls.callWith_builtin rfl (Calls.evalArgs_plain (Calls.spliced_cons (thn (he pins s1 σ H1 _ I1 q1) fun iv s2 ⟨y,H2,I2,ry,q2⟩=>
    Calls.spliced_cons (thn (hf pins s2 σ H2 _ I2 q2) fun fv s3 ⟨z,H3,I3,rz,ov,g,q3⟩=>Calls.spliced_nil ?_))))
  exact zri hu I3 g ry rz fun w' s4 I4 rw'=>⟨_,H3,I4,rw',q3⟩
end
end L2
namespace Att
open PySem PySem.W PySem.Calls PyProof.Rows
theorem zgm {P:Params}{h:Heap}:∀(ns:List Int) (vs:List Value),WellAll P h vs (ns.map WData.int)→IntsAre vs ns:=by
  intro ns
  induction ns with
  | nil=>
    intro vs w;rw[ybR]at w;cases w
    exact .nil
  | cons n ns ih=>
    intro vs w;rw[yax]at w;cases w with
    | cons a b=>
      cases a
      exact .cons _ _ (ih _ b)
theorem zlS {l:OpenLaw}{n:Nat}(hn:l.most=some n){P:Params}{h:Heap}{args:List WData}{vals:List Value}
    (hpre:l.row.toRowW.claim.pre args=true) (hwl:WellAll P h vals args) :
    ∃ a vs ns,vals=[Value.ref a]∧args=[WData.list (ns.map WData.int)]∧h.get? a=some { cls:=.type "list",data:=.seq vs.toArray }∧IntsAre vs ns∧ns.length≤n:=by
  have hsh:WShape.hasAll [] args [.list .int]=true:=(pre_splitW hpre).1;have hc:l.pre.holds [] { args:=args }=true:=(pre_splitW hpre).2;obtain ⟨d,r,rfl,h1,h2⟩:=hasAllW_cons hsh;obtain rfl:=hasAllW_nil h2;obtain ⟨xs,rfl,h3⟩:=hasW_list h1;obtain ⟨ns,rfl⟩:=items_int h3;have hlen:ns.length≤n:=by
    unfold OpenLaw.pre at hc;have h4:(WTm.not (.lt (.lit (.int (n:Int))) (.len (.arg 0)))).holds [] { args:=[.list (ns.map .int)] }=true:=by
      have h4:=(holds_andW hc).1;rw[hn]at h4;exact h4
    have h5:=condW_of h4 (w_not (w_lt w_lit (w_len_list (w_arg rfl))));rw[yab]at h5;refine ybC fun q=>?_;have q':(n:Int) < ((ns.length:Nat):Int):=by omega
    first
      | (rw[yah q']at h5;exact absurd h5 (by decide))
      | (simp at h5;omega)
  cases hwl with
  | cons w1 w2=>
    cases w2
    cases w1 with
    | list ho hall=>exact ⟨_,_,ns,rfl,rfl,ho,zgm ns _ hall,hlen⟩
theorem zlW (l:OpenLaw)(args:List WData):l.row.toRowW.claim.post args (.bool true) args=true:=
  postW_of (r:=l.row.toRowW) (X:=(true == true))
    (show WShape.has [] (.bool true) .bool=true by first | rfl | decide | simp[WShape.has,WShape.arms,WShape.armsAll])
    (show (WTm.eq .res (.lit (.bool true))).value [] { args:=args,res:=some (.bool true),after:=args }=some (.bool (true == true)) from w_eq_bool (w_res rfl) w_lit) rfl
theorem attach_call {l:OpenLaw}{n:Nat}{q:Program}{loose:List Str}{XP:(Str→Option Value)→Heap→Prop}{YP:World→Heap→Prop}{d:DefRec}
    (hn:l.most=some n) (hdf:d.params.defaults=[])
    (call:∀(w:World) (s₀ s₁:Shared) (mg mb:Str→Option Value) (fa:Addr) (o:Obj) (pm cd doc:Value) (a:Addr) (vs:List Value) (ns:List Int),
      Ground q loose [] XP w s₀ mg mb s₁.heap→YP w s₁.heap→
      s₁.heap.get? fa=some o→o.data=.func (docDef d.name d.params d.body d.scope pm cd doc)→s₁.heap.CodeRec cd d.name→mg d.name=some (.ref fa)→
      s₁.heap.get? a=some { cls:=.type "list",data:=.seq vs.toArray }→IntsAre vs ns→ns.length≤n→s₁.gens=#[]→
      codeAny (model l.prog w) callerA (.call (.ref fa) ⟨[.ref a],[]⟩) (fun r s'=>r=.ok (.ret (.bool true))∧OldK s₁.heap s'.heap∧s'.os=s₁.os∧AllBare s'.gens) s₁) :
    WalkO q loose XP YP l.row.toRowW d [] (fun f vs=>PySem.call f vs):=by
  intro w s₀ s₁ mg mb G Y fa o pm cd doc dV kV ho hd hcd hD hmg hg args vals as hpre hlay hrd hwl hlo;obtain rfl:dV=.none:=Dflts.none hD hdf;obtain rfl:kV=.none:=Dflts.noKw hD;obtain ⟨a,vs,ns,rfl,rfl,hobj,hints,hlen⟩:=zlS hn hpre hwl;refine enter_call (codeAny_mono (call w s₀ s₁ mg mb fa o pm cd doc a vs ns G Y ho (fd_plain hd) hcd hmg hobj hints hlen hg) fun r s' hq=>?_);obtain ⟨rfl,h2,h3,h4⟩:=hq;exact ⟨.inl ⟨.bool true,.bool true,[],rfl,fun _=>rfl,.bool true,zlW l _,fun _=>⟨List.Pairwise.nil,fun _ hm=>(nomatch hm)⟩⟩,h2,h3,h4⟩
end Att
namespace L2
open PySem PySem.Spec PyProof.Rows
theorem zhX:∀{vs:List Value} {ns:List Int},IntsAre vs ns→Vals (ns.map V.int) vs
  | _,_,.nil=>.nil
  | _,_,.cons n t h=>.cons ⟨t,rfl⟩ (zhX h)
def Only (H:Hp):Prop:=∀ b,H b=none∨∃ o xs,H b=some (.frz o (.lst xs))
theorem znY {P:Program}{w:World}{K:Frag}{mg mb:Str→Option Value}{CX:CXT}{k:Nat}{fa a:Addr}{fd:FuncData}{x:Str}{sp:Sp}{s₁:Shared}{vs:List Value}{ns:List Int}
    (KX:K.In s₁.heap) (hns:s₁.heap.Ns mainGlobals mg) (hb:s₁.heap.Ns builtinsNs mb) (hbb:∀ x:Str,x ≠ "__name__"→mb x=bootBuiltins x) (hlim:s₁.heap.NoLimit) (hg:s₁.gens=#[])
    (ha:s₁.heap.get? a=some { cls:=.type "list",data:=.seq vs.toArray }) (hi:IntsAre vs ns) (hl:ns.length≤sizeLine) (hr:Room k callerA)
    (F:∀ base:Heap,K.In base→base.Ns mainGlobals mg→FnOk P w K mg base CX k fa fd [x] sp) (hbind:∀(s:Shared) (u:Value),BindsTo s fd ⟨[u],[]⟩ [(x,u)])
    (hsp:∀ H:Hp,Only H→SqL K H a (ns.map V.int)→sp [.ref a] H (fun v _=>v=.bl true) fun _ _ _=>False)
    (hCX:∀ H e s',CX [] H s₁ (fun _ _ _=>False) e s'→False) :
    codeAny (model P w) callerA (.call (.ref fa) ⟨[.ref a],[]⟩) (fun r s'=>r=.ok (.ret (.bool true))∧OldK s₁.heap s'.heap∧s'.os=s₁.os∧AllBare s'.gens) s₁:=by
  have rv:=zhX hi;have lenV:=hi.length;have core:∀ H:Hp,Only H→SqL K H a (ns.map V.int)→HOk P w H s₁.heap→(∀ b,H b≠none→b=a)→(H a≠none→K.lookup a=none)→
      codeAny (model P w) callerA (.call (.ref fa) ⟨[.ref a],[]⟩) (fun r s'=>r=.ok (.ret (.bool true))∧OldK s₁.heap s'.heap∧s'.os=s₁.os∧AllBare s'.gens) s₁:=by
    intro H hO hS hok hA hK;have base_of:∀{b:Addr} {o:Obj},s₁.heap.get? b=some o→H b=none→(hidT s₁.heap H).get? b=some o:=fun e n=>zn7 e n;have noA:∀{b:Addr} {o:Obj} {es:Array DictEntry} {ep:Nat},s₁.heap.get? b=some o→o.data=.dict es ep→H b=none:=fun {b o es ep} e d=>by
      cases q:H b with
      | none=>rfl
      | some u=>
        have e':b=a:=hA b (by rw[q];simp);subst e';rw[ha]at e;cases e
        have d':Data.seq vs.toArray _=Data.dict es ep:=d;cases d'
    have nsK:∀{b:Addr} {m:Str→Option Value},s₁.heap.Ns b m→(hidT s₁.heap H).Ns b m:=fun {b m} ⟨o,es,ep,e,d,r⟩=>⟨o,es,ep,base_of e (noA e d),d,r⟩;have hKb:K.In (hidT s₁.heap H):=fun b o e=>base_of (KX b o e) (by
      cases q:H b with
      | none=>rfl
      | some u=>
        have e':b=a:=hA b (by rw[q];simp);subst e';rw[hK (by rw[q];simp)]at e;cases e)
    have hM:Mod K mg (hidT s₁.heap H):=⟨hKb,nsK hns,⟨mb,nsK hb,hbb⟩,let ⟨mc,h1,h2⟩:=hlim;⟨mc,nsK h1,h2⟩⟩;have e0:Env0 P w K mg (hidT s₁.heap H) callerA [] s₁ H:=⟨rfl,hM,fun b o e=>zpE e,Nat.le_of_eq (zmJ _ _),trivial,fun b hb=>absurd (show b∈([]:List Addr) from hb) (by simp),hok,.of_eq hg⟩;refine codeAny_mono ((F _ hKb (nsK hns)).run callerA [] s₁ H ⟨[.ref a],[]⟩ [.ref a] [.ref a] _ _ hr e0 (hbind s₁ (.ref a)) (.cons rfl .nil) (hsp H hO hS)) fun r s' h=>?_;cases r with
    | error e=>exact (hCX H e s' h).elim
    | ok fl=>
      cases fl with
      | next=>exact False.elim h
      | brk=>exact False.elim h
      | cont=>exact False.elim h
      | ret u=>
        obtain ⟨v,H',os,bare,un,hok',r',q⟩:=h;have q':v=.bl true:=q;subst q';obtain rfl:u=Value.bool true:=r';refine ⟨rfl,OldK.of_keep fun b o e=>?_,os,bare⟩;cases q:H b with
        | none=>exact un.keep b o e q (by intro z;exact absurd (show b∈([]:List Addr) from z) (by simp)) (by simp)
        | some u=>
          rcases hO b with z | ⟨ob,xs,z⟩
          · rw[q]at z;cases z
          · have z2:=un.frzs b ob _ z
            obtain ⟨e1,_⟩:=hok b _ z;obtain ⟨e2,_⟩:=hok' b _ z2;rw[e]at e1;cases e1
            exact e2
  cases hk:K.lookup a with
  | some o=>
    have e:=KX a o hk;rw[ha]at e;cases e
    refine core (fun _=>none) (fun _=>.inl rfl) (.inr ⟨_,vs.toArray,_,hk,rfl,rfl,rfl,by rw[yav,lenV];exact hl,by simpa using rv⟩) (fun b u z=>by have z':(none:Option HO)=some u:=z;cases z') (fun b z=>absurd rfl z) fun z=>absurd rfl z
  | none=>
    refine core (fun b=>if b=a then some (.frz { cls:=.type "list",data:=.seq vs.toArray } (.lst (ns.map V.int))) else none) (fun b=>?_) (.inl (.inr ⟨{ cls:=.type "list",data:=.seq vs.toArray },if_pos rfl⟩)) (fun b u z=>?_) (fun b z=>?_) fun _=>hk
    · by_cases hb:b=a
      · exact .inr ⟨_,_,if_pos hb⟩
      · exact .inl (if_neg hb)
    · by_cases hb:b=a
      · have z':=(if_pos hb).symm.trans z
        cases z'
        subst hb;exact ⟨ha,by rw[yab];exact hl,vs,_,rv,ha⟩
      · have z':=(if_neg hb).symm.trans z
        cases z'
    · by_cases hb:b=a
      · exact hb
      · exact absurd (if_neg hb) z
end L2
namespace L2
open PySem PySem.Spec PyProof.Rows
theorem zo2 {l:OpenLaw}{n k:Nat}{q:Program}{loose:List Str}{XP:(Str→Option Value)→Heap→Prop}{YP:World→Heap→Prop}{d:DefRec}{K:Params→Frag}{CX:World→CXT}{sp:World→Sp}{x:Str}
    (hn:l.most=some n) (hn2:n≤sizeLine) (hdf:d.params.defaults=[]) (hr:Room k callerA)
    (hY:∀(w:World) (h:Heap),YP w h→(K w.params).In h)
    (F:∀(w:World) (mg:Str→Option Value) (fa:Addr) (h:Heap),(K w.params).In h→h.Ns mainGlobals mg→mg d.name=some (.ref fa)→
      ∃ fd:FuncData,(∀(s:Shared) (u:Value),BindsTo s fd ⟨[u],[]⟩ [(x,u)])∧
        ∀ base:Heap,(K w.params).In base→base.Ns mainGlobals mg→FnOk l.prog w (K w.params) mg base (CX w) k fa fd [x] (sp w))
    (hsp:∀(w:World) (H:Hp) (a:Addr) (ns:List Int),ns.length≤n→Only H→SqL (K w.params) H a (ns.map V.int)→sp w [.ref a] H (fun v _=>v=.bl true) fun _ _ _=>False)
    (hCX:∀(w:World) (H:Hp) (s:Shared) (e:Value) (s':Shared),CX w [] H s (fun _ _ _=>False) e s'→False) :
    PySem.W.WalkO q loose XP YP l.row.toRowW d [] (fun f vs=>PySem.call f vs):=by
  refine Att.attach_call hn hdf fun w s₀ s₁ mg mb fa o pm cd doc a vs ns G Y ho hd hcd hmg hobj hints hlen hg=>?_;have KX:=hY w _ Y;obtain ⟨fd,hb,hF⟩:=F w mg fa _ KX G.T.g hmg;exact znY KX G.T.g G.T.b G.T.builtins G.T.nolimit hg hobj hints (yar hlen hn2) hr hF hb (fun H hO hS=>hsp w H a ns hlen hO hS) fun H e s'=>hCX w H s₁ e s'
end L2
namespace L2
open PySem PySem.Spec PyProof.Rows
def zev (s:Stmt):Arguments:=match s with
  | .FunctionDef _ a _ _ _ _ _ _ _ _=>a
  | _=>{ posonlyargs:=[],args:=[],vararg:=none,kwonlyargs:=[],kw_defaults:=[],kwarg:=none,defaults:=[] }
def zde (s:Stmt):List Stmt:=match s with
  | .FunctionDef _ _ b _ _ _ _ _ _ _=>b
  | _=>[]
def zaj (s:Stmt):Scope:=match s with
  | .FunctionDef _ _ _ _ _ _ sc _ _ _=>sc
  | _=>{ kind:=.function,names:=[],isGenerator:=false,isCoroutine:=false }
abbrev CX0:CXT:=fun _ _ _ _ _ _=>False
abbrev E0:XK:=fun _ _ _=>False
theorem zrB {X:Cx}:zng CX0 X E0:=fun _ _ _ _ _ _ _ h=>h.elim
structure Fun (K:Frag)(x qual:Str)(st:Stmt)(f:Addr)(fd:FuncData):Prop where
  ex:∃(oc:Value) (od:Option Addr) (kV doc pm:Value) (an:Option Addr) (cdv ct:Value) (osl:Array (Option Value)),
    fd=fnOf x qual (zev st) (zde st) (zaj st) .none kV doc pm an cdv ct∧K.lookup f=some ⟨oc,od,.func fd,osl⟩∧codeIn K cdv qual=true
  kp:keepIn K (.ref f)=true
section
variable {P:Program}{w:World}{K:Frag}{mg:Str→Option Value}{base:Heap}
theorem Fun.ok {x qual:Str}{st:Stmt}{f:Addr}{fd:FuncData}{N ps:List Str}{k:Nat}{sp:Sp}(F:Fun K x qual st f fd)(S:zas N ps (zaj st))(len:∀ vs H Q E,sp vs H Q E→vs.length=ps.length)
    (hbody:∀(cdv:Value) (A:Around) (outer:List Env) (s:Shared) (H:Hp) (vs:List V) (Q:VK) (E:XK),Room k (A.deeper (envOfC qual (zaj st) s.heap.objs.size f cdv))→sp vs H Q E→
      ∃ t,PSs (cxOf CX0 P w K mg base N qual (zaj st) f cdv A outer s H E).nox (zde st) t∧t { nx:=fun _ H'=>Q .non H',rt:=Q } (zdm N vs) H):FnOk P w K mg base CX0 (k+1) f fd ps sp:=by
  obtain ⟨oc,od,kV,doc,pm,an,cdv,ct,osl,rfl,lk,hcd⟩:=F.ex;refine zrM lk hcd S len fun A outer s H vs Q E hr hsp=>?_;obtain ⟨t,h,q⟩:=hbody cdv A outer s H vs Q E hr hsp;exact ⟨t,h.nox,q⟩
theorem Fun.binds {x qual:Str}{st:Stmt}{f:Addr}{fd:FuncData}{ps:List Str}(F:Fun K x qual st f fd)
    (h:∀(kV doc pm:Value) (an:Option Addr) (cdv ct:Value) (us:List Value),us.length=ps.length→bindArgs (fnOf x qual (zev st) (zde st) (zaj st) .none kV doc pm an cdv ct) ⟨us,[]⟩=pure (ps.zip us)):zjt K fd ps []:=by
  obtain ⟨oc,od,kV,doc,pm,an,cdv,ct,osl,rfl,lk,hcd⟩:=F.ex;exact .all (h kV doc pm an cdv ct)
theorem zoT {x qual:Str}{st:Stmt}{f:Addr}{oc:Value}{od an:Option Addr}{osl:Array (Option Value)}{kV doc pm cdv ct:Value}(l:K.lookup f=some ⟨oc,od,.func (fnOf x qual (zev st) (zde st) (zaj st) .none kV doc pm an cdv ct),osl⟩)
    (c:codeIn K cdv qual=true) (k:keepIn K (.ref f)=true):Fun K x qual st f (fnOf x qual (zev st) (zde st) (zaj st) .none kV doc pm an cdv ct):=⟨⟨oc,od,kV,doc,pm,an,cdv,ct,osl,rfl,l,c⟩,k⟩
end
theorem zet {A:Around}{k:Nat}(hr:Room k A):A.units+1 < cLine:=yba (ycv (by decide:1≤64) _) hr.units
theorem zaq {n:Nat}(h:n≤1000):n < sizeLine:=yba h (by decide)
section
variable {X:Cx}
theorem pv (i:Nat){x:Str}{pos:Pos}(hN:X.N[i]?=some x:=by rfl)(hv:Vis X.env.scope x:=by first | exact Or.inl rfl | exact Or.inr (Or.inl rfl) | exact Or.inr (Or.inr rfl))(hd:(x == ("__debug__" : Str))=false:=by decide)
    (hcd:(x == ("__classdict__" : Str))=false:=by decide):PE X (.Name x pos) (tVar i):=zqB hN hv hd hcd
end
theorem iteF {A B:Prop}(h:B):if false=true then A else B:=by
  rw[if_neg yaA];exact h
theorem iteT {A B:Prop}(h:A):if true=true then A else B:=by
  rw[if_pos rfl];exact h
theorem ite2 {c A B:Prop}[Decidable c](h1:c→A)(h2:¬ c→B):if c then A else B:=by
  by_cases h:c
  · rw[if_pos h]
    exact h1 h
  · rw[if_neg h]
    exact h2 h
theorem zit {c A B:Prop}[Decidable c](hc:c)(h:B):if (!decide c)=true then A else B:=by
  rw[yah hc];exact iteF h
def Same (H H':Hp):Prop:=∀ b o,H b=some o→H' b=some o
theorem Same.trans {H H1 H2:Hp}(a:Same H H1)(b:Same H1 H2):Same H H2:=fun c o h=>b c o (a c o h)
theorem Same.free {H H':Hp}(e:Same H H'){l:Addr}(h:H' l=Option.none):H l=Option.none:=by
  cases q:H l with
  | none=>rfl
  | some o=>
    rw[e l o q]at h;cases h
theorem Same.seq {K:Frag}{H H':Hp}{a:Addr}{xs:List V}(e:Same H H')(h:SqL K H a xs):SqL K H' a xs:=by
  rcases h with (h | ⟨o,h⟩) | h
  · exact .inl (.inl (e _ _ h))
  · exact .inl (.inr ⟨o,e _ _ h⟩)
  · exact .inr h
end L2
namespace Tim
open PySem PyProof.Rows
set_option autoImplicit false
section
variable {prog:Program}{w:World}{A:Around}{E:Value→Shared→Prop}{s:Shared}{κ:KeyKind}{kd:SortKind}{a₀:Array Keyed}
def LtG (prog:Program)(w:World)(A:Around)(s:Shared)(κ:KeyKind)(kd:SortKind):Prop:=
 ∀(E:Value→Shared→Prop) (x y:Value) (a b:κ.α) (Q:Bool→Shared→Prop),κ.keyOf x=some a→κ.keyOf y=some b→Q (κ.blt a b) s→wpAny (model prog w) A (keyLt' kd x y) Q E s
def ky (κ:KeyKind)(p:Keyed):κ.α:=(κ.keyOf p.1).getD κ.dflt
def Keyd (κ:KeyKind)(p:Keyed):Prop:=∃ a,κ.keyOf p.1=some a
theorem Keyd.eq {p:Keyed}(h:Keyd κ p):κ.keyOf p.1=some (ky κ p):=by
 obtain ⟨a,e⟩:=h;unfold ky;rw[e];rfl
theorem lt_G {x y:Keyed}{st:SortSt}{Q:Option Bool→SortSt→Prop}(hO:LtG prog w A s κ kd)(hk:kindOf st=kd)(hx:Keyd κ x)(hy:Keyd κ y)(h:Q (some (κ.blt (ky κ x) (ky κ y))) st):wpS (model prog w) A E s (lt' x y) Q st:=by
 rw[lt'_eq];refine wpS_bind (wpS_get ?_);rw[hk];refine wpS_bind (wpS_lift (wpAny_attempt (hO _ x.1 y.1 _ _ _ hx.eq hy.eq ⟨rfl,?_⟩)));exact wpS_pure h
theorem zbj {xs:Array Keyed}{i:Nat}{st:SortSt}{Q:Keyed→SortSt→Prop}(hi:i < xs.size)(h:Q xs[i] st):wpS (model prog w) A E s (elem' xs i) Q st:=by
 rw[elem'_eq,ybb hi];exact wpS_pure h
structure TB (κ:KeyKind)(kd:SortKind)(n:Nat)(st:SortSt):Prop where
 kind:kindOf st=kd
 keys:∀ p∈(arrOf st).toList,Keyd κ p
 failed:failedOf st=none
 size:(arrOf st).size=n
def kAt (κ:KeyKind)(xs:Array Keyed)(i:Nat):κ.α:=match xs[i]? with
 | some p=>ky κ p
 | none=>κ.dflt
theorem zbl {xs:Array Keyed}{i:Nat}(h:i < xs.size):kAt κ xs i=ky κ xs[i]:=by
 unfold kAt;rw[ybb h]
theorem zby {xs ys:Array Keyed}{i j:Nat}(h:xs[i]?=ys[j]?):kAt κ xs i=kAt κ ys j:=by
 unfold kAt;rw[h]
theorem zim {i j n:Nat}{st:SortSt}{Q:Option Bool→SortSt→Prop}(hO:LtG prog w A s κ kd)(hB:TB κ kd n st)(hi:i < n)(hj:j < n)(h:Q (some (κ.blt (kAt κ (arrOf st) i) (kAt κ (arrOf st) j))) st):wpS (model prog w) A E s (ltAt' i j) Q st:=by
 have hi':i < (arrOf st).size:=by rw[hB.size];exact hi
 have hj':j < (arrOf st).size:=by rw[hB.size];exact hj
 rw[ltAt'_eq];refine wpS_bind (wpS_get ?_);refine wpS_bind (zbj hi' (wpS_bind (zbj hj' ?_)));refine lt_G hO hB.kind (hB.keys _ (by simp)) (hB.keys _ (by simp)) ?_;rw[zbl hi',zbl hj']at h;exact h
def Up (κ:KeyKind)(xs:Array Keyed)(lo hi:Nat):Prop:=∀ i j,lo≤i→i≤j→j < hi→κ.kle (kAt κ xs i) (kAt κ xs j)
def Dn (κ:KeyKind)(xs:Array Keyed)(lo hi:Nat):Prop:=∀ i j,lo≤i→i≤j→j < hi→κ.kle (kAt κ xs j) (kAt κ xs i)
structure Off (xs ys:Array Keyed)(lo hi:Nat):Prop where
 perm:ys.Perm xs
 out:∀ k,k < lo∨hi≤k→ys[k]?=xs[k]?
theorem Off.refl (xs:Array Keyed)(lo hi:Nat):Off xs xs lo hi:=⟨Array.Perm.refl _,fun _ _=>rfl⟩
theorem Off.trans {xs ys zs:Array Keyed}{lo hi:Nat}(a:Off xs ys lo hi)(b:Off ys zs lo hi):Off xs zs lo hi:=⟨b.perm.trans a.perm,fun k h=>(b.out k h).trans (a.out k h)⟩
theorem Off.wide {xs ys:Array Keyed}{lo hi lo' hi':Nat}(a:Off xs ys lo hi)(h1:lo'≤lo)(h2:hi≤hi'):Off xs ys lo' hi':=⟨a.perm,fun k h=>a.out k (by omega)⟩
theorem Off.size {xs ys:Array Keyed}{lo hi:Nat}(a:Off xs ys lo hi):ys.size=xs.size:=a.perm.size_eq
theorem TB.off {n lo hi:Nat}{st:SortSt}{ys:Array Keyed}(hB:TB κ kd n st)(h:Off (arrOf st) ys lo hi):TB κ kd n (setArr st ys):=
 ⟨hB.kind,fun p hp=>hB.keys p ((ycw.mp h.perm).mem_iff.mp hp),hB.failed,h.size.trans hB.size⟩
theorem zcT {xs:Array Keyed}{i j:Nat}(hj:j≤xs.size):Off xs (mirror xs i j ((j - i) / 2)) i j:=⟨mirror_perm _ _ _ _,fun k hk=>by rw[getElem?_mirror_all hj,if_neg (by omega)]⟩
theorem zfv {xs:Array Keyed}{i j k:Nat}(hj:j≤xs.size)(hk:i≤k∧k < j):kAt κ (mirror xs i j ((j - i) / 2)) k=kAt κ xs (i+j - 1 - k):=by
 apply zby
 rw[getElem?_mirror_all hj,if_pos hk]
theorem zja {xs ys:Array Keyed}{lo hi k:Nat}(h:Off xs ys lo hi)(hk:k < lo∨hi≤k):kAt κ ys k=kAt κ xs k:=zby (h.out k hk)
theorem zhL {xs:Array Keyed}{i j:Nat}(hj:j≤xs.size)(he:∀ k,i≤k→k < j→kAt κ xs k=kAt κ xs (j - 1))(k:Nat):kAt κ (mirror xs i j ((j - i) / 2)) k=kAt κ xs k:=by
 by_cases hk:i≤k∧k < j
 ·rw[zfv hj hk,he _ (by omega) (by omega),he k hk.1 hk.2]
 ·exact zja (zcT hj) (by omega)
theorem zhd {i j:Nat}{st:SortSt}{Q:Unit→SortSt→Prop}(h:Q () (setArr st (mirror (arrOf st) i j ((j - i) / 2)))):wpS (model prog w) A E s (reverseSlice' i j) Q st:=by
 rw[reverseSlice'_eq];exact wpS_modify h
theorem zcY {σ:Type}{n:String}{Q:Unit→σ→Prop}{st:σ}(h:Q () st):wpS (model prog w) A E s (liftM (rule n):StateT σ Sem Unit) Q st:=wpS_lift (wpAny_rule ⟨rfl,h⟩)
end
end Tim
namespace Tim
open PySem PyProof.Rows
set_option autoImplicit false
section
variable {prog:Program}{w:World}{A:Around}{E:Value→Shared→Prop}{s:Shared}{κ:KeyKind}{kd:SortKind}
def zjq (κ:KeyKind)(st:SortSt)(lo least nrem:Nat)(r:Option Nat)(st':SortSt):Prop:=
 ∃ n ys,r=some n∧least≤n∧n≤nrem∧st'=setArr st ys∧Off (arrOf st) ys lo (lo+n)∧Up κ ys lo (lo+n)
theorem zqe {xs:Array Keyed}{lo:Nat}:Up κ xs lo (lo+1):=fun i j h1 h2 h3=>by
 have:i=j:=by omega
 subst this;exact KeyOrd.kle_refl _
theorem Up.more {xs:Array Keyed}{lo hi:Nat}(h:Up κ xs lo hi)(hlo:lo < hi)(hn:κ.kle (kAt κ xs (hi - 1)) (kAt κ xs hi)):Up κ xs lo (hi+1):=fun i j h1 h2 h3=>by
 by_cases hj:j < hi
 ·exact h i j h1 h2 hj
 ·have e:j=hi:=by omega
  subst e;by_cases hi':i=j
  ·subst hi';exact KeyOrd.kle_refl _
  ·exact KeyOrd.kle_trans (h i (j - 1) h1 (by omega) (by omega)) hn
theorem Dn.more {xs:Array Keyed}{lo hi:Nat}(h:Dn κ xs lo hi)(hlo:lo < hi)(hn:κ.kle (kAt κ xs hi) (kAt κ xs (hi - 1))):Dn κ xs lo (hi+1):=fun i j h1 h2 h3=>by
 by_cases hj:j < hi
 ·exact h i j h1 h2 hj
 ·have e:j=hi:=by omega
  subst e;by_cases hi':i=j
  ·subst hi';exact KeyOrd.kle_refl _
  ·exact KeyOrd.kle_trans hn (h i (j - 1) h1 (by omega) (by omega))
theorem zoq {st:SortSt}{N lo n nrem:Nat}{Q:Option (Option Nat)×Nat→SortSt→Prop}(hO:LtG prog w A s κ kd)(hB:TB κ kd N st)(hlo:lo+nrem≤N)(h1:1≤n)(hn:n≤nrem)(hU:Up κ (arrOf st) lo (lo+n))
  (h:∀ m,n≤m→m≤nrem→Up κ (arrOf st) lo (lo+m)→(m < nrem→κ.klt (kAt κ (arrOf st) (lo+m)) (kAt κ (arrOf st) (lo+m - 1)))→Q (none,m) st) :
  wpS (model prog w) A E s (forIn [n:nrem] ((none,n):Option (Option Nat)×Nat) fun _ __s=>do
   let __x ← ltAt' (lo+__s.snd) (lo+__s.snd - 1)
   match __x with
   | some smaller=>if smaller=true then pure (ForInStep.done (none,__s.snd)) else pure (ForInStep.yield (none,__s.snd+1))
   | _=>pure (ForInStep.done (some none,__s.snd))) Q st:=by
 refine wpS_forRange (I:=fun i c st'=>st'=st∧c=(none,i)∧n≤i∧i≤nrem∧Up κ (arrOf st) lo (lo+i)) ?_ ?_ ⟨rfl,rfl,yaa _,hn,hU⟩
 ·rintro i c st' hi1 hi2 ⟨rfl,rfl,h3,h4,hU'⟩;refine wpS_bind (zim hO hB (by omega) (by omega) ?_);dsimp only;cases e:κ.blt (kAt κ (arrOf st') (lo+i)) (kAt κ (arrOf st') (lo+i - 1)) with
  | true=>exact wpS_pure (h i h3 h4 hU' fun _=>e)
  | false=>exact wpS_pure ⟨rfl,rfl,by omega,by omega,hU'.more (by omega) e⟩
 ·rintro c st' ⟨rfl,rfl,h3,h4,hU'⟩;exact h _ h3 h4 hU' fun z=>absurd z (by omega)
theorem zln {st:SortSt}{N lo n nrem:Nat}{Q:Option Nat→SortSt→Prop}{k:Option (Option Nat)×Nat→StateT SortSt Sem (Option Nat)}(hk:∀ m,k (none,m)=pure (some m))(hO:LtG prog w A s κ kd)(hB:TB κ kd N st)(hlo:lo+nrem≤N)(h1:1≤n)(hn:n≤nrem)(hD:Dn κ (arrOf st) lo (lo+n))
  (h:∀ r st',zjq κ st lo n nrem r st'→Q r st') :
  wpS (model prog w) A E s (do
   reverseSlice' lo (lo+n)
   let c ← forIn [n:nrem] ((none,n):Option (Option Nat)×Nat) fun _ __s=>do
    let __x ← ltAt' (lo+__s.snd) (lo+__s.snd - 1)
    match __x with
    | some smaller=>if smaller=true then pure (ForInStep.done (none,__s.snd)) else pure (ForInStep.yield (none,__s.snd+1))
    | _=>pure (ForInStep.done (some none,__s.snd))
   k c) Q st:=by
 have hz:lo+n≤(arrOf st).size:=by rw[hB.size];omega
 have hoff:=zcT (xs:=arrOf st) (i:=lo) (j:=lo+n) hz;refine wpS_bind (zhd ?_);refine wpS_bind (zoq hO (hB.off hoff) hlo h1 hn (fun i j q1 q2 q3=>?_) fun m m1 m2 hU _=>?_)
 ·rw[zfv hz (by omega),zfv hz (by omega)];exact hD _ _ (by omega) (by omega) (by omega)
 ·rw[hk];exact wpS_pure (h _ _ ⟨m,_,rfl,m1,m2,rfl,hoff.wide (yaa _) (by omega),hU⟩)
theorem zlo {st:SortSt}{N lo n nrem:Nat}{Q:Option (Option Nat)×Nat×Nat→SortSt→Prop}(hO:LtG prog w A s κ kd)(hB:TB κ kd N st)(hlo:lo+nrem≤N)(h1:1≤n)(hn:n≤nrem)(hD:Dn κ (arrOf st) lo (lo+n))
  (h:∀ m neq ys,n≤m→m≤nrem→neq < m→Off (arrOf st) ys lo (lo+m)→Dn κ ys lo (lo+m)→(∀ k,lo+m - (neq+1)≤k→k < lo+m→kAt κ ys k=kAt κ ys (lo+m - 1))→Q (none,m,neq) (setArr st ys)) :
  wpS (model prog w) A E s (forIn [n:nrem] ((none,n,0):Option (Option Nat)×Nat×Nat) fun _ __s=>do
   let __x ← ltAt' (lo+__s.snd.fst) (lo+__s.snd.fst - 1)
   match __x with
   | some smaller=>
    if smaller=true then
     if __s.snd.snd > 0 then do
      let _ ← reverseSlice' (lo+__s.snd.fst - (__s.snd.snd+1)) (lo+__s.snd.fst)
      pure (ForInStep.yield (none,__s.snd.fst+1,0))
     else pure (ForInStep.yield (none,__s.snd.fst+1,0))
    else do
     let __x ← ltAt' (lo+__s.snd.fst - 1) (lo+__s.snd.fst)
     match __x with
     | some larger=>
      if larger=true then pure (ForInStep.done (none,__s.snd.fst,__s.snd.snd))
      else pure (ForInStep.yield (none,__s.snd.fst+1,__s.snd.snd+1))
     | _=>pure (ForInStep.done (some none,__s.snd.fst,__s.snd.snd))
   | _=>pure (ForInStep.done (some none,__s.snd.fst,__s.snd.snd))) Q st:=by
 refine wpS_forRange (I:=fun i c st'=>∃ neq ys,st'=setArr st ys∧c=(none,i,neq)∧n≤i∧i≤nrem∧neq < i∧Off (arrOf st) ys lo (lo+i)∧Dn κ ys lo (lo+i)∧∀ k,lo+i - (neq+1)≤k→k < lo+i→kAt κ ys k=kAt κ ys (lo+i - 1)) ?_ ?_ ⟨0,arrOf st,rfl,rfl,yaa _,hn,h1,Off.refl _ _ _,hD,fun k q1 q2=>by rw[show k=lo+n - 1 by omega]⟩
 ·rintro i c st' hi1 hi2 ⟨neq,ys,rfl,rfl,h3,h4,h5,ho,hD',he⟩;have hB':TB κ kd N (setArr st ys):=hB.off ho;have hz:lo+i≤ys.size:=by rw[ho.size,hB.size];omega
  dsimp only;refine wpS_bind (zim hO hB' (by omega) (by omega) ?_);dsimp only;cases e:κ.blt (kAt κ ys (lo+i)) (kAt κ ys (lo+i - 1)) with
  | true=>
   simp only[if_true];by_cases hq:neq > 0
   ·rw[if_pos hq];have hoff:=zcT (xs:=ys) (i:=lo+i - (neq+1)) (j:=lo+i) hz;have hk:=zhL (κ:=κ) hz he;refine wpS_bind (zhd (wpS_pure ⟨0,_,rfl,rfl,by omega,by omega,by omega,ho.wide (yaa _) (by omega) |>.trans (hoff.wide (by omega) (by omega)),?_,fun k q1 q2=>by rw[show k=lo+(i+1) - 1 by omega]⟩));have:Dn κ (mirror ys (lo+i - (neq+1)) (lo+i) ((lo+i - (lo+i - (neq+1))) / 2)) lo (lo+i):=fun a b q1 q2 q3=>by rw[hk,hk];exact hD' a b q1 q2 q3
    exact this.more (by omega) (by rw[hk,hk];exact KeyOrd.kle_of_klt e)
   ·rw[if_neg hq];exact wpS_pure ⟨0,ys,rfl,rfl,by omega,by omega,by omega,ho.wide (yaa _) (by omega),hD'.more (by omega) (KeyOrd.kle_of_klt e),fun k q1 q2=>by rw[show k=lo+(i+1) - 1 by omega]⟩
  | false=>
   simp only[yaT,if_false];refine wpS_bind (zim hO hB' (by omega) (by omega) ?_);dsimp only;cases e2:κ.blt (kAt κ ys (lo+i - 1)) (kAt κ ys (lo+i)) with
   | true=>exact wpS_pure (h i neq ys h3 h4 h5 ho hD' he)
   | false=>
    have eq:kAt κ ys (lo+i)=kAt κ ys (lo+i - 1):=κ.total _ _ e e2;refine wpS_pure ⟨neq+1,ys,rfl,rfl,by omega,by omega,by omega,ho.wide (yaa _) (by omega),hD'.more (by omega) (by rw[eq];exact KeyOrd.kle_refl _),fun k q1 q2=>?_⟩;rw[show lo+(i+1) - 1=lo+i by omega,eq];by_cases hk:k=lo+i
    ·rw[hk];exact eq
    ·exact he k (by omega) (by omega)
 ·rintro c st' ⟨neq,ys,rfl,rfl,h3,h4,h5,ho,hD',he⟩;exact h _ neq ys h3 h4 h5 ho hD' he
theorem zjw {st:SortSt}{N lo n nrem m neq:Nat}{ys:Array Keyed}{Q:Option Nat→SortSt→Prop}{t:StateT SortSt Sem (Option Nat)}(hB:TB κ kd N st)(hlo:lo+nrem≤N)(m1:n+1≤m)(m2:m≤nrem)(m3:neq < m)
  (ho:Off (arrOf st) ys lo (lo+m)) (hD:Dn κ ys lo (lo+m)) (he:∀ k,lo+m - (neq+1)≤k→k < lo+m→kAt κ ys k=kAt κ ys (lo+m - 1)) (h:∀ r st',zjq κ st lo (n+1) nrem r st'→Q r st')
  (ht:∀ st',TB κ kd N st'→Dn κ (arrOf st') lo (lo+m)→(∀ r st'',zjq κ st' lo m nrem r st''→Q r st'')→wpS (model prog w) A E s t Q st') :
  wpS (model prog w) A E s (if neq > 0 then do
   let _ ← reverseSlice' (lo+m - (neq+1)) (lo+m)
   t else t) Q (setArr st ys):=by
 have hz:lo+m≤ys.size:=by rw[ho.size,hB.size];omega
 have back:∀ zs,Off (arrOf st) zs lo (lo+m)→∀ r st',zjq κ (setArr st zs) lo m nrem r st'→Q r st':=fun zs hz r st' hr=>by
  obtain ⟨q,vs,e1,e2,e3,e4,e5,e6⟩:=hr;exact h r st' ⟨q,vs,e1,by omega,e3,e4,(hz.wide (yaa _) (by omega)).trans e5,e6⟩
 by_cases hq:neq > 0
 ·rw[if_pos hq];have hoff:=zcT (xs:=ys) (i:=lo+m - (neq+1)) (j:=lo+m) hz;have hk:=zhL (κ:=κ) hz he;have ho2:=ho.trans (hoff.wide (by omega) (yaa _));refine wpS_bind (zhd ?_);refine ht _ (hB.off ho2) (fun a b q1 q2 q3=>?_) (back _ ho2);show κ.kle (kAt κ (mirror ys (lo+m - (neq+1)) (lo+m) ((lo+m - (lo+m - (neq+1))) / 2)) b) (kAt κ (mirror ys (lo+m - (neq+1)) (lo+m) ((lo+m - (lo+m - (neq+1))) / 2)) a);rw[hk,hk];exact hD a b q1 q2 q3
 ·rw[if_neg hq];exact ht _ (hB.off ho) hD (back _ ho)
theorem ziP {st:SortSt}{N lo nrem:Nat}{Q:Option Nat→SortSt→Prop}(hO:LtG prog w A s κ kd)(hB:TB κ kd N st)(hlo:lo+nrem≤N)(h1:1≤nrem)(h:∀ r st',zjq κ st lo 1 nrem r st'→Q r st') :
  wpS (model prog w) A E s (countRun' lo nrem) Q st:=by
 rw[countRun'_eq];refine wpS_bind (zoq hO hB hlo (yaa 1) h1 zqe fun m m1 m2 hU hnext=>?_);dsimp only;by_cases hm:m=nrem
 ·rw[if_pos (by simpa using hm)];exact wpS_pure (h _ _ ⟨m,arrOf st,rfl,m1,m2,rfl,Off.refl _ _ _,hU⟩)
 ·rw[if_neg (by simpa using hm)];have hnx:=hnext (by omega);by_cases hm1:m > 1
  ·rw[if_pos hm1];refine wpS_bind (zim hO hB (by omega) (by omega) ?_);cases e:κ.blt (kAt κ (arrOf st) lo) (kAt κ (arrOf st) (lo+m - 1)) with
   | true=>
    simp only[if_true];exact wpS_pure (h _ _ ⟨m,arrOf st,rfl,m1,m2,rfl,Off.refl _ _ _,hU⟩)
   | false=>
    simp only[yaT,if_false];have hz:lo+m≤(arrOf st).size:=by rw[hB.size];omega
    have hoff:=zcT (xs:=arrOf st) (i:=lo) (j:=lo+m) hz;have all:∀ k,lo≤k→k < lo+m→kAt κ (arrOf st) k=kAt κ (arrOf st) (lo+m - 1):=fun k q1 q2=>
     KeyOrd.kle_antisymm (hU k (lo+m - 1) q1 (by omega) (by omega)) (KeyOrd.kle_trans (show κ.kle (kAt κ (arrOf st) (lo+m - 1)) (kAt κ (arrOf st) lo) from e) (hU lo k (yaa _) q1 q2))
    have hk:=zhL (κ:=κ) hz all;refine wpS_bind (zhd ?_);have fin:∀ r st',zjq κ (setArr st (mirror (arrOf st) lo (lo+m) ((lo+m - lo) / 2))) lo (m+1) nrem r st'→Q r st':=fun r st' hr=>by
     obtain ⟨q,vs,e1,e2,e3,e4,e5,e6⟩:=hr;exact h r st' ⟨q,vs,e1,by omega,e3,e4,(hoff.wide (yaa _) (by omega)).trans e5,e6⟩
    refine wpS_bind (zcY (wpS_bind (zlo hO (hB.off hoff) hlo (by omega) (by omega) ?_ fun m' neq ys p1 p2 p3 ho hD' he=>?_)))
    rotate_left
    ·dsimp only;exact zjw (n:=m) (hB.off hoff) hlo p1 p2 p3 ho hD' he fin fun st' hB' hDD hh=>zln (fun _=>rfl) hO hB' hlo (by omega) p2 hDD hh
    ·have d0:Dn κ (arrOf st) lo (lo+m):=fun a b q1 q2 q3=>by rw[all a q1 (by omega),all b (by omega) q3];exact KeyOrd.kle_refl _
     have d1:=d0.more (by omega) (KeyOrd.kle_of_klt hnx);intro a b q1 q2 q3;show κ.kle (kAt κ (mirror (arrOf st) lo (lo+m) ((lo+m - lo) / 2)) b) (kAt κ (mirror (arrOf st) lo (lo+m) ((lo+m - lo) / 2)) a);rw[hk,hk];exact d1 a b q1 q2 (by omega)
  ·rw[if_neg hm1];have e1:m=1:=by omega
   subst e1;have fin:∀ r st',zjq κ st lo (1+1) nrem r st'→Q r st':=fun r st' hr=>by
    obtain ⟨q,vs,e1,e2,e3,e4,e5,e6⟩:=hr;exact h r st' ⟨q,vs,e1,by omega,e3,e4,e5,e6⟩
   refine wpS_bind (zcY (wpS_bind (zlo hO hB hlo (by omega) (by omega) ?_ fun m' neq ys p1 p2 p3 ho hD' he=>?_)))
   rotate_left
   ·dsimp only;exact zjw (n:=1) hB hlo p1 p2 p3 ho hD' he fin fun st' hB' hDD hh=>zln (fun _=>rfl) hO hB' hlo (by omega) p2 hDD hh
   ·intro a b q1 q2 q3;by_cases hab:a=b
    ·subst hab;exact KeyOrd.kle_refl _
    ·have ea:a=lo+1 - 1:=by omega
     have eb:b=lo+1:=by omega
     rw[ea,eb];exact KeyOrd.kle_of_klt hnx
end
end Tim
namespace Tim
open PySem PyProof.Rows
set_option autoImplicit false
section
variable {prog:Program}{w:World}{A:Around}{E:Value→Shared→Prop}{s:Shared}{κ:KeyKind}{kd:SortKind}
theorem zk0 {xs:Array Keyed}{src dst hi:Nat}(hs:src < xs.size)(hd:dst≤src)(hh:src < hi):Off xs (bubble xs src (src - dst)) dst hi:=
 ⟨bubble_perm _ _ _,fun k hk=>by
  rw[getElem?_bubble hs _ (by omega)];rw[if_neg (by omega),if_neg (by omega)]⟩
theorem zgY {xs:Array Keyed}{src dst:Nat}(hs:src < xs.size)(hd:dst≤src)(k:Nat):kAt κ (bubble xs src (src - dst)) k=if k=dst then kAt κ xs src else if dst < k∧k≤src then kAt κ xs (k - 1) else kAt κ xs k:=by
 have e:=getElem?_bubble hs (src - dst) (by omega) k;rw[show src - (src - dst)=dst by omega]at e;by_cases h1:k=dst
 ·rw[if_pos h1]at e ⊢;exact zby e
 ·rw[if_neg h1]at e ⊢;by_cases h2:dst < k∧k≤src
  ·rw[if_pos h2]at e ⊢;exact zby e
  ·rw[if_neg h2]at e ⊢;exact zby e
theorem zhc {st:SortSt}{N lo n ok:Nat}{Q:Bool→SortSt→Prop}(hO:LtG prog w A s κ kd)(hB:TB κ kd N st)(hlo:lo+n≤N)(hok:ok≤n)(hU:Up κ (arrOf st) lo (lo+ok))
  (h:∀ ys,Off (arrOf st) ys lo (lo+n)→Up κ ys lo (lo+n)→Q true (setArr st ys)):wpS (model prog w) A E s (binarySort' lo n ok) Q st:=by
 rw[binarySort'_eq];refine wpS_bind (wpS_mono (wpS_forRange (I:=fun k c st'=>c=(none,())∧∃ ys,st'=setArr st ys∧Off (arrOf st) ys lo (lo+n)∧Up κ ys lo (lo+min k n))
  (Q:=fun c st'=>c=(none,())∧∃ ys,st'=setArr st ys∧Off (arrOf st) ys lo (lo+n)∧Up κ ys lo (lo+n)) ?step ?fin ?init) ?post)
 case post=>
  rintro c st' ⟨rfl,ys,rfl,ho,hu⟩;exact wpS_pure (h ys ho hu)
 case init=>
  refine ⟨rfl,arrOf st,rfl,Off.refl _ _ _,fun i j h1 h2 h3=>?_⟩;by_cases hz:j < lo+ok
  ·exact hU i j h1 h2 hz
  ·have:i=j:=by omega
   subst this;exact KeyOrd.kle_refl _
 case fin=>
  rintro c st' ⟨rfl,ys,rfl,ho,hu⟩;refine ⟨rfl,ys,rfl,ho,?_⟩;rwa[show min (max (max ok 1) n) n=n by omega]at hu
 case step=>
  rintro k c st' hk1 hk2 ⟨rfl,ys,rfl,ho,hu⟩;rw[show min k n=k by omega]at hu;have hB':TB κ kd N (setArr st ys):=hB.off ho;have hz:ys.size=N:=by rw[ho.size,hB.size]
  refine wpS_bind (wpS_mono (wpS_forRange (I:=fun x c st''=>st''=setArr st ys∧∃ l r,c=(none,l,r)∧l≤r∧r≤k∧r - l≤k - x∧
    (∀ i,i < l→κ.kle (kAt κ ys (lo+i)) (kAt κ ys (lo+k)))∧(∀ i,r≤i→i < k→κ.klt (kAt κ ys (lo+k)) (kAt κ ys (lo+i))))
   (Q:=fun c st''=>st''=setArr st ys∧∃ l r,c=(none,l,r)∧l≤k∧
    (∀ i,i < l→κ.kle (kAt κ ys (lo+i)) (kAt κ ys (lo+k)))∧(∀ i,l≤i→i < k→κ.klt (kAt κ ys (lo+k)) (kAt κ ys (lo+i)))) ?istep ?ifin ?iinit) ?ipost)
  case iinit=>exact ⟨rfl,0,k,rfl,by omega,by omega,by omega,fun i hi=>by omega,fun i h1 h2=>by omega⟩
  case ifin=>
   rintro c st'' ⟨rfl,l,r,rfl,hlr,hrk,hm,a1,a2⟩;have:l=r:=by omega
   subst this;exact ⟨rfl,l,l,rfl,hrk,a1,a2⟩
  case istep=>
   rintro x c st'' _ hxk ⟨rfl,l,r,rfl,hlr,hrk,hm,a1,a2⟩;dsimp only;by_cases hge:l ≥ r
   ·rw[if_pos hge];have:l=r:=by omega
    subst this;exact wpS_pure ⟨rfl,l,l,rfl,hrk,a1,a2⟩
   ·rw[if_neg hge];refine wpS_bind (zim hO hB' (by omega) (by omega) ?_);dsimp only;cases e:κ.blt (kAt κ ys (lo+k)) (kAt κ ys (lo+(l+r) / 2)) with
    | true=>
     refine wpS_pure ⟨rfl,l,(l+r) / 2,rfl,by omega,by omega,by omega,a1,fun i h1 h2=>?_⟩;exact KeyOrd.klt_of_klt_of_kle e (hu _ _ (by omega) (by omega) (by omega))
    | false=>
     refine wpS_pure ⟨rfl,(l+r) / 2+1,r,rfl,by omega,by omega,by omega,fun i h1=>?_,a2⟩;exact KeyOrd.kle_trans (hu (lo+i) (lo+(l+r) / 2) (by omega) (by omega) (by omega)) (show κ.kle (kAt κ ys (lo+(l+r) / 2)) (kAt κ ys (lo+k)) from e)
  case ipost=>
   rintro c st'' ⟨rfl,l,r,rfl,hlk,a1,a2⟩;dsimp only;rw[moveDown'_eq];refine wpS_bind (wpS_modify (wpS_pure ⟨rfl,_,rfl,ho.trans ((zk0 (hi:=lo+n) (by rw[hz];omega) (by omega) (by omega)).wide (by omega) (yaa _)),?_⟩));rw[show min (k+1) n=k+1 by omega];intro i j h1 h2 h3;show κ.kle (kAt κ (bubble ys (lo+k) (lo+k - (lo+l))) i) (kAt κ (bubble ys (lo+k) (lo+k - (lo+l))) j);rw[zgY (by rw[hz];omega) (by omega),zgY (by rw[hz];omega) (by omega)];have lowS:∀ i,lo≤i→i < lo+l→κ.kle (kAt κ ys i) (kAt κ ys (lo+k)):=fun i q1 q2=>by
    have:=a1 (i - lo) (by omega);rw[show lo+(i - lo)=i by omega]at this;exact this
   have highS:∀ i,lo+l≤i→i < lo+k→κ.kle (kAt κ ys (lo+k)) (kAt κ ys i):=fun i q1 q2=>by
    have:=a2 (i - lo) (by omega) (by omega);rw[show lo+(i - lo)=i by omega]at this;exact KeyOrd.kle_of_klt this
   by_cases i1:i=lo+l
   ·rw[if_pos i1];by_cases j1:j=lo+l
    ·rw[if_pos j1];exact KeyOrd.kle_refl _
    ·rw[if_neg j1,if_pos (by omega)];exact highS _ (by omega) (by omega)
   ·rw[if_neg i1];by_cases i2:lo+l < i∧i≤lo+k
    ·rw[if_pos i2,if_neg (by omega),if_pos (by omega)];exact hu _ _ (by omega) (by omega) (by omega)
    ·rw[if_neg i2];by_cases j1:j=lo+l
     ·rw[if_pos j1];exact lowS i h1 (by omega)
     ·rw[if_neg j1];by_cases j2:lo+l < j∧j≤lo+k
      ·rw[if_pos j2];exact hu _ _ h1 (by omega) (by omega)
      ·rw[if_neg j2];exact hu _ _ h1 h2 (by omega)
end
end Tim
namespace Tim
open PySem PyProof.Rows
set_option autoImplicit false
section
variable {M:Model}{A:Around}{E:Value→Shared→Prop}{s:Shared}{st:SortSt}{n hint:Nat}{p:Nat→Bool}
abbrev C2:=Option (Option Nat)×Nat×Nat
theorem znh {Q:C2→SortSt→Prop}{f:Nat→C2→StateT SortSt Sem (ForInStep C2)}(hn:hint < n)(hp:p hint=true)
  (f1:∀ x l o,o ≥ n - hint→f x (none,l,o)=pure (.done (none,l,o)))
  (f2:∀ x l o (R:ForInStep C2→SortSt→Prop),o < n - hint→(p (hint+o)=true→R (.yield (none,o,2 * o+1)) st)→(p (hint+o)=false→R (.done (none,l,o)) st)→wpS M A E s (f x (none,l,o)) R st)
  (h:∀ l o,l < o→hint+l < n→p (hint+l)=true→(o < n - hint→p (hint+o)=false)→Q (none,l,o) st):wpS M A E s (forIn [:n] ((none,0,1):C2) f) Q st:=by
 refine wpS_forRange (I:=fun i c st'=>st'=st∧∃ l o,c=(none,l,o)∧l < o∧i+1≤o∧hint+l < n∧p (hint+l)=true) ?_ ?_ ⟨rfl,0,1,rfl,by omega,by omega,by omega,hp⟩
 ·rintro i c st' _ hi ⟨rfl,l,o,rfl,h1,h2,h3,h4⟩;by_cases ho:o ≥ n - hint
  ·rw[f1 i l o ho];exact wpS_pure (h l o h1 h3 h4 fun z=>absurd z (by omega))
  ·refine f2 i l o _ (by omega) (fun e=>?_) fun e=>?_
   ·exact ⟨rfl,o,2 * o+1,rfl,by omega,by omega,by omega,e⟩
   ·exact h l o h1 h3 h4 fun _=>e
 ·rintro c st' ⟨rfl,l,o,rfl,h1,h2,h3,h4⟩;exact h l o h1 h3 h4 fun z=>absurd z (by omega)
theorem zo0 {Q:C2→SortSt→Prop}{f:Nat→C2→StateT SortSt Sem (ForInStep C2)}(hn:hint < n)(hp:p hint=false)
  (f1:∀ x l o,o ≥ hint+1→f x (none,l,o)=pure (.done (none,l,o)))
  (f2:∀ x l o (R:ForInStep C2→SortSt→Prop),o < hint+1→(p (hint - o)=false→R (.yield (none,o,2 * o+1)) st)→(p (hint - o)=true→R (.done (none,l,o)) st)→wpS M A E s (f x (none,l,o)) R st)
  (h:∀ l o,l < o→l≤hint→p (hint - l)=false→(o < hint+1→p (hint - o)=true)→Q (none,l,o) st):wpS M A E s (forIn [:n] ((none,0,1):C2) f) Q st:=by
 refine wpS_forRange (I:=fun i c st'=>st'=st∧∃ l o,c=(none,l,o)∧l < o∧i+1≤o∧l≤hint∧p (hint - l)=false) ?_ ?_ ⟨rfl,0,1,rfl,by omega,by omega,by omega,hp⟩
 ·rintro i c st' _ hi ⟨rfl,l,o,rfl,h1,h2,h3,h4⟩;by_cases ho:o ≥ hint+1
  ·rw[f1 i l o ho];exact wpS_pure (h l o h1 h3 h4 fun z=>absurd z (by omega))
  ·refine f2 i l o _ (by omega) (fun e=>?_) fun e=>?_
   ·exact ⟨rfl,o,2 * o+1,rfl,by omega,by omega,by omega,e⟩
   ·exact h l o h1 h3 h4 fun _=>e
 ·rintro c st' ⟨rfl,l,o,rfl,h1,h2,h3,h4⟩;exact h l o h1 h3 h4 fun z=>absurd z (by omega)
theorem zjv {Q:Option Nat→SortSt→Prop}{lo hi:Nat}{f:Nat→C2→StateT SortSt Sem (ForInStep C2)}{k:C2→StateT SortSt Sem (Option Nat)}
  (anti:∀ i j,i≤j→j < n→p j=true→p i=true) (h1:lo≤hi) (h2:hi≤n) (hl:∀ i,i < lo→p i=true) (hh:∀ i,hi≤i→i < n→p i=false)
  (f1:∀ x l r,l ≥ r→f x (none,l,r)=pure (.done (none,l,r)))
  (f2:∀ x l r (R:ForInStep C2→SortSt→Prop),l < r→r≤n→(p (l+(r - l) / 2)=true→R (.yield (none,l+(r - l) / 2+1,r)) st)→(p (l+(r - l) / 2)=false→R (.yield (none,l,l+(r - l) / 2)) st)→wpS M A E s (f x (none,l,r)) R st)
  (hk:∀ l r,k (none,l,r)=pure (some r))
  (h:∀ m,m≤n→(∀ i,i < m→p i=true)→(∀ i,m≤i→i < n→p i=false)→Q (some m) st):wpS M A E s (do let c ← forIn [:n] ((none,lo,hi):C2) f;k c) Q st:=by
 refine wpS_bind (wpS_mono (wpS_forRange (I:=fun x c st'=>st'=st∧∃ l r,c=(none,l,r)∧l≤r∧r≤n∧r - l≤n - x∧(∀ i,i < l→p i=true)∧∀ i,r≤i→i < n→p i=false)
  (Q:=fun c st'=>st'=st∧∃ m,c=(none,m,m)∧m≤n∧(∀ i,i < m→p i=true)∧∀ i,m≤i→i < n→p i=false) ?_ ?_ ⟨rfl,lo,hi,rfl,h1,h2,by omega,hl,hh⟩) ?_)
 ·rintro x c st' _ hx ⟨rfl,l,r,rfl,a1,a2,a3,a4,a5⟩;by_cases hge:l ≥ r
  ·rw[f1 x l r hge];have:l=r:=by omega
   subst this;exact wpS_pure ⟨rfl,l,rfl,a2,a4,a5⟩
  ·refine f2 x l r _ (by omega) a2 (fun e=>?_) fun e=>?_
   ·exact ⟨rfl,_,r,rfl,by omega,a2,by omega,fun i hi=>anti i _ (by omega) (by omega) e,a5⟩
   ·refine ⟨rfl,l,_,rfl,by omega,by omega,by omega,a4,fun i q1 q2=>?_⟩;cases z:p i with
    | false=>rfl
    | true=>rw[anti _ i q1 q2 z]at e;cases e
 ·rintro c st' ⟨rfl,l,r,rfl,a1,a2,a3,a4,a5⟩;have:l=r:=by omega
  subst this;exact ⟨rfl,l,rfl,a2,a4,a5⟩
 ·rintro c st' ⟨rfl,m,rfl,a2,a4,a5⟩;rw[hk];exact wpS_pure (h m a2 a4 a5)
end
def zjb:Bool→Keyed→Array Keyed→Nat→Nat→Nat→StateT SortSt Sem (Option Nat):=sortPriv% PySem.Builtin.gallop
section
variable {prog:Program}{w:World}{A:Around}{E:Value→Shared→Prop}{s:Shared}{κ:KeyKind}{kd:SortKind}
def bey (κ:KeyKind)(left:Bool)(key:Keyed)(arr:Array Keyed)(base i:Nat):Bool:=if left=true then κ.blt (kAt κ arr (base+i)) (ky κ key) else !κ.blt (ky κ key) (kAt κ arr (base+i))
theorem zcP {st:SortSt}{left:Bool}{key:Keyed}{arr:Array Keyed}{base n hint:Nat}{Q:Option Nat→SortSt→Prop}(hO:LtG prog w A s κ kd)(hkd:kindOf st=kd)(hkey:Keyd κ key)(hks:∀ q∈arr.toList,Keyd κ q)
  (hz:base+n≤arr.size) (hn:hint < n) (hU:Up κ arr base (base+n))
  (h:∀ m,m≤n→(∀ i,i < m→bey κ left key arr base i=true)→(∀ i,m≤i→i < n→bey κ left key arr base i=false)→Q (some m) st):wpS (model prog w) A E s (zjb left key arr base n hint) Q st:=by
 have anti:∀ i j,i≤j→j < n→bey κ left key arr base j=true→bey κ left key arr base i=true:=by
  intro i j hij hj;have hle:=hU (base+i) (base+j) (by omega) (by omega) (by omega);unfold bey;cases left with
  | true=>
   simp only[if_true];intro e;exact KeyOrd.klt_of_kle_of_klt hle e
  | false=>
   simp only[yaT,if_false];intro e;cases z:κ.blt (ky κ key) (kAt κ arr (base+i)) with
   | false=>rfl
   | true=>
    have:κ.blt (ky κ key) (kAt κ arr (base+j))=true:=KeyOrd.klt_of_klt_of_kle z hle;rw[this]at e;cases e
 have hb:∀ i (R:Option Bool→SortSt→Prop),i < n→R (some (bey κ left key arr base i)) st→wpS (model prog w) A E s (do
   let x ← elem' arr (base+i)
   if left=true then lt' x key else do
    let r ← lt' key x
    pure (Option.map (fun b=>!b) r)) R st:=fun i R hi hR=>by
  have hi':base+i < arr.size:=by omega
  refine wpS_bind (zbj hi' ?_);have hkx:Keyd κ arr[base+i]:=hks _ (by simp);unfold bey at hR;rw[zbl hi']at hR;cases left with
  | true=>
   rw[if_pos rfl]at hR ⊢;exact lt_G hO hkd hkx hkey hR
  | false=>
   rw[if_neg (by decide)]at hR ⊢;exact wpS_bind (lt_G hO hkd hkey hkx (wpS_pure hR))
 refine wpS_bind (hb hint _ hn ?_);dsimp only;generalize bey κ left key arr base=p at *;cases e0:p hint with
 | true=>
  simp only[if_true];refine wpS_bind (znh (p:=p) hn e0 (fun x l o ho=>?_) (fun x l o R ho r1 r2=>?_) fun l o a1 a2 a3 a4=>?_)
  ·dsimp only;rw[if_pos ho]
  ·dsimp only;rw[if_neg (by omega)];refine wpS_bind (hb (hint+o) _ (by omega) ?_);dsimp only;cases e:p (hint+o) with
   | true=>exact wpS_pure (r1 e)
   | false=>exact wpS_pure (r2 e)
  ·dsimp only;refine zjv (p:=p) anti (by omega) (by omega) (fun i hi=>anti i (hint+l) (by omega) a2 a3) (fun i q1 q2=>?_) (fun x l r hge=>?_) (fun x l r R q1 q2 r1 r2=>?_) (fun _ _=>rfl) h
   ·by_cases ho:o < n - hint
    ·cases z:p i with
     | false=>rfl
     | true=>
      have:=anti (hint+o) i (by omega) q2 z;rw[a4 ho]at this;cases this
    ·exact absurd q2 (by omega)
   ·dsimp only;rw[if_pos hge]
   ·dsimp only;rw[if_neg (by omega)];refine wpS_bind (hb _ _ (by omega) ?_);dsimp only;cases e:p (l+(r - l) / 2) with
    | true=>exact wpS_pure (r1 e)
    | false=>exact wpS_pure (r2 e)
 | false=>
  simp only[yaT,if_false];refine wpS_bind (zo0 (p:=p) hn e0 (fun x l o ho=>?_) (fun x l o R ho r1 r2=>?_) fun l o a1 a2 a3 a4=>?_)
  ·dsimp only;rw[if_pos ho]
  ·dsimp only;rw[if_neg (by omega)];refine wpS_bind (hb (hint - o) _ (by omega) ?_);dsimp only;cases e:p (hint - o) with
   | true=>exact wpS_pure (r2 e)
   | false=>exact wpS_pure (r1 e)
  ·dsimp only;refine zjv (p:=p) anti (by omega) (by omega) (fun i hi=>?_) (fun i q1 q2=>?_) (fun x l r hge=>?_) (fun x l r R q1 q2 r1 r2=>?_) (fun _ _=>rfl) h
   ·by_cases ho:o < hint+1
    ·exact anti i (hint - o) (by omega) (by omega) (a4 ho)
    ·exact absurd hi (by omega)
   ·cases z:p i with
    | false=>rfl
    | true=>
     have:=anti (hint - l) i (by omega) q2 z;rw[a3]at this;cases this
   ·dsimp only;rw[if_pos hge]
   ·dsimp only;rw[if_neg (by omega)];refine wpS_bind (hb _ _ (by omega) ?_);dsimp only;cases e:p (l+(r - l) / 2) with
    | true=>exact wpS_pure (r1 e)
    | false=>exact wpS_pure (r2 e)
end
end Tim
namespace Tim
open PySem PyProof.Rows
set_option autoImplicit false
section
variable {κ:KeyKind}
def le (κ:KeyKind)(x y:Keyed):Prop:=κ.kle (ky κ x) (ky κ y)
theorem le_refl (x:Keyed):le κ x x:=KeyOrd.kle_refl _
theorem le_trans {x y z:Keyed}(h1:le κ x y)(h2:le κ y z):le κ x z:=KeyOrd.kle_trans h1 h2
abbrev SL (κ:KeyKind)(l:List Keyed):Prop:=l.Pairwise (le κ)
theorem SL.drop {l:List Keyed}(h:SL κ l)(n:Nat):SL κ (l.drop n):=h.sublist (List.drop_sublist n l)
theorem SL.take {l:List Keyed}(h:SL κ l)(n:Nat):SL κ (l.take n):=h.sublist (List.take_sublist n l)
theorem zfi {xs:Array Keyed}{i:Nat}(h:i < xs.size):xs.toList.drop i=xs[i]::xs.toList.drop (i+1):=by
 have h':i < xs.toList.length:=by simpa using h
 rw[ybS h'];simp
theorem zdF {xs:Array Keyed}{i:Nat}(hs:SL κ xs.toList)(h:i < xs.size):∀ y∈xs.toList.drop i,le κ xs[i] y:=by
 intro y hy;have q:=hs.drop i;rw[zfi h]at q hy;rcases yat.mp hy with rfl | hy
 ·exact le_refl _
 ·exact (List.pairwise_cons.mp q).1 y hy
theorem zeC {xs:Array Keyed}{i k:Nat}{x:Keyed}(h:x∈(xs.toList.drop i).take k):∃ j,j < k∧i+j < xs.size∧xs[i+j]?=some x:=by
 obtain ⟨j,hj,e⟩:=List.mem_iff_getElem.mp h;have hj':=hj;rw[yaj,yaP,yau]at hj';refine ⟨j,by omega,by omega,?_⟩;rw[List.getElem_take,List.getElem_drop]at e;rw[ybb (by omega)];simpa using e
theorem zdb {xs:Array Keyed}{i:Nat}{x:Keyed}(h:xs[i]?=some x):kAt κ xs i=ky κ x:=by
 unfold kAt;rw[h]
theorem zhf {xs:Array Keyed}(hs:SL κ xs.toList)(lo hi:Nat)(hh:hi≤xs.size):Up κ xs lo hi:=by
 intro i j h1 h2 h3;have hj:j < xs.size:=by omega
 have hi:i < xs.size:=by omega
 rw[zbl hi,zbl hj];refine zdF hs hi _ ?_;rw[List.mem_iff_getElem];refine ⟨j - i,by rw[yaP,yau];omega,?_⟩;rw[List.getElem_drop];simp[show i+(j - i)=j by omega]
theorem zpK {xs:Array Keyed}(h:Up κ xs 0 xs.size):SL κ xs.toList:=by
 rw[SL,yaQ];intro i j hi hj hij;have hi':i < xs.size:=by simpa using hi
 have hj':j < xs.size:=by simpa using hj
 have:=h i j (yaF _) (by omega) hj';rw[zbl hi',zbl hj']at this;simpa [le] using this
structure MI (κ:KeyKind)(a b:Array Keyed)(out:Array Keyed)(ia ib:Nat):Prop where
 perm:(out.toList++(a.toList.drop ia++b.toList.drop ib)).Perm (a.toList++b.toList)
 srt:SL κ out.toList
 low:∀ x∈out.toList,∀ y∈a.toList.drop ia++b.toList.drop ib,le κ x y
variable {a b out:Array Keyed}{ia ib:Nat}
theorem MI.goA {out':Array Keyed}{k:Nat}(h:MI κ a b out ia ib)(sa:SL κ a.toList)(ho:out'.toList=out.toList++(a.toList.drop ia).take k)(hle:∀ x∈(a.toList.drop ia).take k,∀ y∈b.toList.drop ib,le κ x y):MI κ a b out' (ia+k) ib:=by
 have e:a.toList.drop ia=(a.toList.drop ia).take k++a.toList.drop (ia+k):=by
  rw[← yb5,ya2]
 have s1:=sa.drop ia;rw[e]at s1;obtain ⟨p1,p2,p3⟩:=yaM.mp s1;refine ⟨?_,?_,?_⟩
 ·have q:=h.perm;rw[e]at q;rw[ho];simpa [ya3] using q
 ·rw[ho];exact yaM.mpr ⟨h.srt,p1,fun x hx y hy=>h.low x hx y (yaZ _ (ybz hy))⟩
 ·intro x hx y hy;rw[ho]at hx;rcases yao.mp hx with hx | hx
  ·refine h.low x hx y ?_;rcases yao.mp hy with hy | hy
   ·refine yaZ _ ?_;rw[e];exact yaz _ hy
   ·exact yaz _ hy
  ·rcases yao.mp hy with hy | hy
   ·exact p3 x hx y hy
   ·exact hle x hx y hy
theorem MI.goB {out':Array Keyed}{k:Nat}(h:MI κ a b out ia ib)(sb:SL κ b.toList)(ho:out'.toList=out.toList++(b.toList.drop ib).take k)(hle:∀ x∈(b.toList.drop ib).take k,∀ y∈a.toList.drop ia,le κ x y):MI κ a b out' ia (ib+k):=by
 have e:b.toList.drop ib=(b.toList.drop ib).take k++b.toList.drop (ib+k):=by
  rw[← yb5,ya2]
 have s1:=sb.drop ib;rw[e]at s1;obtain ⟨p1,p2,p3⟩:=yaM.mp s1;refine ⟨?_,?_,?_⟩
 ·have q:=h.perm;rw[e]at q;rw[ho];refine List.Perm.trans ?_ q;rw[ya3];refine List.Perm.append_left _ ?_;rw[← ya3,← ya3];exact List.Perm.append_right _ yb6
 ·rw[ho];exact yaM.mpr ⟨h.srt,p1,fun x hx y hy=>h.low x hx y (yaz _ (ybz hy))⟩
 ·intro x hx y hy;rw[ho]at hx;rcases yao.mp hx with hx | hx
  ·refine h.low x hx y ?_;rcases yao.mp hy with hy | hy
   ·exact yaZ _ hy
   ·refine yaz _ ?_;rw[e];exact yaz _ hy
  ·rcases yao.mp hy with hy | hy
   ·exact hle x hx y hy
   ·exact p3 x hx y hy
theorem zeB {xs:Array Keyed}{i:Nat}(h:i < xs.size):(xs.toList.drop i).take 1=[xs[i]]:=by
 rw[zfi h];rfl
theorem MI.pa (h:MI κ a b out ia ib)(sa:SL κ a.toList)(hia:ia < a.size)(hle:∀ y∈b.toList.drop ib,le κ a[ia] y):MI κ a b (out.push a[ia]) (ia+1) ib:=
 h.goA (k:=1) sa (by rw[zeB hia,ybT]) (by
  rw[zeB hia];intro x hx;rw[yam.mp hx];exact hle)
theorem MI.pb (h:MI κ a b out ia ib)(sb:SL κ b.toList)(hib:ib < b.size)(hle:∀ y∈a.toList.drop ia,le κ b[ib] y):MI κ a b (out.push b[ib]) ia (ib+1):=
 h.goB (k:=1) sb (by rw[zeB hib,ybT]) (by
  rw[zeB hib];intro x hx;rw[yam.mp hx];exact hle)
structure zb5 (κ:KeyKind)(a b m:Array Keyed):Prop where
 perm:m.toList.Perm (a.toList++b.toList)
 srt:SL κ m.toList
theorem zfy {xs:Array Keyed}{i k:Nat}:(xs.extract i (i+k)).toList=(xs.toList.drop i).take k:=by
 rw[yb7,yb8,Nat.add_sub_cancel_left]
theorem zfz {xs:Array Keyed}{i:Nat}:(xs.extract i xs.size).toList=xs.toList.drop i:=by
 rw[yb7,yb8];exact yap (by rw[yaP,yau];exact yaa _)
theorem MI.done (h:MI κ a b out ia ib)(sa:SL κ a.toList)(hib:b.size≤ib):zb5 κ a b (out++a.extract ia a.size++b.extract ib b.size):=by
 have e:b.toList.drop ib=[]:=yaV (by rw[yau];exact hib);have e2:(out++a.extract ia a.size++b.extract ib b.size).toList=out.toList++(a.toList.drop ia++b.toList.drop ib):=by
  rw[yaR,yaR,zfz,zfz,ya3]
 refine ⟨by rw[e2];exact h.perm,?_⟩;rw[e2,e,yaG];refine yaM.mpr ⟨h.srt,sa.drop ia,fun x hx y hy=>h.low x hx y (yaZ _ hy)⟩
theorem MI.doneA (h:MI κ a b out ia ib)(sb:SL κ b.toList)(hia:a.size≤ia):zb5 κ a b (out++a.extract ia a.size++b.extract ib b.size):=by
 have e:a.toList.drop ia=[]:=yaV (by rw[yau];exact hia);have e2:(out++a.extract ia a.size++b.extract ib b.size).toList=out.toList++(a.toList.drop ia++b.toList.drop ib):=by
  rw[yaR,yaR,zfz,zfz,ya3]
 refine ⟨by rw[e2];exact h.perm,?_⟩;rw[e2,e,ybD];refine yaM.mpr ⟨h.srt,sb.drop ib,fun x hx y hy=>h.low x hx y (yaz _ hy)⟩
theorem MI.last (h:MI κ a b out ia ib)(sa:SL κ a.toList)(sb:SL κ b.toList)(hl:∀ y∈b.toList,∀ x∈a.toList.drop ia,le κ y x):zb5 κ a b (out++b.extract ib b.size++a.extract ia a.size):=by
 have e2:(out++b.extract ib b.size++a.extract ia a.size).toList=out.toList++(b.toList.drop ib++a.toList.drop ia):=by
  rw[yaR,yaR,zfz,zfz,ya3]
 refine ⟨?_,?_⟩
 ·rw[e2];exact (List.Perm.append_left _ yb6).trans h.perm
 ·rw[e2];refine yaM.mpr ⟨h.srt,yaM.mpr ⟨sb.drop ib,sa.drop ia,fun x hx y hy=>hl x (ybE hx) y hy⟩,fun x hx y hy=>h.low x hx y ?_⟩;rcases yao.mp hy with q | q
  ·exact yaz _ q
  ·exact yaZ _ q
end
end Tim
namespace Tim
open PySem PyProof.Rows
set_option autoImplicit false
def zj8:Array Keyed→Array Keyed→StateT SortSt Sem (Array Keyed):=sortPriv% PySem.Builtin.mergeLo
def zkN:Nat→StateT SortSt Sem Unit:=sortPriv% PySem.Builtin.setMinGallop
structure SG (st st':SortSt):Prop where
 kind:kindOf st'=kindOf st
 arr:arrOf st'=arrOf st
 pend:pendingOf st'=pendingOf st
 failed:failedOf st'=failedOf st
theorem SG.refl (st:SortSt):SG st st:=⟨rfl,rfl,rfl,rfl⟩
theorem SG.trans {s1 s2 s3:SortSt}(h:SG s1 s2)(g:SG s2 s3):SG s1 s3:=⟨g.kind.trans h.kind,g.arr.trans h.arr,g.pend.trans h.pend,g.failed.trans h.failed⟩
section
variable {prog:Program}{w:World}{A:Around}{E:Value→Shared→Prop}{s:Shared}{κ:KeyKind}{kd:SortKind}
theorem zcz {g:Nat}{st st0:SortSt}{Q:Unit→SortSt→Prop}(hg:SG st0 st)(h:∀ st',SG st0 st'→Q () st'):wpS (model prog w) A E s (zkN g) Q st:=by
 refine wpS_modify (h _ (hg.trans ⟨rfl,rfl,rfl,rfl⟩))
theorem mp2 {P g:Prop}(k:P)(m:P→g):g:=m k
set_option maxHeartbeats 4000000 in
theorem zkE {st:SortSt}{a b:Array Keyed}{Q:Array Keyed→SortSt→Prop}(hO:LtG prog w A s κ kd)(hkd:kindOf st=kd)(ka:∀ q∈a.toList,Keyd κ q)(kb:∀ q∈b.toList,Keyd κ q)(sa:SL κ a.toList)(sb:SL κ b.toList)
  (ha:0 < a.size) (hb:0 < b.size) (h0:∀ y∈a.toList,le κ b[0] y) (hl:∀ y∈b.toList,∀ i,i+1=a.size→∀ x∈a.toList.drop i,le κ y x)
  (h:∀ m st',zb5 κ a b m→SG st st'→Q m st'):wpS (model prog w) A E s (zj8 a b) Q st:=by
 have m0:MI κ a b #[b[0]] 0 1:=by
  have z:MI κ a b #[] 0 0:=⟨by simp,by simp,by simp⟩;have:=z.pb sb hb (by simpa using h0);simpa using this
 refine wpS_bind (zcY ?_);dsimp only;refine wpS_bind (zbj hb ?_);by_cases e1:1=b.size
 ·rw[if_pos (by simpa using e1)];exact wpS_pure (h _ _ (m0.done sa (by omega)) (SG.refl st))
 rw[if_neg (by simpa using e1)];by_cases e2:0+1=a.size
 ·rw[if_pos (by simpa using e2)];exact wpS_pure (h _ _ (m0.last sa sb (fun y hy x hx=>hl y hy 0 e2 x hx)) (SG.refl st))
 rw[if_neg (by simpa using e2)];refine wpS_bind (wpS_get ?_);refine wpS_bind (wpS_mono (wpS_forRange (I:=fun i c st'=>SG st st'∧∃ out ia ib g,c=(none,out,ia,ib,g)∧MI κ a b out ia ib∧ia+1 < a.size∧ib < b.size∧i+1≤ia+ib)
  (Q:=fun c st'=>SG st st'∧∃ m r,c=(some m,r)∧zb5 κ a b m) ?step ?fin ⟨SG.refl st,_,0,1,_,rfl,m0,by omega,by omega,by omega⟩) ?post)
 case post=>
  rintro c st' ⟨g,m,r,rfl,hm⟩;exact wpS_pure (h m st' hm g)
 case fin=>
  rintro c st' ⟨g,out,ia,ib,gg,rfl,hm,q1,q2,q3⟩;exact absurd q3 (by omega)
 case step=>
  rintro i c st1 _ hi ⟨g1,out,ia,ib,gg,rfl,hm,q1,q2,q3⟩;dsimp only;refine wpS_bind (wpS_mono (wpS_forRange (I:=fun x c st'=>st'=st1∧∃ out' ia' ib' ca cb,c=(none,out',ia',ib',ca,cb)∧MI κ a b out' ia' ib'∧ia'+1 < a.size∧ib' < b.size∧ia+ib+x≤ia'+ib')
   (Q:=fun c st'=>st'=st1∧((∃ m r,c=(some m,r)∧zb5 κ a b m)∨∃ out' ia' ib' ca cb,c=(none,out',ia',ib',ca,cb)∧MI κ a b out' ia' ib'∧ia'+1 < a.size∧ib' < b.size∧ia+ib+1≤ia'+ib')) ?istep ?ifin ⟨rfl,out,ia,ib,0,0,rfl,hm,q1,q2,by omega⟩) ?ipost)
  case ifin=>
   rintro c st' ⟨rfl,out',ia',ib',ca,cb,rfl,hm',r1,r2,r3⟩;exact ⟨rfl,.inr ⟨out',ia',ib',ca,cb,rfl,hm',r1,r2,by omega⟩⟩
  case istep=>
   rintro x c st' _ hx ⟨rfl,out',ia',ib',ca,cb,rfl,hm',r1,r2,r3⟩;dsimp only;refine wpS_bind (zbj r2 (wpS_bind (zbj (show ia' < a.size by omega) (wpS_bind (lt_G hO (by rw[g1.kind];exact hkd) (kb _ (by simp)) (ka _ (by simp)) ?_)))));dsimp only;cases e:κ.blt (ky κ b[ib']) (ky κ (a[ia']'(by omega))) with
   | true=>
    simp only[if_true];have hm2:=hm'.pb sb r2 (fun y hy=>le_trans (show le κ b[ib'] (a[ia']'(by omega)) from KeyOrd.kle_of_klt e) (zdF sa (by omega) y hy));refine wpS_bind (zbj r2 ?_);by_cases z:ib'+1=b.size
    ·rw[if_pos (by simpa using z)];exact wpS_pure ⟨rfl,.inl ⟨_,_,rfl,hm2.done sa (by omega)⟩⟩
    ·rw[if_neg (by simpa using z)];split
     ·exact wpS_pure ⟨rfl,.inr ⟨_,_,_,_,_,rfl,hm2,by omega,by omega,by omega⟩⟩
     ·exact wpS_pure ⟨rfl,_,_,_,_,_,rfl,hm2,by omega,by omega,by omega⟩
   | false=>
    simp only[yaT,if_false];have hm2:=hm'.pa sa (show ia' < a.size by omega) (fun y hy=>le_trans (show le κ (a[ia']'(by omega)) b[ib'] from e) (zdF sb r2 y hy));refine wpS_bind (zbj (show ia' < a.size by omega) ?_);by_cases z:ia'+1+1=a.size
    ·rw[if_pos (by simpa using z)];exact wpS_pure ⟨rfl,.inl ⟨_,_,rfl,hm2.last sa sb (fun y hy x hx=>hl y hy _ z x hx)⟩⟩
    ·rw[if_neg (by simpa using z)];split
     ·exact wpS_pure ⟨rfl,.inr ⟨_,_,_,_,_,rfl,hm2,by omega,by omega,by omega⟩⟩
     ·exact wpS_pure ⟨rfl,_,_,_,_,_,rfl,hm2,by omega,by omega,by omega⟩
  case ipost=>
   rintro c st' ⟨rfl,⟨m,r,rfl,hmm⟩ | ⟨out,ia',ib',ca,cb,rfl,hm,q1,q2,q4⟩⟩
   ·exact wpS_pure ⟨g1,m,_,rfl,hmm⟩
   dsimp only;refine wpS_bind (zcY ?_);refine wpS_bind (wpS_mono (wpS_forRange (I:=fun x c st''=>SG st st''∧∃ out1 ia1 ib1 gg ca cb,c=(none,out1,ia1,ib1,gg,ca,cb)∧MI κ a b out1 ia1 ib1∧ia1+1 < a.size∧ib1 < b.size∧ia+ib+1≤ia1+ib1)
    (Q:=fun c st''=>SG st st''∧((∃ m r,c=(some m,r)∧zb5 κ a b m)∨∃ out1 ia1 ib1 gg ca cb,c=(none,out1,ia1,ib1,gg,ca,cb)∧MI κ a b out1 ia1 ib1∧ia1+1 < a.size∧ib1 < b.size∧ia+ib+1≤ia1+ib1)) ?jstep ?jfin ⟨g1,_,_,_,_,_,_,rfl,hm,q1,q2,q4⟩) ?jpost)
   case jfin=>
    rintro c st'' ⟨g2,out1,ia1,ib1,gg1,ca1,cb1,rfl,r⟩;exact ⟨g2,.inr ⟨_,_,_,_,_,_,rfl,r⟩⟩
   case jpost=>
    rintro c st'' ⟨g2,⟨m,r,rfl,hmm⟩ | ⟨out1,ia1,ib1,gg1,ca1,cb1,rfl,hm1,t1,t2,t3⟩⟩
    ·exact wpS_pure ⟨g2,m,_,rfl,hmm⟩
    ·dsimp only;exact wpS_bind (zcz g2 fun st3 g3=>wpS_pure ⟨g3,_,_,_,_,rfl,hm1,t1,t2,by omega⟩)
   case jstep=>
    rintro x c st'' _ hx ⟨g2,out1,ia1,ib1,gg1,ca1,cb1,rfl,hm1,t1,t2,t3⟩;dsimp only;apply mp2
    case m=>
     intro key;by_cases hg:gg1 > 1
     ·rw[if_pos hg];generalize gg1 - 1=gg2
      revert gg2
      exact key
     ·rw[if_neg hg];generalize gg1=gg2
      revert gg2
      exact key
    intro gg2;refine wpS_bind (zcz g2 fun st3 g3=>?_);refine wpS_bind (zbj t2 (wpS_bind (zcP hO (by rw[g3.kind];exact hkd) (kb _ (by simp)) ka (by omega) (by omega) (zhf sa _ _ (by omega)) fun k k1 k2 k3=>?_)));dsimp only;have hmk:MI κ a b (out1++a.extract ia1 (ia1+k)) (ia1+k) ib1:=hm1.goA sa (by rw[yaR,zfy]) fun x hx y hy=>by
     obtain ⟨j,j1,j2,j3⟩:=zeC hx;have q:=k2 j j1;unfold bey at q;rw[if_neg (by decide),zdb j3,ybp]at q;exact le_trans (show le κ x b[ib1] from q) (zdF sb t2 y hy)
    have bk:∀ hq:ia1+k < a.size,∀ y∈a.toList.drop (ia1+k),le κ b[ib1] y:=fun hq y hy=>by
     have q:=k3 k (yaa _) (by omega);unfold bey at q;rw[if_neg (by decide),zbl hq,ycx]at q;exact le_trans (show le κ b[ib1] a[ia1+k] from KeyOrd.kle_of_klt q) (zdF sa hq y hy)
    apply mp2
    case m=>
     by_cases hk:k > 0
     ·by_cases z:ia1+k+1=a.size
      ·intro h;clear h;rw[if_pos hk,if_pos (by simpa using z)];exact wpS_pure ⟨g3,.inl ⟨_,_,rfl,hmk.last sa sb (fun y hy x hx=>hl y hy _ z x hx)⟩⟩
      have z0:¬(ia1+k+1 == a.size)=true:=by simpa using z
      by_cases z':ia1+k=a.size
      ·intro h;clear h;rw[if_pos hk,if_neg z0,if_pos (by simpa using z')];exact wpS_pure ⟨g3,.inl ⟨_,_,rfl,hmk.doneA sb (by omega)⟩⟩
      have z1:¬(ia1+k == a.size)=true:=by simpa using z'
      have u2:=bk (by omega);have w1:ia1+k+1 < a.size:=by omega
      have w3:ia+ib+1≤ia1+k+ib1:=by omega
      intro key;rw[if_pos hk,if_neg z0,if_neg z1];refine (?_:MI κ a b (out1++a.extract ia1 (ia1+k)) (ia1+k) ib1→(∀ y∈a.toList.drop (ia1+k),le κ (b[ib1]'t2) y)→ia1+k+1 < a.size→ia+ib+1≤ia1+k+ib1→_) hmk u2 w1 w3;generalize out1++a.extract ia1 (ia1+k)=out2;generalize ia1+k=ja;generalize k=cnt
      revert out2 ja cnt
      exact key
     ·have e0:k=0:=by omega
      have u2:=bk (by omega);rw[e0,ybq]at u2;intro key;rw[if_neg hk];refine (?_:MI κ a b out1 ia1 ib1→(∀ y∈a.toList.drop ia1,le κ (b[ib1]'t2) y)→ia1+1 < a.size→ia+ib+1≤ia1+ib1→_) hm1 u2 t1 t3;generalize k=cnt;generalize ia1=ja;generalize out1=out2;exact key out2 ja cnt
    intro out2 ja cnt hm2 u2 w1 w3;refine wpS_bind (zbj t2 ?_);have hm3:=hm2.pb sb t2 u2;by_cases z2:ib1+1=b.size
    ·rw[if_pos (by simpa using z2)];exact wpS_pure ⟨g3,.inl ⟨_,_,rfl,hm3.done sa (by omega)⟩⟩
    ·rw[if_neg (by simpa using z2)];refine wpS_bind (zbj (show ja < a.size by omega) (wpS_bind (zcP hO (by rw[g3.kind];exact hkd) (ka _ (by simp)) kb (by omega) (by omega) (zhf sb _ _ (by omega)) fun k' c1 c2 c3=>?_)));dsimp only;have ge5:∀ hq:ib1+1+k' < b.size,le κ (a[ja]'(by omega)) b[ib1+1+k']:=fun hq=>by
      have q:=c3 k' (yaa _) (by omega);unfold bey at q;rw[if_pos rfl,zbl hq]at q;exact q
     have hm4:MI κ a b (out2.push b[ib1]++b.extract (ib1+1) (ib1+1+k')) ja (ib1+1+k'):=hm3.goB sb (by rw[yaR (ys:=b.extract (ib1+1) (ib1+1+k')),zfy (xs:=b)]) fun x hx y hy=>by
      obtain ⟨j,j1,j2,j3⟩:=zeC hx;have q:=c2 j j1;unfold bey at q;rw[if_pos rfl,zdb j3]at q;exact le_trans (show le κ x (a[ja]'(by omega)) from KeyOrd.kle_of_klt q) (zdF sa (by omega) y hy)
     by_cases hk':k' > 0
     ·rw[if_pos hk'];by_cases z3:ib1+1+k'=b.size
      ·rw[if_pos (by simpa using z3)];exact wpS_pure ⟨g3,.inl ⟨_,_,rfl,hm4.done sa (by omega)⟩⟩
      ·rw[if_neg (by simpa using z3)];refine wpS_bind (zbj (show ja < a.size by omega) ?_);have hm5:=hm4.pa sa (show ja < a.size by omega) fun y hy=>le_trans (show le κ (a[ja]'(by omega)) (b[ib1+1+k']'(by omega)) from ge5 (by omega)) (zdF sb (by omega) y hy);by_cases z4:ja+1+1=a.size
       ·rw[if_pos (by simpa using z4)];exact wpS_pure ⟨g3,.inl ⟨_,_,rfl,hm5.last sa sb (fun y hy x hx=>hl y hy _ z4 x hx)⟩⟩
       ·rw[if_neg (by simpa using z4)];split
        ·exact wpS_pure ⟨g3,.inr ⟨_,_,_,_,_,_,rfl,hm5,by omega,by omega,by omega⟩⟩
        ·exact wpS_pure ⟨g3,_,_,_,_,_,_,rfl,hm5,by omega,by omega,by omega⟩
     ·rw[if_neg hk'];have e0:k'=0:=by omega
      subst e0
      replace hm4:=hm3
      refine wpS_bind (zbj (show ja < a.size by omega) ?_);have hm5:=hm4.pa sa (show ja < a.size by omega) fun y hy=>le_trans (show le κ (a[ja]'(by omega)) (b[ib1+1]'(by omega)) from ge5 (by omega)) (zdF sb (by omega) y hy);by_cases z4:ja+1+1=a.size
      ·rw[if_pos (by simpa using z4)];exact wpS_pure ⟨g3,.inl ⟨_,_,rfl,hm5.last sa sb (fun y hy x hx=>hl y hy _ z4 x hx)⟩⟩
      ·rw[if_neg (by simpa using z4)];split
       ·exact wpS_pure ⟨g3,.inr ⟨_,_,_,_,_,_,rfl,hm5,by omega,by omega,by omega⟩⟩
       ·exact wpS_pure ⟨g3,_,_,_,_,_,_,rfl,hm5,by omega,by omega,by omega⟩
end
end Tim
namespace Tim
open PySem PyProof.Rows
set_option autoImplicit false
section
variable {κ:KeyKind}{a b out:Array Keyed}{na nb:Nat}
structure MH (κ:KeyKind)(a b:Array Keyed)(out:Array Keyed)(na nb:Nat):Prop where
 perm:((a.toList.take na++b.toList.take nb)++out.toList.reverse).Perm (a.toList++b.toList)
 srt:SL κ out.toList.reverse
 high:∀ x∈out.toList.reverse,∀ y∈a.toList.take na++b.toList.take nb,le κ y x
theorem zfo {l:List Keyed}{n m:Nat}(h:n≤m):l.take m=l.take n++(l.take m).drop n:=by
 have e:(l.take m).take n=l.take n:=by rw[List.take_take,ybr h]
 rw[← e,ya2]
theorem MH.goA {out':Array Keyed}{n:Nat}(h:MH κ a b out na nb)(sa:SL κ a.toList)(hn:n≤na)(ho:out'.toList.reverse=(a.toList.take na).drop n++out.toList.reverse)(hle:∀ x∈(a.toList.take na).drop n,∀ y∈b.toList.take nb,le κ y x):MH κ a b out' n nb:=by
 have e:=zfo (l:=a.toList) hn;have s1:=sa.take na;rw[e]at s1;obtain ⟨p1,p2,p3⟩:=yaM.mp s1;refine ⟨?_,?_,?_⟩
 ·refine List.Perm.trans ?_ h.perm;rw[ho,e,← ya3];refine List.Perm.append_right _ ?_;rw[ya3,ya3,← e];exact List.Perm.append_left _ yb6
 ·rw[ho];exact yaM.mpr ⟨p2,h.srt,fun x hx y hy=>h.high y hy x (yaZ _ (ybE hx))⟩
 ·intro x hx y hy;rw[ho]at hx;rcases yao.mp hx with hx | hx
  ·rcases yao.mp hy with hy | hy
   ·exact p3 y hy x hx
   ·exact hle x hx y hy
  ·refine h.high x hx y ?_;rcases yao.mp hy with hy | hy
   ·refine yaZ _ ?_;rw[e];exact yaZ _ hy
   ·exact yaz _ hy
theorem MH.goB {out':Array Keyed}{n:Nat}(h:MH κ a b out na nb)(sb:SL κ b.toList)(hn:n≤nb)(ho:out'.toList.reverse=(b.toList.take nb).drop n++out.toList.reverse)(hle:∀ x∈(b.toList.take nb).drop n,∀ y∈a.toList.take na,le κ y x):MH κ a b out' na n:=by
 have e:=zfo (l:=b.toList) hn;have s1:=sb.take nb;rw[e]at s1;obtain ⟨p1,p2,p3⟩:=yaM.mp s1;refine ⟨?_,?_,?_⟩
 ·refine List.Perm.trans (List.Perm.of_eq ?_) h.perm;rw[ho,← ya3,ya3 (a.toList.take na),← e]
 ·rw[ho];exact yaM.mpr ⟨p2,h.srt,fun x hx y hy=>h.high y hy x (yaz _ (ybE hx))⟩
 ·intro x hx y hy;rw[ho]at hx;rcases yao.mp hx with hx | hx
  ·rcases yao.mp hy with hy | hy
   ·exact hle x hx y hy
   ·exact p3 y hy x hx
  ·refine h.high x hx y ?_;rcases yao.mp hy with hy | hy
   ·exact yaZ _ hy
   ·refine yaz _ ?_;rw[e];exact yaZ _ hy
theorem zfd {xs:Array Keyed}{n:Nat}(h0:0 < n)(h:n≤xs.size):(xs.toList.take n).drop (n - 1)=[xs[n - 1]'(by omega)]:=by
 have h':n - 1 < xs.size:=by omega
 rw[yb9,show n - (n - 1)=1 by omega,zfi h'];rfl
theorem zfp {xs:Array Keyed}{n:Nat}(hs:SL κ xs.toList)(h0:0 < n)(h:n≤xs.size):∀ y∈xs.toList.take n,le κ y (xs[n - 1]'(by omega)):=by
 intro y hy;have q:=hs.take n;rw[zfo (l:=xs.toList) (show n - 1≤n by omega),zfd h0 h]at q hy;rcases yao.mp hy with hy | hy
 ·exact (yaM.mp q).2.2 y hy _ (yam.mpr rfl)
 ·rw[yam.mp hy];exact le_refl _
theorem MH.pa (h:MH κ a b out na nb)(sa:SL κ a.toList)(h0:0 < na)(hn:na≤a.size)(hle:∀ y∈b.toList.take nb,le κ y (a[na - 1]'(by omega))):MH κ a b (out.push (a[na - 1]'(by omega))) (na - 1) nb:=
 h.goA (n:=na - 1) sa (by omega) (by rw[zfd h0 hn,ybT,yca];rfl) (by
  rw[zfd h0 hn];intro x hx;rw[yam.mp hx];exact hle)
theorem MH.pb (h:MH κ a b out na nb)(sb:SL κ b.toList)(h0:0 < nb)(hn:nb≤b.size)(hle:∀ y∈a.toList.take na,le κ y (b[nb - 1]'(by omega))):MH κ a b (out.push (b[nb - 1]'(by omega))) na (nb - 1):=
 h.goB (n:=nb - 1) sb (by omega) (by rw[zfd h0 hn,ybT,yca];rfl) (by
  rw[zfd h0 hn];intro x hx;rw[yam.mp hx];exact hle)
theorem zec {xs:Array Keyed}{n:Nat}:(xs.extract 0 n).toList=xs.toList.take n:=by
 rw[yb7,yb8,ycb,Nat.sub_zero]
theorem zmQ {xs:Array Keyed}{n m:Nat}:(xs.extract n m).toList=(xs.toList.take m).drop n:=by
 rw[yb7,yb8,yb9]
theorem MH.done (h:MH κ a b out na nb)(sb:SL κ b.toList)(hna:na=0):zb5 κ a b (a.extract 0 na++b.extract 0 nb++out.reverse):=by
 have e2:(a.extract 0 na++b.extract 0 nb++out.reverse).toList=(a.toList.take na++b.toList.take nb)++out.toList.reverse:=by
  rw[yaR,yaR,zec,zec,ybU]
 refine ⟨by rw[e2];exact h.perm,?_⟩;rw[e2];subst hna;refine yaM.mpr ⟨?_,h.srt,fun x hx y hy=>h.high y hy x hx⟩;rw[ybF,ybD];exact sb.take nb
theorem MH.doneB (h:MH κ a b out na nb)(sa:SL κ a.toList)(hnb:nb=0):zb5 κ a b (a.extract 0 na++b.extract 0 nb++out.reverse):=by
 have e2:(a.extract 0 na++b.extract 0 nb++out.reverse).toList=(a.toList.take na++b.toList.take nb)++out.toList.reverse:=by
  rw[yaR,yaR,zec,zec,ybU]
 refine ⟨by rw[e2];exact h.perm,?_⟩;rw[e2];subst hnb;refine yaM.mpr ⟨?_,h.srt,fun x hx y hy=>h.high y hy x hx⟩;rw[ybF,yaG];exact sa.take na
theorem MH.first (h:MH κ a b out na nb)(sa:SL κ a.toList)(sb:SL κ b.toList)(hl:∀ y∈b.toList.take nb,∀ x∈a.toList,le κ y x):zb5 κ a b (b.extract 0 nb++a.extract 0 na++out.reverse):=by
 have e2:(b.extract 0 nb++a.extract 0 na++out.reverse).toList=(b.toList.take nb++a.toList.take na)++out.toList.reverse:=by
  rw[yaR,yaR,zec,zec,ybU]
 refine ⟨?_,?_⟩
 ·rw[e2];exact (List.Perm.append_right _ yb6).trans h.perm
 ·rw[e2];refine yaM.mpr ⟨yaM.mpr ⟨sb.take nb,sa.take na,fun x hx y hy=>hl x hx y (ybz hy)⟩,h.srt,fun x hx y hy=>h.high y hy x ?_⟩;rcases yao.mp hx with q | q
  ·exact yaz _ q
  ·exact yaZ _ q
end
def zj9:Array Keyed→Array Keyed→StateT SortSt Sem (Array Keyed):=sortPriv% PySem.Builtin.mergeHi
end Tim
namespace Tim
open PySem PyProof.Rows
set_option autoImplicit false
section
variable {prog:Program}{w:World}{A:Around}{E:Value→Shared→Prop}{s:Shared}{κ:KeyKind}{kd:SortKind}
set_option maxHeartbeats 4000000 in
theorem zkF {st:SortSt}{a b:Array Keyed}{Q:Array Keyed→SortSt→Prop}(hO:LtG prog w A s κ kd)(hkd:kindOf st=kd)(ka:∀ q∈a.toList,Keyd κ q)(kb:∀ q∈b.toList,Keyd κ q)(sa:SL κ a.toList)(sb:SL κ b.toList)
  (ha:0 < a.size) (hb:0 < b.size) (h0:∀ y∈a.toList,le κ b[0] y) (hl:∀ y∈b.toList,le κ y (a[a.size - 1]'(by omega)))
  (h:∀ m st',zb5 κ a b m→SG st st'→Q m st'):wpS (model prog w) A E s (zj9 a b) Q st:=by
 have fst:∀ n,n≤1→∀ y∈b.toList.take n,∀ x∈a.toList,le κ y x:=fun n hn y hy x hx=>by
  have hy':y∈b.toList.take 1:=by
   rcases Nat.lt_or_ge n 1 with z | z
   ·rw[show n=0 by omega]at hy;simp at hy
   ·rwa[show n=1 by omega]at hy
  have e:b.toList.take 1=[b[0]]:=by
   have:=zeB hb;rwa[ycb]at this
  rw[e]at hy';rw[yam.mp hy'];exact h0 x hx
 have m0:MH κ a b #[a[a.size - 1]'(by omega)] (a.size - 1) b.size:=by
  have z:MH κ a b #[] a.size b.size:=⟨by
   rw[yap (by simp),yap (by simp)];simp,by simp,by simp⟩
  have:=z.pa sa ha (yaa _) (fun y hy=>hl y (ybz hy));simpa using this
 refine wpS_bind (zcY ?_);dsimp only;refine wpS_bind (zbj (show a.size - 1 < a.size by omega) ?_);by_cases e1:a.size - 1=0
 ·rw[if_pos (by simpa using e1)];exact wpS_pure (h _ _ (m0.done sb e1) (SG.refl st))
 rw[if_neg (by simpa using e1)];by_cases e2:b.size=1
 ·rw[if_pos (by simpa using e2)];exact wpS_pure (h _ _ (m0.first sa sb (fst _ (by omega))) (SG.refl st))
 rw[if_neg (by simpa using e2)];refine wpS_bind (wpS_get ?_);refine wpS_bind (wpS_mono (wpS_forRange (I:=fun i c st'=>SG st st'∧∃ na nb out g,c=(none,na,nb,out,g)∧MH κ a b out na nb∧0 < na∧na≤a.size∧1 < nb∧nb≤b.size∧i+1+(na+nb)≤a.size+b.size)
  (Q:=fun c st'=>SG st st'∧∃ m r,c=(some m,r)∧zb5 κ a b m) ?step ?fin ⟨SG.refl st,_,_,_,_,rfl,m0,by omega,by omega,by omega,by omega,by omega⟩) ?post)
 case post=>
  rintro c st' ⟨g,m,r,rfl,hm⟩;exact wpS_pure (h m st' hm g)
 case fin=>
  rintro c st' ⟨g,na,nb,out,gg,rfl,hm,q1,q2,q3,q4,q5⟩;exact absurd q5 (by omega)
 case step=>
  rintro i c st1 _ hi ⟨g1,na,nb,out,gg,rfl,hm,q1,q2,q3,q4,q5⟩;dsimp only;refine wpS_bind (wpS_mono (wpS_forRange (I:=fun x c st'=>st'=st1∧∃ na' nb' out' ca cb,c=(none,na',nb',out',ca,cb)∧MH κ a b out' na' nb'∧0 < na'∧na'≤a.size∧1 < nb'∧nb'≤b.size∧x+(na'+nb')≤na+nb)
   (Q:=fun c st'=>st'=st1∧((∃ m r,c=(some m,r)∧zb5 κ a b m)∨∃ na' nb' out' ca cb,c=(none,na',nb',out',ca,cb)∧MH κ a b out' na' nb'∧0 < na'∧na'≤a.size∧1 < nb'∧nb'≤b.size∧1+(na'+nb')≤na+nb)) ?istep ?ifin ⟨rfl,na,nb,out,0,0,rfl,hm,q1,q2,q3,q4,by omega⟩) ?ipost)
  case ifin=>
   rintro c st' ⟨rfl,na',nb',out',ca,cb,rfl,hm',r1,r2,r3,r4,r5⟩;exact ⟨rfl,.inr ⟨_,_,_,ca,cb,rfl,hm',r1,r2,r3,r4,by omega⟩⟩
  case istep=>
   rintro x c st' _ hx ⟨rfl,na',nb',out',ca,cb,rfl,hm',r1,r2,r3,r4,r5⟩;dsimp only;refine wpS_bind (zbj (show nb' - 1 < b.size by omega) (wpS_bind (zbj (show na' - 1 < a.size by omega) (wpS_bind (lt_G hO (by rw[g1.kind];exact hkd) (kb _ (by simp)) (ka _ (by simp)) ?_)))));dsimp only;cases e:κ.blt (ky κ (b[nb' - 1]'(by omega))) (ky κ (a[na' - 1]'(by omega))) with
   | true=>
    simp only[if_true];have hm2:=hm'.pa sa r1 r2 (fun y hy=>le_trans (zfp sb (by omega) r4 y hy) (show le κ (b[nb' - 1]'(by omega)) (a[na' - 1]'(by omega)) from KeyOrd.kle_of_klt e));refine wpS_bind (zbj (show na' - 1 < a.size by omega) ?_);by_cases z:na' - 1=0
    ·rw[if_pos (by simpa using z)];exact wpS_pure ⟨rfl,.inl ⟨_,_,rfl,hm2.done sb z⟩⟩
    ·rw[if_neg (by simpa using z)];split
     ·exact wpS_pure ⟨rfl,.inr ⟨_,_,_,_,_,rfl,hm2,by omega,by omega,by omega,by omega,by omega⟩⟩
     ·exact wpS_pure ⟨rfl,_,_,_,_,_,rfl,hm2,by omega,by omega,by omega,by omega,by omega⟩
   | false=>
    simp only[yaT,if_false];have hm2:=hm'.pb sb (by omega) r4 (fun y hy=>le_trans (zfp sa r1 r2 y hy) (show le κ (a[na' - 1]'(by omega)) (b[nb' - 1]'(by omega)) from e));refine wpS_bind (zbj (show nb' - 1 < b.size by omega) ?_);by_cases z:nb' - 1=1
    ·rw[if_pos (by simpa using z)];exact wpS_pure ⟨rfl,.inl ⟨_,_,rfl,hm2.first sa sb (fst _ (by omega))⟩⟩
    ·rw[if_neg (by simpa using z)];split
     ·exact wpS_pure ⟨rfl,.inr ⟨_,_,_,_,_,rfl,hm2,by omega,by omega,by omega,by omega,by omega⟩⟩
     ·exact wpS_pure ⟨rfl,_,_,_,_,_,rfl,hm2,by omega,by omega,by omega,by omega,by omega⟩
  case ipost=>
   rintro c st' ⟨rfl,⟨m,r,rfl,hmm⟩ | ⟨na',nb',out,ca,cb,rfl,hm,q1,q2,q3,q4,q6⟩⟩
   ·exact wpS_pure ⟨g1,m,_,rfl,hmm⟩
   dsimp only;refine wpS_bind (zcY ?_);refine wpS_bind (wpS_mono (wpS_forRange (I:=fun x c st''=>SG st st''∧∃ na1 nb1 out1 gg ca cb,c=(none,na1,nb1,out1,gg,ca,cb)∧MH κ a b out1 na1 nb1∧0 < na1∧na1≤a.size∧1 < nb1∧nb1≤b.size∧1+(na1+nb1)≤na+nb)
    (Q:=fun c st''=>SG st st''∧((∃ m r,c=(some m,r)∧zb5 κ a b m)∨∃ na1 nb1 out1 gg ca cb,c=(none,na1,nb1,out1,gg,ca,cb)∧MH κ a b out1 na1 nb1∧0 < na1∧na1≤a.size∧1 < nb1∧nb1≤b.size∧1+(na1+nb1)≤na+nb)) ?jstep ?jfin ⟨g1,_,_,_,_,_,_,rfl,hm,q1,q2,q3,q4,q6⟩) ?jpost)
   case jfin=>
    rintro c st'' ⟨g2,na1,nb1,out1,gg1,ca1,cb1,rfl,r⟩;exact ⟨g2,.inr ⟨_,_,_,_,_,_,rfl,r⟩⟩
   case jpost=>
    rintro c st'' ⟨g2,⟨m,r,rfl,hmm⟩ | ⟨na1,nb1,out1,gg1,ca1,cb1,rfl,hm1,t1,t2,t3,t4,t5⟩⟩
    ·exact wpS_pure ⟨g2,m,_,rfl,hmm⟩
    ·dsimp only;exact wpS_bind (zcz g2 fun st3 g3=>wpS_pure ⟨g3,_,_,_,_,rfl,hm1,t1,t2,t3,t4,by omega⟩)
   case jstep=>
    rintro x c st'' _ hx ⟨g2,na1,nb1,out1,gg1,ca1,cb1,rfl,hm1,t1,t2,t3,t4,t5⟩;dsimp only;apply mp2
    case m=>
     intro key;by_cases hg:gg1 > 1
     ·rw[if_pos hg];generalize gg1 - 1=gg2
      revert gg2
      exact key
     ·rw[if_neg hg];generalize gg1=gg2
      revert gg2
      exact key
    intro gg2;refine wpS_bind (zcz g2 fun st3 g3=>?_);refine wpS_bind (zbj (show nb1 - 1 < b.size by omega) (wpS_bind (zcP hO (by rw[g3.kind];exact hkd) (kb _ (by simp)) ka (by omega) (by omega) (zhf sa _ _ (by omega)) fun at0 k1 k2 k3=>?_)));dsimp only;have hmk:MH κ a b (out1++(a.extract at0 na1).reverse) at0 nb1:=hm1.goA sa k1 (by
     rw[yaR,yca,ybU,ycy,zmQ]) fun x hx y hy=>by
     rw[yb9]at hx;obtain ⟨j,j1,j2,j3⟩:=zeC hx;have q:=k3 (at0+j) (by omega) (by omega);unfold bey at q;rw[if_neg (by decide),ybG,zdb j3,ycx]at q;exact le_trans (zfp sb (by omega) t4 y hy) (show le κ (b[nb1 - 1]'(by omega)) x from KeyOrd.kle_of_klt q)
    have hnb:nb1 - 1 < b.size:=by omega
    have bk:∀ y∈a.toList.take at0,le κ y (b[nb1 - 1]'hnb):=fun y hy=>by
     have hy':y∈(a.toList.drop 0).take at0:=by rw[ycb];exact hy
     obtain ⟨j,j1,j2,j3⟩:=zeC hy';have q:=k2 j j1;unfold bey at q;rw[if_neg (by decide),zdb j3,ybp]at q;exact q
    apply mp2
    case m=>
     by_cases hk:na1 - at0 > 0
     ·by_cases z:at0=0
      ·intro h;clear h;rw[if_pos hk,if_pos (by simpa using z)];exact wpS_pure ⟨g3,.inl ⟨_,_,rfl,hmk.done sb z⟩⟩
      have w1:0 < at0:=by omega
      have w2:at0≤a.size:=by omega
      have w3:1+(at0+nb1)≤na+nb:=by omega
      have z0:¬(at0 == 0)=true:=by simpa using z
      intro key;rw[if_pos hk,if_neg z0];refine (?_:MH κ a b (out1++(a.extract at0 na1).reverse) at0 nb1→(∀ y∈a.toList.take at0,le κ y (b[nb1 - 1]'hnb))→0 < at0→at0≤a.size→1+(at0+nb1)≤na+nb→_) hmk bk w1 w2 w3;generalize out1++(a.extract at0 na1).reverse=out2;generalize na1 - at0=cnt;generalize at0=na2
      revert out2 cnt na2
      exact key
     ·have e0:at0=na1:=by omega
      rw[e0]at bk;intro key;rw[if_neg hk];refine (?_:MH κ a b out1 na1 nb1→(∀ y∈a.toList.take na1,le κ y (b[nb1 - 1]'hnb))→0 < na1→na1≤a.size→1+(na1+nb1)≤na+nb→_) hm1 bk t1 t2 t5;generalize na1 - at0=cnt;generalize na1=na2;generalize out1=out2;exact key out2 cnt na2
    intro out2 cnt na2 hm2 u2 w1 w2 w3;refine wpS_bind (zbj (show nb1 - 1 < b.size by omega) ?_);have hm3:=hm2.pb sb (by omega) (by omega) u2;by_cases z2:nb1 - 1=1
    ·rw[if_pos (by simpa using z2)];exact wpS_pure ⟨g3,.inl ⟨_,_,rfl,hm3.first sa sb (fst _ (by omega))⟩⟩
    ·rw[if_neg (by simpa using z2)];refine wpS_bind (zbj (show na2 - 1 < a.size by omega) (wpS_bind (zcP hO (by rw[g3.kind];exact hkd) (ka _ (by simp)) kb (by omega) (by omega) (zhf sb _ _ (by omega)) fun at' c1 c2 c3=>?_)));dsimp only;have lt5:∀ hq:0 < at',le κ (b[at' - 1]'(by omega)) (a[na2 - 1]'(by omega)):=fun hq=>by
      have q:=c2 (at' - 1) (by omega);unfold bey at q;rw[if_pos rfl,ybG,zbl (by omega)]at q;exact KeyOrd.kle_of_klt q
     have hm4:MH κ a b (out2.push (b[nb1 - 1]'(by omega))++(b.extract at' (nb1 - 1)).reverse) na2 at':=hm3.goB sb c1 (by
      rw[yaR (ys:=(b.extract at' (nb1 - 1)).reverse),yca,ybU,ycy,zmQ]) fun x hx y hy=>by
      rw[yb9]at hx;obtain ⟨j,j1,j2,j3⟩:=zeC hx;have q:=c3 (at'+j) (by omega) (by omega);unfold bey at q;rw[if_pos rfl,ybG,zdb j3]at q;exact le_trans (zfp sa (by omega) (by omega) y hy) (show le κ (a[na2 - 1]'(by omega)) x from q)
     by_cases hk':nb1 - 1 - at' > 0
     ·rw[if_pos hk'];by_cases z3:at'=1
      ·rw[if_pos (by simpa using z3)];exact wpS_pure ⟨g3,.inl ⟨_,_,rfl,hm4.first sa sb (fst _ (by omega))⟩⟩
      rw[if_neg (by simpa using z3)];by_cases z3':at'=0
      ·rw[if_pos (by simpa using z3')];exact wpS_pure ⟨g3,.inl ⟨_,_,rfl,hm4.doneB sa z3'⟩⟩
      rw[if_neg (by simpa using z3')];refine wpS_bind (zbj (show na2 - 1 < a.size by omega) ?_);have hm5:=hm4.pa sa (by omega) (by omega) fun y hy=>le_trans (zfp sb (by omega) (by omega) y hy) (lt5 (by omega));by_cases z4:na2 - 1=0
      ·rw[if_pos (by simpa using z4)];exact wpS_pure ⟨g3,.inl ⟨_,_,rfl,hm5.done sb z4⟩⟩
      ·rw[if_neg (by simpa using z4)];split
       ·exact wpS_pure ⟨g3,.inr ⟨_,_,_,_,_,_,rfl,hm5,by omega,by omega,by omega,by omega,by omega⟩⟩
       ·exact wpS_pure ⟨g3,_,_,_,_,_,_,rfl,hm5,by omega,by omega,by omega,by omega,by omega⟩
     ·rw[if_neg hk'];have e0:at'=nb1 - 1:=by omega
      subst e0
      replace hm4:=hm3
      refine wpS_bind (zbj (show na2 - 1 < a.size by omega) ?_);have hm5:=hm4.pa sa (by omega) (by omega) fun y hy=>le_trans (zfp sb (by omega) (by omega) y hy) (lt5 (by omega));by_cases z4:na2 - 1=0
      ·rw[if_pos (by simpa using z4)];exact wpS_pure ⟨g3,.inl ⟨_,_,rfl,hm5.done sb z4⟩⟩
      ·rw[if_neg (by simpa using z4)];split
       ·exact wpS_pure ⟨g3,.inr ⟨_,_,_,_,_,_,rfl,hm5,by omega,by omega,by omega,by omega,by omega⟩⟩
       ·exact wpS_pure ⟨g3,_,_,_,_,_,_,rfl,hm5,by omega,by omega,by omega,by omega,by omega⟩
end
end Tim
namespace Tim
open PySem PyProof.Rows
set_option autoImplicit false
section
variable {κ:KeyKind}
def seg (xs:Array Keyed)(lo n:Nat):List Keyed:=(xs.toList.drop lo).take n
theorem zgb {xs:Array Keyed}{lo n i:Nat}(h:lo+n≤xs.size)(hi:i < n):(seg xs lo n)[i]?=xs[lo+i]?:=by
 unfold seg;rw[ybH,if_pos hi,ybV,ybc]
theorem zcg {xs:Array Keyed}{lo n:Nat}(h:lo+n≤xs.size):(seg xs lo n).length=n:=by
 unfold seg;rw[yaj,yaP,yau];omega
theorem zoH {xs:Array Keyed}{lo n:Nat}(h:lo+n≤xs.size)(hU:Up κ xs lo (lo+n)):SL κ (seg xs lo n):=by
 rw[SL,yaQ];intro i j hi hj hij;have hi':=hi;have hj':=hj;rw[zcg h]at hi' hj';have e1:(seg xs lo n)[i]=xs[lo+i]'(by omega):=by
  have:=zgb h hi';rw[yac hi,ybb (by omega)]at this;exact yae this
 have e2:(seg xs lo n)[j]=xs[lo+j]'(by omega):=by
  have:=zgb h hj';rw[yac hj,ybb (by omega)]at this;exact yae this
 rw[e1,e2];have:=hU (lo+i) (lo+j) (by omega) (by omega) (by omega);rw[zbl (by omega),zbl (by omega)]at this;exact this
theorem zkO {xs:Array Keyed}{lo n m:Nat}:seg xs lo (n+m)=seg xs lo n++seg xs (lo+n) m:=by
 unfold seg;rw[List.take_add,yb5]
theorem zhl {xs:Array Keyed}{lo n:Nat}:(xs.extract lo (lo+n)).toList=seg xs lo n:=zfy
theorem zlR {xs:Array Keyed}{lo n:Nat}(h:lo+n≤xs.size):xs.toList=xs.toList.take lo++(seg xs lo n++xs.toList.drop (lo+n)):=by
 unfold seg;rw[← yb5,ya2,ya2]
def back (xs:Array Keyed)(lo:Nat)(m:Array Keyed):Array Keyed:=m.toList.zipIdx.foldl (fun a (q:Keyed×Nat)=>a.setIfInBounds (lo+q.2) q.1) xs
theorem zjm (lo:Nat):∀(l:List Keyed) (k:Nat) (xs:Array Keyed),lo+k+l.length≤xs.size→∀ i:Nat,
  ((l.zipIdx k).foldl (fun a (q:Keyed×Nat)=>a.setIfInBounds (lo+q.2) q.1) xs)[i]?=if lo+k≤i∧i < lo+k+l.length then l[i - (lo+k)]? else xs[i]?
 | [],k,xs,h,i=>by
  rw[if_neg (by simp only[ybB];omega)];rfl
 | x::l,k,xs,h,i=>by
  rw[yaI]at h;rw[List.zipIdx_cons,List.foldl_cons,zjm lo l (k+1) (xs.setIfInBounds (lo+k) x) (by rw[Array.size_setIfInBounds];omega) i,yaI];by_cases h1:lo+(k+1)≤i∧i < lo+(k+1)+l.length
  ·rw[if_pos h1,if_pos (by omega),show i - (lo+k)=(i - (lo+(k+1)))+1 by omega,ycc]
  ·rw[if_neg h1,Array.getElem?_setIfInBounds];by_cases h2:lo+k=i
   ·rw[if_pos h2,if_pos (by omega),if_pos (by omega)];subst h2;simp
   ·rw[if_neg h2,if_neg (by omega)]
theorem znc {xs m:Array Keyed}{lo:Nat}(h:lo+m.size≤xs.size):(back xs lo m).toList=xs.toList.take lo++(m.toList++xs.toList.drop (lo+m.size)):=by
 apply ybi;intro i;have q:=zjm lo m.toList 0 xs (by rw[yau];omega) i;unfold back;rw[ybc,q,yau,ybq];have l1:(xs.toList.take lo).length=lo:=by rw[yaj,yau];omega
 by_cases h1:i < lo
 ·rw[if_neg (by omega),ybm (by rw[l1];exact h1),ybH,if_pos h1,ybc]
 ·rw[ya7 (by rw[l1];omega),l1];by_cases h2:i < lo+m.size
  ·rw[if_pos (by omega),ybm (by rw[yau];omega)]
  ·rw[if_neg (by omega),ya7 (by rw[yau];omega),yau,ybV,show lo+m.size+(i - lo - m.size)=i by omega,ybc]
theorem zfm {xs m:Array Keyed}{lo:Nat}(h:lo+m.size≤xs.size)(i:Nat):(back xs lo m)[i]?=if lo≤i∧i < lo+m.size then m[i - lo]? else xs[i]?:=by
 have q:=zjm lo m.toList 0 xs (by rw[yau];omega) i;rw[yau,ybq,ybc]at q;exact q
theorem zhk {xs:Array Keyed}{lo n:Nat}{p:Keyed}(h:lo+n≤xs.size)(hp:p∈seg xs lo n):∃ q,lo≤q∧q < lo+n∧xs[q]?=some p:=by
 obtain ⟨i,hi,e⟩:=yaW hp;have hi':=hi;rw[zcg h]at hi';refine ⟨lo+i,by omega,by omega,?_⟩;rw[← zgb h hi',yac hi,e]
theorem zk3 {xs m:Array Keyed}{sa na nb k nb':Nat}(hz:sa+na+nb≤xs.size)(ua:Up κ xs sa (sa+na))(ub:Up κ xs (sa+na) (sa+na+nb))(hk:k < na)(hnb:nb'≤nb)(hb0:0 < nb')
  (k2:∀ i,i < k→κ.kle (kAt κ xs (sa+i)) (kAt κ xs (sa+na))) (c3:∀ i,nb'≤i→i < nb→κ.kle (kAt κ xs (sa+na - 1)) (kAt κ xs (sa+na+i)))
  (hm:zb5 κ (xs.extract (sa+k) (sa+na)) (xs.extract (sa+na) (sa+na+nb')) m) :
  Off xs (back xs (sa+k) m) sa (sa+(na+nb))∧Up κ (back xs (sa+k) m) sa (sa+(na+nb)):=by
 have ex:(xs.extract (sa+k) (sa+na)).toList=seg xs (sa+k) (na - k):=by
  have:=zhl (xs:=xs) (lo:=sa+k) (n:=na - k);rwa[show sa+k+(na - k)=sa+na by omega]at this
 have ey:(xs.extract (sa+na) (sa+na+nb')).toList=seg xs (sa+na) nb':=zhl;have hp:=hm.perm;rw[ex,ey]at hp;have ms:m.size=na - k+nb':=by
  have:=hp.length_eq;rw[yau,yak,zcg (by omega),zcg (by omega)]at this;exact this
 have hzm:sa+k+m.size≤xs.size:=by omega
 have bl:=znc hzm;have mid:seg xs (sa+k) m.size=seg xs (sa+k) (na - k)++seg xs (sa+na) nb':=by
  rw[ms,zkO,show sa+k+(na - k)=sa+na by omega]
 have perm:(back xs (sa+k) m).toList.Perm xs.toList:=by
  have e:=zlR hzm;rw[mid]at e;refine (List.Perm.of_eq bl).trans (List.Perm.trans ?_ (List.Perm.of_eq e.symm));exact List.Perm.append_left _ (List.Perm.append_right _ hp)
 have inm:∀ i,sa+k≤i→i < sa+k+m.size→∃ q,sa+k≤q∧q < sa+na+nb'∧kAt κ (back xs (sa+k) m) i=kAt κ xs q:=by
  intro i h1 h2;have g:=zfm hzm i;rw[if_pos ⟨h1,h2⟩,ybb (show i - (sa+k) < m.size by omega)]at g;have hmem:m[i - (sa+k)]'(by omega)∈m.toList:=by simp
  rcases yao.mp (hp.mem_iff.mp hmem) with z | z
  ·obtain ⟨q,q1,q2,e⟩:=zhk (by omega) z;exact ⟨q,q1,by omega,zby (g.trans e.symm)⟩
  ·obtain ⟨q,q1,q2,e⟩:=zhk (by omega) z;exact ⟨q,by omega,q2,zby (g.trans e.symm)⟩
 have outm:∀ i,(i < sa+k∨sa+k+m.size≤i)→kAt κ (back xs (sa+k) m) i=kAt κ xs i:=fun i h=>zby (by rw[zfm hzm,if_neg (by omega)]);have am:∀ i q,sa≤i→i < sa+k→sa+k≤q→q < sa+na+nb→κ.kle (kAt κ xs i) (kAt κ xs q):=fun i q h1 h2 h3 h4=>by
  by_cases z:q < sa+na
  ·exact ua i q h1 (by omega) z
  ·have t:=k2 (i - sa) (by omega);rw[show sa+(i - sa)=i by omega]at t;exact KeyOrd.kle_trans t (ub _ q (yaa _) (by omega) h4)
 have mc:∀ q j,sa+k≤q→q < sa+na+nb'→sa+na+nb'≤j→j < sa+na+nb→κ.kle (kAt κ xs q) (kAt κ xs j):=fun q j h1 h2 h3 h4=>by
  by_cases z:q < sa+na
  ·have t:=c3 (j - (sa+na)) (by omega) (by omega);rw[show sa+na+(j - (sa+na))=j by omega]at t;exact KeyOrd.kle_trans (ua q (sa+na - 1) (by omega) (by omega) (by omega)) t
  ·exact ub q j (by omega) (by omega) h4
 refine ⟨⟨ycw.mpr perm,fun i hi=>by rw[zfm hzm,if_neg (by omega)]⟩,fun i j h1 h2 h3=>?_⟩;by_cases i1:i < sa+k
 ·rw[outm i (.inl i1)];by_cases j1:j < sa+k
  ·rw[outm j (.inl j1)];exact ua i j h1 h2 (by omega)
  ·by_cases j2:j < sa+k+m.size
   ·obtain ⟨q,q1,q2,e⟩:=inm j (by omega) j2;rw[e];exact am i q h1 i1 q1 (by omega)
   ·rw[outm j (.inr (by omega))];exact am i j h1 i1 (by omega) (by omega)
 ·by_cases i2:i < sa+k+m.size
  ·by_cases j2:j < sa+k+m.size
   ·by_cases e:i=j
    ·subst e;exact KeyOrd.kle_refl _
    ·have gi:=zfm hzm i;have gj:=zfm hzm j;rw[if_pos ⟨by omega,i2⟩]at gi;rw[if_pos ⟨by omega,j2⟩]at gj;rw[zby gi,zby gj,zbl (show i - (sa+k) < m.size by omega),zbl (show j - (sa+k) < m.size by omega)];have:=yaQ.mp hm.srt (i - (sa+k)) (j - (sa+k)) (by rw[yau];omega) (by rw[yau];omega) (by omega);simpa [le] using this
   ·obtain ⟨q,q1,q2,e⟩:=inm i (by omega) i2;rw[e,outm j (.inr (by omega))];exact mc q j q1 q2 (by omega) (by omega)
  ·rw[outm i (.inr (by omega)),outm j (.inr (by omega))];exact ub i j (by omega) h2 (by omega)
theorem zls {xs:Array Keyed}{sa na nb:Nat}(ua:Up κ xs sa (sa+na))(ub:Up κ xs (sa+na) (sa+na+nb))(hna:0 < na)(hle:κ.kle (kAt κ xs (sa+na - 1)) (kAt κ xs (sa+na))):Up κ xs sa (sa+(na+nb)):=by
 intro i j h1 h2 h3;by_cases z:j < sa+na
 ·exact ua i j h1 h2 z
 ·by_cases y:i < sa+na
  ·exact KeyOrd.kle_trans (ua i (sa+na - 1) h1 (by omega) (by omega)) (KeyOrd.kle_trans hle (ub (sa+na) j (yaa _) (by omega) (by omega)))
  ·exact ub i j (by omega) h2 (by omega)
end
end Tim
namespace Tim
open PySem PyProof.Rows
set_option autoImplicit false
theorem zi4 (i:Nat):mergeAt' i=(do
 let s ← get
 let (some (sa,na,power),some (sb,nb,_)):=((pendingOf s)[i]?,(pendingOf s)[i+1]?) | unsupported "internal:list.sort.pending"
 set (setPending s (((pendingOf s).setIfInBounds i (sa,na+nb,power)).eraseIdxIfInBounds (i+1)))
 let some k ← zjb false (← elem' (arrOf s) sb) (arrOf s) sa na 0 | return false
 let (sa,na):=(sa+k,na - k)
 if na == 0 then return true
 let some nb ← zjb true (← elem' (arrOf s) (sa+na - 1)) (arrOf s) sb nb (nb - 1) | return false
 if nb == 0 then return true
 let x:=(arrOf s).extract sa sb
 let y:=(arrOf s).extract sb (sb+nb)
 let merged ← if na≤nb then zj8 x y else zj9 x y
 modify fun s=>setArr s (merged.toList.zipIdx.foldl (fun a (p,j)=>a.setIfInBounds (sa+j) p) (arrOf s))
 return (failedOf (← get)).isNone):=rfl
section
variable {prog:Program}{w:World}{A:Around}{E:Value→Shared→Prop}{s:Shared}{κ:KeyKind}{kd:SortKind}
theorem zo1 {σ:Type}{x:σ}{Q:PUnit→σ→Prop}{st:σ}(h:Q ⟨⟩ x):wpS (model prog w) A E s (set x:StateT σ Sem PUnit) Q st:=by
 unfold wpS;rw[StateT.run_set];exact wpAny_pure ⟨rfl,h⟩
set_option maxHeartbeats 4000000 in
theorem zkG {st:SortSt}{N i sa na pa nb pb:Nat}{Q:Bool→SortSt→Prop}(hO:LtG prog w A s κ kd)(hB:TB κ kd N st)
  (h1:(pendingOf st)[i]?=some (sa,na,pa)) (h2:(pendingOf st)[i+1]?=some (sa+na,nb,pb)) (hna:0 < na) (hnb:0 < nb) (hz:sa+na+nb≤N)
  (ua:Up κ (arrOf st) sa (sa+na)) (ub:Up κ (arrOf st) (sa+na) (sa+na+nb))
  (h:∀ st',TB κ kd N st'→Off (arrOf st) (arrOf st') sa (sa+(na+nb))→Up κ (arrOf st') sa (sa+(na+nb))→pendingOf st'=((pendingOf st).setIfInBounds i (sa,na+nb,pa)).eraseIdxIfInBounds (i+1)→Q true st') :
  wpS (model prog w) A E s (mergeAt' i) Q st:=by
 have hsz:=hB.size;rw[zi4];refine wpS_bind (wpS_get ?_);rw[h1,h2];dsimp only;refine wpS_bind (zo1 ?_);generalize hp:((pendingOf st).setIfInBounds i (sa,na+nb,pa)).eraseIdxIfInBounds (i+1)=pend at h;have same:∀ st',SG (setPending st pend) st'→TB κ kd N st'∧arrOf st'=arrOf st∧pendingOf st'=pend:=fun st' g=>by
  have ga:arrOf st'=arrOf st:=g.arr;refine ⟨⟨g.kind.trans hB.kind,by rw[ga];exact hB.keys,g.failed.trans hB.failed,by rw[ga];exact hB.size⟩,ga,g.pend⟩
 obtain ⟨B0,_,_⟩:=same _ (SG.refl _);have hbz:sa+na < (arrOf st).size:=by omega
 refine wpS_bind (zbj hbz ?_);refine wpS_bind (zcP hO B0.kind (hB.keys _ (by simp)) hB.keys (by omega) hna ua fun k k1 k2 k3=>?_);dsimp only;have kk:kAt κ (arrOf st) (sa+na)=ky κ (arrOf st)[sa+na]:=zbl hbz;have k2':∀ i,i < k→κ.kle (kAt κ (arrOf st) (sa+i)) (kAt κ (arrOf st) (sa+na)):=fun i hi=>by
  have:=k2 i hi;unfold bey at this;simp only[yaT,if_false,ybp]at this;rw[kk];exact this
 have k3':∀ i,k≤i→i < na→κ.klt (kAt κ (arrOf st) (sa+na)) (kAt κ (arrOf st) (sa+i)):=fun i hi hj=>by
  have:=k3 i hi hj;unfold bey at this;simp only[yaT,if_false,ycx]at this;rw[kk];exact this
 by_cases e1:na - k=0
 ·rw[if_pos (by simpa using e1)];obtain ⟨b1,b2,b3⟩:=same _ (SG.refl _);refine wpS_pure (h _ b1 (by rw[b2];exact Off.refl _ _ _) ?_ b3);rw[b2];refine zls ua ub hna ?_;have:=k2' (na - 1) (by omega);rwa[show sa+(na - 1)=sa+na - 1 by omega]at this
 rw[if_neg (by simpa using e1)];have e2:sa+k+(na - k) - 1=sa+na - 1:=by omega
 have hlz:sa+k+(na - k) - 1 < (arrOf st).size:=by omega
 refine wpS_bind (zbj hlz ?_);refine wpS_bind (zcP hO B0.kind (hB.keys _ (by simp)) hB.keys (by omega) (by omega) ub fun c c1 c2 c3=>?_);dsimp only;have ck:ky κ ((arrOf st)[sa+k+(na - k) - 1]'hlz)=kAt κ (arrOf st) (sa+na - 1):=by
  rw[← zbl hlz,e2]
 have c2':∀ i,i < c→κ.klt (kAt κ (arrOf st) (sa+na+i)) (kAt κ (arrOf st) (sa+na - 1)):=fun i hi=>by
  have:=c2 i hi;unfold bey at this;simp only[if_true]at this;rw[← ck];exact this
 have c3':∀ i,c≤i→i < nb→κ.kle (kAt κ (arrOf st) (sa+na - 1)) (kAt κ (arrOf st) (sa+na+i)):=fun i hi hj=>by
  have:=c3 i hi hj;unfold bey at this;simp only[if_true]at this;rw[← ck];exact this
 by_cases e3:c=0
 ·rw[if_pos (by simpa using e3)];obtain ⟨b1,b2,b3⟩:=same _ (SG.refl _);refine wpS_pure (h _ b1 (by rw[b2];exact Off.refl _ _ _) ?_ b3);rw[b2];exact zls ua ub hna (c3' 0 (by omega) hnb)
 rw[if_neg (by simpa using e3)];generalize hX:(arrOf st).extract (sa+k) (sa+na)=X;generalize hY:(arrOf st).extract (sa+na) (sa+na+c)=Y;have xl:X.toList=seg (arrOf st) (sa+k) (na - k):=by
  have:=zhl (xs:=arrOf st) (lo:=sa+k) (n:=na - k);rw[← hX];rwa[show sa+k+(na - k)=sa+na by omega]at this
 have yl:Y.toList=seg (arrOf st) (sa+na) c:=by rw[← hY];exact zhl
 have xz:X.size=na - k:=by
  have:=congrArg List.length xl;rwa[yau,zcg (by omega)]at this
 have yz:Y.size=c:=by
  have:=congrArg List.length yl;rwa[yau,zcg (by omega)]at this
 have xg:∀ i (hi:i < X.size),X[i]=(arrOf st)[sa+k+i]'(by omega):=fun i hi=>by
  have e:X[i]?=(arrOf st)[sa+k+i]?:=by
   rw[← ybc,xl];exact zgb (by omega) (by omega)
  rw[ybb hi,ybb (by omega)]at e;exact yae e
 have yg:∀ i (hi:i < Y.size),Y[i]=(arrOf st)[sa+na+i]'(by omega):=fun i hi=>by
  have e:Y[i]?=(arrOf st)[sa+na+i]?:=by
   rw[← ybc,yl];exact zgb (by omega) (by omega)
  rw[ybb hi,ybb (by omega)]at e;exact yae e
 have xm:∀ q∈X.toList,∃ i,k≤i∧i < na∧ky κ q=kAt κ (arrOf st) (sa+i)∧q∈(arrOf st).toList:=fun q hq=>by
  rw[xl]at hq;obtain ⟨j,j1,j2,e⟩:=zhk (by omega) hq;refine ⟨j - sa,by omega,by omega,?_,?_⟩
  ·rw[show sa+(j - sa)=j by omega,zdb e]
  ·rw[← ybc]at e;exact yaO e
 have ym:∀ q∈Y.toList,∃ i,i < c∧ky κ q=kAt κ (arrOf st) (sa+na+i)∧q∈(arrOf st).toList:=fun q hq=>by
  rw[yl]at hq;obtain ⟨j,j1,j2,e⟩:=zhk (by omega) hq;refine ⟨j - (sa+na),by omega,?_,?_⟩
  ·rw[show sa+na+(j - (sa+na))=j by omega,zdb e]
  ·rw[← ybc]at e;exact yaO e
 have kX:∀ q∈X.toList,Keyd κ q:=fun q hq=>by obtain ⟨_,_,_,_,z⟩:=xm q hq;exact hB.keys q z
 have kY:∀ q∈Y.toList,Keyd κ q:=fun q hq=>by obtain ⟨_,_,_,z⟩:=ym q hq;exact hB.keys q z
 have sX:SL κ X.toList:=by
  rw[xl];exact zoH (by omega) (fun i j q1 q2 q3=>ua i j (by omega) q2 (by omega))
 have sY:SL κ Y.toList:=by
  rw[yl];exact zoH (by omega) (fun i j q1 q2 q3=>ub i j q1 q2 (by omega))
 have y0:∀(hb:0 < Y.size),ky κ Y[0]=kAt κ (arrOf st) (sa+na):=fun hb=>by
  rw[yg 0 hb,← zbl];rfl
 have lo0:∀(hb:0 < Y.size),∀ q∈X.toList,le κ Y[0] q:=fun hb q hq=>by
  obtain ⟨i,i1,i2,e,_⟩:=xm q hq;unfold le;rw[y0 hb,e];exact KeyOrd.kle_of_klt (k3' i i1 i2)
 have xlast:∀(ha:X.size - 1 < X.size),ky κ X[X.size - 1]=kAt κ (arrOf st) (sa+na - 1):=fun ha=>by
  rw[xg _ ha,← zbl];congr 1;omega
 have hi0:∀(ha:X.size - 1 < X.size),∀ q∈Y.toList,le κ q X[X.size - 1]:=fun ha q hq=>by
  obtain ⟨i,i1,e,_⟩:=ym q hq;unfold le;rw[xlast ha,e];exact KeyOrd.kle_of_klt (c2' i i1)
 have fin:∀ m st',zb5 κ X Y m→SG (setPending st pend) st'→wpS (model prog w) A E s (do
   modify fun s=>setArr s (m.toList.zipIdx.foldl (fun a (q:Keyed×Nat)=>a.setIfInBounds (sa+k+q.2) q.1) (arrOf s))
   return (failedOf (← get)).isNone) Q st':=fun m st' hm g=>by
  obtain ⟨b1,b2,b3⟩:=same _ g;refine wpS_bind (wpS_modify ?_);refine wpS_bind (wpS_get ?_);have hf:failedOf (setArr st' (m.toList.zipIdx.foldl (fun a (q:Keyed×Nat)=>a.setIfInBounds (sa+k+q.2) q.1) (arrOf st')))=none:=b1.failed;rw[hf];rw[← hX,← hY]at hm;obtain ⟨o1,o2⟩:=zk3 (by omega) ua ub (by omega) c1 (by omega) k2' c3' hm;refine wpS_pure (h _ ?_ ?_ ?_ b3)
  ·refine b1.off (lo:=sa) (hi:=sa+(na+nb)) ?_;rw[b2];exact o1
  ·show Off (arrOf st) (back (arrOf st') (sa+k) m) _ _;rw[b2];exact o1
  ·show Up κ (back (arrOf st') (sa+k) m) _ _;rw[b2];exact o2
 by_cases e4:na - k≤c
 ·rw[if_pos e4];refine wpS_bind ?_;refine zkE hO B0.kind kX kY sX sY (by omega) (by omega) (lo0 _) ?_ fun m st' hm g=>fin m st' hm g;intro q hq i hi x hx;have:x=X[X.size - 1]'(by omega):=by
   rw[show i=X.size - 1 by omega,zfi (by omega),yaV (by rw[yau];omega)]at hx;exact yam.mp hx
  rw[this];exact hi0 _ q hq
 ·rw[if_neg e4];refine wpS_bind ?_;exact zkF hO B0.kind kX kY sX sY (by omega) (by omega) (lo0 _) (hi0 (by omega)) fun m st' hm g=>fin m st' hm g
end
end Tim
namespace Tim
open PySem PyProof.Rows
set_option autoImplicit false
section
variable {κ:KeyKind}{xs ys:Array Keyed}
def Runs (κ:KeyKind)(xs:Array Keyed):List (Nat×Nat×Nat)→Nat→Nat→Prop
 | [],a,b=>a=b
 | (s,n,_)::r,a,b=>s=a∧0 < n∧Up κ xs a (a+n)∧Runs κ xs r (a+n) b
theorem Runs.le:∀{l:List (Nat×Nat×Nat)} {a b:Nat},Runs κ xs l a b→a+l.length≤b
 | [],_,_,h=>by rw[show _=_ from h];simp
 | (s,n,p)::r,a,b,⟨_,h1,_,h2⟩=>by
  have:=Runs.le h2;rw[yaI];omega
theorem Runs.split:∀{l m:List (Nat×Nat×Nat)} {a b:Nat},Runs κ xs (l++m) a b→∃ c,Runs κ xs l a c∧Runs κ xs m c b
 | [],m,a,b,h=>⟨a,rfl,h⟩
 | (s,n,p)::r,m,a,b,⟨h0,h1,h2,h3⟩=>by
  obtain ⟨c,c1,c2⟩:=Runs.split (l:=r) h3;exact ⟨c,⟨h0,h1,h2,c1⟩,c2⟩
theorem Runs.glue:∀{l m:List (Nat×Nat×Nat)} {a b c:Nat},Runs κ xs l a c→Runs κ xs m c b→Runs κ xs (l++m) a b
 | [],m,a,b,c,h,g=>by rw[show a=c from h];exact g
 | (s,n,p)::r,m,a,b,c,⟨h0,h1,h2,h3⟩,g=>⟨h0,h1,h2,Runs.glue h3 g⟩
theorem Up.off {lo hi a b:Nat}(h:Up κ xs a b)(o:Off xs ys lo hi)(d:b≤lo∨hi≤a):Up κ ys a b:=fun i j h1 h2 h3=>by
 rw[zja o (by omega),zja o (by omega)];exact h i j h1 h2 h3
theorem Runs.off {lo hi:Nat}(o:Off xs ys lo hi):∀{l:List (Nat×Nat×Nat)} {a b:Nat},Runs κ xs l a b→(b≤lo∨hi≤a)→Runs κ ys l a b
 | [],_,_,h,_=>h
 | (s,n,p)::r,a,b,⟨h0,h1,h2,h3⟩,d=>by
  have:=Runs.le h3;exact ⟨h0,h1,h2.off o (by omega),Runs.off o h3 (by omega)⟩
theorem zh7 {α:Type}{x y v:α}{post:List α}:∀ pre:List α,((pre++x::y::post).set pre.length v).eraseIdx (pre.length+1)=pre++v::post
 | []=>rfl
 | p::pre=>by
  rw[List.cons_append,yaI,List.set_cons_succ,List.eraseIdx_cons_succ,zh7 pre,List.cons_append]
end
section
variable {prog:Program}{w:World}{A:Around}{E:Value→Shared→Prop}{s:Shared}{κ:KeyKind}{kd:SortKind}
structure SI (κ:KeyKind)(kd:SortKind)(a₀:Array Keyed)(lo:Nat)(st:SortSt):Prop where
 tb:TB κ kd a₀.size st
 perm:(arrOf st).Perm a₀
 le:lo≤a₀.size
 runs:Runs κ (arrOf st) (pendingOf st).toList 0 lo
theorem zdp {a₀:Array Keyed}{st:SortSt}{lo i:Nat}{Q:Bool→SortSt→Prop}(hO:LtG prog w A s κ kd)(hI:SI κ kd a₀ lo st)(hi:i+1 < (pendingOf st).size)
  (h:∀ st',SI κ kd a₀ lo st'→Off (arrOf st) (arrOf st') 0 lo→(pendingOf st').size+1=(pendingOf st).size→Q true st'):wpS (model prog w) A E s (mergeAt' i) Q st:=by
 have hl:(pendingOf st).toList.length=(pendingOf st).size:=yau;obtain ⟨pre,x,y,post,e,hp⟩:∃ pre x y post,(pendingOf st).toList=pre++x::y::post∧pre.length=i:=by
  refine ⟨(pendingOf st).toList.take i,(pendingOf st).toList[i]'(by omega),(pendingOf st).toList[i+1]'(by omega),(pendingOf st).toList.drop (i+2),?_,?_⟩
  ·rw[← ybS,← ybS,ya2]
  ·rw[yaj];omega
 obtain ⟨sa,na,pa⟩:=x;obtain ⟨sb,nb,pb⟩:=y;have hr:=hI.runs;rw[e]at hr;obtain ⟨c,r1,h0,h1,ua,h2,h3,ub,r2⟩:=hr.split;subst h0 h2;have l1:=r2.le;have l0:=hI.le;have g1:(pendingOf st)[i]?=some (sa,na,pa):=by
  rw[← ybc,e,← hp];simp
 have g2:(pendingOf st)[i+1]?=some (sa+na,nb,pb):=by
  rw[← ybc,e,← hp,ya7 (by omega),show pre.length+1 - pre.length=1 by omega];rfl
 refine zkG hO hI.tb g1 g2 h1 h3 (by omega) ua ub fun st' b1 b2 b3 b4=>?_;have e':(pendingOf st').toList=pre++(sa,na+nb,pa)::post:=by
  rw[b4,Array.toList_eraseIdxIfInBounds,Array.toList_setIfInBounds,e,← hp];exact zh7 pre
 refine h st' ⟨b1,b2.perm.trans hI.perm,hI.le,?_⟩ (b2.wide (yaF _) (by omega)) ?_
 ·rw[e'];refine (r1.off b2 (.inl (yaa _))).glue ⟨rfl,by omega,b3,?_⟩;have:=r2.off b2 (.inr (by omega));rwa[show sa+na+nb=sa+(na+nb) by omega]at this
 ·have z1:=congrArg List.length e;have z2:=congrArg List.length e';rw[yau,yak,yaI]at z1 z2;rw[yaI]at z1;omega
end
end Tim
namespace Tim
open PySem PyProof.Rows
set_option autoImplicit false
section
variable {prog:Program}{w:World}{A:Around}{E:Value→Shared→Prop}{s:Shared}{κ:KeyKind}{kd:SortKind}
theorem Runs.modify {xs:Array Keyed}{p:Nat}:∀{l:List (Nat×Nat×Nat)} {a b:Nat} (i:Nat),Runs κ xs l a b→Runs κ xs (l.modify i fun x=>(x.fst,x.2.fst,p)) a b
 | [],_,_,i,h=>by
  cases i <;> exact h
 | (s,n,q)::r,a,b,0,h=>h
 | (s,n,q)::r,a,b,i+1,⟨h0,h1,h2,h3⟩=>⟨h0,h1,h2,Runs.modify i h3⟩
theorem SI.setp {a₀:Array Keyed}{lo hi:Nat}{st:SortSt}{p:Array (Nat×Nat×Nat)}(hI:SI κ kd a₀ lo st)(hz:hi≤a₀.size)(hr:Runs κ (arrOf st) p.toList 0 hi):SI κ kd a₀ hi (setPending st p):=
 ⟨⟨hI.tb.kind,hI.tb.keys,hI.tb.failed,hI.tb.size⟩,hI.perm,hz,hr⟩
theorem SI.pushed {a₀:Array Keyed}{st:SortSt}{lo n:Nat}(hI:SI κ kd a₀ lo st)(hn:0 < n)(hz:lo+n≤a₀.size)(hU:Up κ (arrOf st) lo (lo+n)):SI κ kd a₀ (lo+n) (setPending st ((pendingOf st).push (lo,n,0))):=by
 refine hI.setp hz ?_;rw[ybT];exact hI.runs.glue ⟨rfl,hn,hU,rfl⟩
theorem SI.marked {a₀:Array Keyed}{st:SortSt}{lo p:Nat}(hI:SI κ kd a₀ lo st):SI κ kd a₀ lo (setPending st ((pendingOf st).modify ((pendingOf st).size - 1) fun x=>(x.fst,x.2.fst,p))):=by
 refine hI.setp hI.le ?_;rw[Array.toList_modify];exact hI.runs.modify _
theorem znj {c:Prop}[Decidable c]{n:Nat}(h:2≤n):(if c then n - 2 - 1 else n - 2)+1 < n:=by
 split <;> omega
theorem ziO {a₀:Array Keyed}{st:SortSt}{Q:Unit→SortSt→Prop}(hO:LtG prog w A s κ kd)(hI:SI κ kd a₀ 0 st)(h2:2≤a₀.size)
  (h:∀ st',(arrOf st').Perm a₀→failedOf st'=none→Up κ (arrOf st') 0 a₀.size→Q () st'):wpS (model prog w) A E s sortRuns' Q st:=by
 rw[sortRuns'_eq];refine wpS_bind (wpS_get ?_);dsimp only;simp only[hI.tb.size];generalize minRun' a₀.size a₀.size 0=mr;refine wpS_bind (wpS_mono (wpS_forRange (I:=fun x c st'=>∃ lo,c=(none,lo)∧x≤lo∧SI κ kd a₀ lo st') (Q:=fun c st'=>c=(none,a₀.size)∧SI κ kd a₀ a₀.size st') ?step ?fin ⟨0,rfl,yaa _,hI⟩) ?post)
 case fin=>
  rintro c st' ⟨lo,rfl,hx,hI'⟩;have e:lo=a₀.size:=by
   have:=hI'.le;omega
  subst e;exact ⟨rfl,hI'⟩
 case step=>
  rintro x c st' _ hx ⟨lo,rfl,hxl,hI'⟩;have hle:=hI'.le;dsimp only;by_cases hlo:lo ≥ a₀.size
  ·rw[if_pos hlo];have e:lo=a₀.size:=by omega
   subst e;exact wpS_pure ⟨rfl,hI'⟩
  ·rw[if_neg hlo];refine wpS_bind (ziP hO hI'.tb (by omega) (by omega) fun r st2 hr=>?_);obtain ⟨n,ys,rfl,n1,n2,rfl,ho,hU⟩:=hr;have hI2:SI κ kd a₀ lo (setArr st' ys):=⟨hI'.tb.off ho,ho.perm.trans hI'.perm,hle,hI'.runs.off ho (.inl (yaa _))⟩;dsimp only;by_cases hmr:n < mr
   ·rw[if_pos hmr];refine wpS_bind (zcY (wpS_bind (zhc hO hI2.tb (by omega) (by omega) hU fun zs oz uz=>?_)));simp only[ybW,yaT,if_false];have hI3:SI κ kd a₀ lo (setArr st' zs):=⟨hI2.tb.off oz,oz.perm.trans hI2.perm,hle,hI2.runs.off oz (.inl (yaa _))⟩;refine wpS_bind (wpS_get ?_);cases hb:(pendingOf (setArr st' zs)).back? with
    | none=>
     dsimp only;exact wpS_bind (wpS_modify (wpS_pure ⟨_,rfl,by omega,hI3.pushed (by omega) (by omega) uz⟩))
    | some x1=>
     obtain ⟨s1,n1',p1⟩:=x1;dsimp only;refine wpS_bind (wpS_mono (wpS_forRange (I:=fun _ c st5=>c=(none,())∧SI κ kd a₀ lo st5∧Up κ (arrOf st5) lo (lo+(min (a₀.size - lo) mr))) (Q:=fun c st5=>c=(none,())∧SI κ kd a₀ lo st5∧Up κ (arrOf st5) lo (lo+(min (a₀.size - lo) mr))) ?_ (fun _ _ z=>z) ⟨rfl,hI3,uz⟩) ?_)
     ·rintro i c st5 _ _ ⟨rfl,hI5,hU5⟩;refine wpS_bind (wpS_get ?_);by_cases h1:(pendingOf st5).size > 1
      ·rw[if_pos h1,ybb (by omega)];obtain ⟨q1,q2,q3⟩:=(pendingOf st5)[(pendingOf st5).size - 2]'(by omega);dsimp only;split
       ·exact wpS_pure ⟨rfl,hI5,hU5⟩
       ·refine wpS_bind (zdp hO hI5 (by omega) fun st6 h3 h4 _=>?_);simp only[ybW,yaT,if_false];exact wpS_pure ⟨rfl,h3,hU5.off h4 (.inr (yaa _))⟩
      ·rw[if_neg h1];exact wpS_pure ⟨rfl,hI5,hU5⟩
     ·rintro c st5 ⟨rfl,hI5,hU5⟩;dsimp only;exact wpS_bind (wpS_modify (wpS_bind (wpS_modify (wpS_pure ⟨_,rfl,by omega,SI.pushed (SI.marked hI5) (by omega) (by omega) hU5⟩))))
   ·rw[if_neg hmr];refine wpS_bind (wpS_get ?_);cases hb:(pendingOf (setArr st' ys)).back? with
    | none=>
     dsimp only;exact wpS_bind (wpS_modify (wpS_pure ⟨_,rfl,by omega,hI2.pushed (by omega) (by omega) hU⟩))
    | some x1=>
     obtain ⟨s1,n1',p1⟩:=x1;dsimp only;refine wpS_bind (wpS_mono (wpS_forRange (I:=fun _ c st5=>c=(none,())∧SI κ kd a₀ lo st5∧Up κ (arrOf st5) lo (lo+n)) (Q:=fun c st5=>c=(none,())∧SI κ kd a₀ lo st5∧Up κ (arrOf st5) lo (lo+n)) ?_ (fun _ _ z=>z) ⟨rfl,hI2,hU⟩) ?_)
     ·rintro i c st5 _ _ ⟨rfl,hI5,hU5⟩;refine wpS_bind (wpS_get ?_);by_cases h1:(pendingOf st5).size > 1
      ·rw[if_pos h1,ybb (by omega)];obtain ⟨q1,q2,q3⟩:=(pendingOf st5)[(pendingOf st5).size - 2]'(by omega);dsimp only;split
       ·exact wpS_pure ⟨rfl,hI5,hU5⟩
       ·refine wpS_bind (zdp hO hI5 (by omega) fun st6 h3 h4 _=>?_);simp only[ybW,yaT,if_false];exact wpS_pure ⟨rfl,h3,hU5.off h4 (.inr (yaa _))⟩
      ·rw[if_neg h1];exact wpS_pure ⟨rfl,hI5,hU5⟩
     ·rintro c st5 ⟨rfl,hI5,hU5⟩;dsimp only;exact wpS_bind (wpS_modify (wpS_bind (wpS_modify (wpS_pure ⟨_,rfl,by omega,SI.pushed (SI.marked hI5) (by omega) (by omega) hU5⟩))))
 case post=>
  rintro c st' ⟨rfl,hI'⟩;dsimp only;refine wpS_bind (wpS_mono (wpS_forRange (I:=fun x c st''=>c=(none,())∧SI κ kd a₀ a₀.size st''∧(pendingOf st'').size+x≤a₀.size+1) (Q:=fun c st''=>c=(none,())∧SI κ kd a₀ a₀.size st''∧(pendingOf st'').size≤1) ?_ ?_ ⟨rfl,hI',?_⟩) ?_)
  ·rintro x c st'' _ hx ⟨rfl,hJ,hz⟩;refine wpS_bind (wpS_get ?_);by_cases h1:(pendingOf st'').size≤1
   ·rw[if_pos h1];exact wpS_pure ⟨rfl,hJ,h1⟩
   ·rw[if_neg h1];refine wpS_bind (zdp hO hJ ?_ fun st3 h3 _ h4=>?_)
    ·exact znj (by omega)
    ·simp only[ybW,yaT,if_false];exact wpS_pure ⟨rfl,h3,by omega⟩
  ·rintro c st'' ⟨rfl,hJ,hz⟩;exact ⟨rfl,hJ,by omega⟩
  ·have:=hI'.runs.le;rw[yau]at this;omega
  ·rintro c st'' ⟨rfl,hJ,hz⟩;dsimp only;refine wpS_pure (h _ hJ.perm hJ.tb.failed ?_);have hr:=hJ.runs;rw[← yau]at hz
   match e:(pendingOf st'').toList,hz,hr with
   | [],_,hr=>
    have:0=a₀.size:=hr;omega
   | [(s1,n1,p1)],_,hr=>
    obtain ⟨_,_,u,z⟩:=hr;have z:0+n1=a₀.size:=z;rw[z]at u;exact u
end
end Tim
namespace Tim
open PySem PyProof.Rows
set_option autoImplicit false
section
variable {prog:Program}{w:World}{A:Around}{E:Value→Shared→Prop}{s:Shared}{κ:KeyKind}{kd:SortKind}
def zgD (a:Addr)(h h':Heap):Prop:=∀ b o,b≠a→h.get? b=some o→h'.get? b=some o
def keyV (κ:KeyKind)(v:Value):κ.α:=(κ.keyOf v).getD κ.dflt
theorem ziM:∀ vs:List Value,vs.zip vs=vs.map fun v=>(v,v)
 | []=>rfl
 | v::vs=>by rw[List.zip_cons_cons,ziM vs,yax]
theorem zhB {vs:List Value}{p:Keyed}(h:p∈(pairsOf vs).toList):p.1=p.2∧p.1∈vs:=by
 have e:(pairsOf vs).toList=vs.zip vs:=by
  unfold pairsOf;simp
 rw[e]at h;rw[ziM]at h;obtain ⟨v,hv,rfl⟩:=yaH.mp h;exact ⟨rfl,hv⟩
theorem zl2 (vs:List Value):(pairsOf vs).toList.map (·.2)=vs:=by
 have e:(pairsOf vs).toList=vs.zip vs:=by
  unfold pairsOf;simp
 rw[e,ziM,ybf];have z:((fun x:Keyed=>x.2) ∘ fun v:Value=>(v,v))=id:=rfl
 first
  | rw[z,List.map_id]
  | exact List.map_id vs
theorem zqF {vs:List Value}{xs:Array Keyed}(hp:xs.Perm (pairsOf vs))(hU:Up κ xs 0 (pairsOf vs).size) :
  (xs.toList.map (·.2)).Perm vs∧(xs.toList.map (·.2)).Pairwise (fun x y=>κ.kle (keyV κ x) (keyV κ y)):=by
 have hpl:=ycw.mp hp;refine ⟨?_,?_⟩
 ·have:=hpl.map (·.2);rwa[zl2]at this
 ·have hs:SL κ xs.toList:=zpK (by rw[hp.size_eq];exact hU);refine ybX.mpr (hs.imp_of_mem fun {a b} ha hb hab=>?_);have ea:=(zhB (hpl.mem_iff.mp ha)).1;have eb:=(zhB (hpl.mem_iff.mp hb)).1;unfold le ky at hab;unfold keyV;rw[← ea,← eb];exact hab
theorem zqq {a:Addr}{vs:List Value}{n:Nat}{P:Fin→Shared→Prop}(ho:s.heap.get? a=some (seqObj "list" vs.toArray n))(hz:vs.length≤sizeLine)(keys:∀ v∈vs,∃ k,κ.keyOf v=some k)
  (hlt:∀ h',zgD a s.heap h'→LtG prog w A { s with heap:=h' } κ kd)
  (hkd:∀(h':Heap) (E:Value→Shared→Prop) (Q:SortKind→Shared→Prop),zgD a s.heap h'→2≤vs.length→Q kd { s with heap:=h' }→wpAny (model prog w) A (keyKind' vs.toArray) Q E { s with heap:=h' })
  (h:∀ out:List Value,out.Perm vs→out.Pairwise (fun x y=>κ.kle (keyV κ x) (keyV κ y))→P (.done (.ret .none)) { s with heap:=sortedHeap s.heap a vs out.toArray }) :
  wpAny (model prog w) A (Builtin.«list.sort» ⟨[.ref a],[]⟩) P E s:=by
 rw[list_sort_plain];have hlt0:a < s.heap.objs.size:=yag ho;refine wpAny_bind (listItems_at ho rfl ?_);refine wpAny_bind (listUpdate_at ho rfl ?_ (by simpa using hz) (yaF _));obtain ⟨m,ho1⟩:∃ m,(s.heap.update a (Obj.mapSeq fun _=>#[])).get? a=some (seqObj "list" #[] m):=⟨_,get?_update_seq ho (fun _=>#[])⟩;refine wpAny_bind (seqEpoch_at ho1 rfl ?_);refine wpAny_bind (wpAny_newTuple ?_ (by simpa using hz));refine wpAny_bind (wpAny_newList ?_);refine wpAny_holding ?_;have z1:(s.heap.update a (Obj.mapSeq fun _=>#[])).objs.size=s.heap.objs.size:=by rw[Heap.size_update]
 have hk:zgD a s.heap (((s.heap.update a (Obj.mapSeq fun _=>#[])).push (seqObj "tuple" vs.toArray 0)).push (seqObj "list" #[] 0)):=fun b o hb e=>
  yan _ (yan _ ((yby _ _ (Ne.symm hb)).trans e))
 have ho6:(((s.heap.update a (Obj.mapSeq fun _=>#[])).push (seqObj "tuple" vs.toArray 0)).push (seqObj "list" #[] 0)).get? a=some (seqObj "list" #[] m):=yan _ (yan _ ho1);show wpAny (model prog w) A _ P E { s with heap:=((s.heap.update a (Obj.mapSeq fun _=>#[])).push (seqObj "tuple" vs.toArray 0)).push (seqObj "list" #[] 0) };dsimp only;have fin:∀ st':SortSt,(arrOf st').Perm (pairsOf vs)→failedOf st'=none→Up κ (arrOf st') 0 (pairsOf vs).size→wpAny (model prog w) A (do
   let touched:=(← seqEpoch a) != m
   Builtin.List.listUpdate (.ref a) fun _=>(arrOf st').map (·.2)
   if let some e:=failedOf st' then rule "list.sort.comparison-raised";throw e
   if touched then rule "list.sort.modified";raiseError "ValueError" "list modified during sort"
   ret .none) P E { s with heap:=((s.heap.update a (Obj.mapSeq fun _=>#[])).push (seqObj "tuple" vs.toArray 0)).push (seqObj "list" #[] 0) }:=fun st' hp hf hU=>by
  refine wpAny_bind (seqEpoch_at ho6 rfl ?_);refine wpAny_bind (listUpdate_at ho6 rfl ?_ (yaF _) (by
   refine yar (Nat.le_of_eq ((Array.size_map ..).trans (hp.size_eq.trans (pairsOf_size _)))) ?_;omega))
  rw[hf];simp only[bne_self_eq_false,yaT,if_false];obtain ⟨o1,o2⟩:=zqF hp hU;have:=h _ o1 o2;have e:((arrOf st').toList.map (·.2)).toArray=(arrOf st').map (·.2):=by rw[← Array.toList_map,Array.toArray_toList]
  rw[e]at this;exact wpAny_pure this
 by_cases h2:vs.toArray.size < 2
 ·rw[if_pos h2,if_pos h2];refine wpAny_bind (wpAny_pure ?_);rw[StateT.run_pure];refine wpAny_bind (wpAny_pure ?_);refine fin (SortSt.mk' general' (vs.toArray.zip vs.toArray) #[] 7 none) (Array.Perm.refl _) rfl ?_;intro i j q1 q2 q3;have:i=j:=by
   rw[pairsOf_size]at q3;simp at h2;omega
  subst this;exact KeyOrd.kle_refl _
 ·rw[if_neg h2,if_neg h2];have h2':2≤vs.length:=by
   simp at h2;omega
  refine wpAny_bind (hkd _ _ _ hk h2' ?_);refine wpAny_bind (wpAny_mono (ziO (κ:=κ) (hlt _ hk) (a₀:=pairsOf vs) (st:=SortSt.mk' kd (vs.toArray.zip vs.toArray) #[] 7 none)
   (Q:=fun _ st'=>(arrOf st').Perm (pairsOf vs)∧failedOf st'=none∧Up κ (arrOf st') 0 (pairsOf vs).size)
   ⟨⟨rfl,fun p hp=>keys _ (zhB hp).2,rfl,rfl⟩,Array.Perm.refl _,yaF _,rfl⟩ (by rw[pairsOf_size];omega) fun st' a1 a2 a3=>⟨a1,a2,a3⟩) ?_ fun _ _ e=>e)
  rintro ⟨⟨⟩,st'⟩ s' ⟨rfl,hp,hf,hs⟩;exact fin st' hp hf hs
theorem zi9 {h:Heap}{a:Addr}{vs out:List Value}{n:Nat}(ho:h.get? a=some (seqObj "list" vs.toArray n)):zgD a h (sortedHeap h a vs out.toArray)∧∃ c,(sortedHeap h a vs out.toArray).get? a=some (seqObj "list" out.toArray c):=by
 unfold sortedHeap;refine ⟨fun b o hb e=>(yby _ _ (Ne.symm hb)).trans (yan _ (yan _ ((yby _ _ (Ne.symm hb)).trans e))),?_⟩;exact ⟨_,get?_update_seq (yan _ (yan _ (get?_update_seq ho (fun _=>#[])))) fun _=>out.toArray⟩
theorem znp {l:Addr}{vs:List Value}{Q:Value→Shared→Prop}(hl:s.heap.IsList l vs.toArray)(hz:vs.length≤sizeLine)(keys:∀ v∈vs,∃ k,κ.keyOf v=some k)
  (hlt:∀ h',(∀ b o,s.heap.get? b=some o→h'.get? b=some o)→LtG prog w A.in1.in1 { s with heap:=h' } κ kd)
  (hkd:∀(h':Heap) (E:Value→Shared→Prop) (Q:SortKind→Shared→Prop),(∀ b o,s.heap.get? b=some o→h'.get? b=some o)→2≤vs.length→Q kd { s with heap:=h' }→wpAny (model prog w) A.in1.in1 (keyKind' vs.toArray) Q E { s with heap:=h' })
  (h:∀(out:List Value) (h':Heap) (c:Nat),out.Perm vs→out.Pairwise (fun x y=>κ.kle (keyV κ x) (keyV κ y))→(∀ b o,s.heap.get? b=some o→h'.get? b=some o)→
   h'.get? (s.heap.objs.size+1)=some (seqObj "list" out.toArray c)→Q (.ref (s.heap.objs.size+1)) { s with heap:=h' }) :
  wpAny (model prog w) A (call (.builtin "sorted") [.ref l]) Q E s:=by
 refine Calls.call_function_entry kind_sorted plain_sorted entry_sorted (args_sorted1 _) ?_;unfold Builtin.«sorted»;refine wpAny_bind (m:=checkCount "sorted" 1 1 _) (wpAny_pure ?_);refine wpAny_bind (collect_list hl ?_ hz);refine wpAny_bind (wpAny_newList ?_ (by simpa using hz));have z1:((s.heap.push (seqObj "list" #[] 0)).update s.heap.objs.size (Obj.mapSeq (· ++ vs.toArray))).objs.size=s.heap.objs.size+1:=by
  rw[Heap.size_update,size_push']
 have hn:(((s.heap.push (seqObj "list" #[] 0)).update s.heap.objs.size (Obj.mapSeq (· ++ vs.toArray))).push (seqObj "list" vs.toArray 0)).get? (s.heap.objs.size+1)=some (seqObj "list" vs.toArray 0):=by
  rw[← z1];exact yaK _ rfl
 have hk:∀ b o,s.heap.get? b=some o→(((s.heap.push (seqObj "list" #[] 0)).update s.heap.objs.size (Obj.mapSeq (· ++ vs.toArray))).push (seqObj "list" vs.toArray 0)).get? b=some o:=fun b o e=>
  yan _ ((yby _ _ (ybQ (yag e))).trans (yan _ e))
 show wpAny _ _ _ _ _ { s with heap:=((s.heap.push (seqObj "list" #[] 0)).update s.heap.objs.size (Obj.mapSeq (· ++ vs.toArray))).push (seqObj "list" vs.toArray 0) };rw[z1];generalize ((s.heap.push (seqObj "list" #[] 0)).update s.heap.objs.size (Obj.mapSeq (· ++ vs.toArray))).push (seqObj "list" vs.toArray 0)=h1 at hn hk ⊢;have up:∀ h',zgD (s.heap.objs.size+1) h1 h'→∀ b o,s.heap.get? b=some o→h'.get? b=some o:=fun h' kb b o e=>kb b o (fun z=>by
  have:=yag e;rw[z]at this;exact absurd this (Nat.not_lt.mpr (ya4 _))) (hk b o e)
 refine wpAny_bind (wpAny_holding (wpAny_call_entry slot_list_sort ⟨_,hn,rfl⟩ entry_list_sort (zqq (s:={ s with heap:=h1 }) hn hz keys (fun h' kb=>hlt h' (up h' kb)) (fun h' E Q kb h2 q=>hkd h' E Q (up h' kb) h2 q) fun out p1 p2=>⟨_,rfl,?_⟩) (args_list_sort _)));obtain ⟨kb,c,hc⟩:=zi9 (out:=out) hn;exact wpAny_pure ⟨_,rfl,h out _ c p1 p2 (up _ kb) hc⟩
end
end Tim
namespace L2
open PySem PySem.Spec PyProof.Rows
structure DF (K:Frag)(mg:Str→Option Value)(x:Str)(st:Stmt)(ps:List Str):Prop where
 ex:∃ f fd,Fun K x x st f fd∧zjt K fd ps []∧mg x=some (.ref f)
structure FC (P:Program)(w:World)(K:Frag)(mg:Str→Option Value)(base:Heap)(k:Nat)(x:Str)(ps:List Str)(sp:Sp):Prop where
 ex:∃ f fd,FnOk P w K mg base CX0 k f fd ps sp∧zjt K fd ps []∧keepIn K (.ref f)=true∧mg x=some (.ref f)∧∃ oc od osl,K.lookup f=some ⟨oc,od,.func fd,osl⟩
theorem FC.at {P:Program}{w:World}{K:Frag}{mg:Str→Option Value}{base:Heap}{k:Nat}{x:Str}{ps:List Str}{sp:Sp}{f:Addr}{fd:FuncData}{oc:Value}{od:Option Addr}{osl:Array (Option Value)}(F:FC P w K mg base k x ps sp)(m:mg x=some (.ref f))(l:K.lookup f=some ⟨oc,od,.func fd,osl⟩):FnOk P w K mg base CX0 k f fd ps sp:=by
 obtain ⟨f',fd',ok,_,_,m',oc',od',osl',l'⟩:=F.ex;rw[m]at m';cases m'
 rw[l]at l';cases l'
 exact ok
theorem DF.ok {P:Program}{w:World}{K:Frag}{mg:Str→Option Value}{base:Heap}{x:Str}{st:Stmt}{N ps:List Str}{k:Nat}{sp:Sp}(D:DF K mg x st ps)(S:zas N ps (zaj st))(len:∀ vs H Q E,sp vs H Q E→vs.length=ps.length)
  (hbody:∀(f:Addr) (cdv:Value) (A:Around) (outer:List Env) (s:Shared) (H:Hp) (vs:List V) (Q:VK) (E:XK),Room k (A.deeper (envOfC x (zaj st) s.heap.objs.size f cdv))→sp vs H Q E→
   ∃ t,PSs (cxOf CX0 P w K mg base N x (zaj st) f cdv A outer s H E).nox (zde st) t∧t { nx:=fun _ H'=>Q .non H',rt:=Q } (zdm N vs) H):FC P w K mg base (k+1) x ps sp:=by
 obtain ⟨f,fd,F,b,m⟩:=D.ex;exact ⟨f,fd,F.ok S len fun cdv A outer s H vs Q E hr h=>hbody f cdv A outer s H vs Q E hr h,b,F.kp,m,by
  obtain ⟨oc,od,kV,doc,pm,an,cdv,ct,osl,rfl,lk,hcd⟩:=F.ex;exact ⟨oc,od,osl,lk⟩⟩
theorem zax {X:Cx}{j k:Nat}{x:Str}{ps:List Str}{sp:Sp}{e:Expr}{es:List Expr}{t:TA}{p pos:Pos}(F:FC X.prog X.w X.K X.mg X.base j x ps sp)(hr:Room k X.A)(ha:PA X (e::es) t)(hjk:j≤k:=by decide)(hg:Gl X x:=by rfl)
  (hdb:(x == ("__debug__" : Str))=false:=by decide) (he:starEach (e::es) X.env=(false,eval e X.env)::starEach es X.env:=by rfl) (hpl:(backTo pos (starEach es X.env)).any (·.1)=false:=by rfl):PE X (.Call (.Name x p) (e::es) [] pos) (zqj sp [] E0 t):=by
 obtain ⟨f,fd,ok,b,kp,m,_⟩:=F.ex;exact zpr ok (hr.mono hjk) hg m kp b .nil zrB ha hdb he hpl
def zrp (t u:TS):TS:=fun D σ H=>∃ M:St→Hp→Prop,t { D with nx:=M } σ H∧∀ σ' H',M σ' H'→u D σ' H'
theorem za3 {X:Cx}{st:Stmt}{rest:List Stmt}{t u:TS}(h1:PS X st t)(h2:PSs X rest u):PSs X (st::rest) (zrp t u):=by
 intro pins s σ H D I h;obtain ⟨M,h,hM⟩:=h;refine wpAny_execs_cons (thn (h1 pins s σ H { D with nx:=M } I h) fun f s1 q=>?_);cases f with
 | next=>
  obtain ⟨σ',H',I',q⟩:=q;exact h2 pins s1 σ' H' D I' (hM σ' H' q)
 | ret v=>exact q
 | brk=>exact q
 | cont=>exact q
def zrP (i j:Int):Prop:=0 < j∧j < 2 ^ 4000
section
variable {X:Cx}
def kitO (a b:String):Option Bool:=if (Value.type a == Value.type b)=true then some true else if PySem.W.kitMeta b=true then (PySem.fastBuiltinMro a).map (·.contains (.type b)) else none
theorem zpM {K:Frag}{a b:String}:kitOne K (.type a) (.type b)=kitO a b:=rfl
def rIsi (K:Frag):List V→Hp→VK→Prop:=fun xs H Q=>∃ x n t b,xs=[x,.ty n]∧TyOf K H x (.type t)∧kitO t n=some b∧Q (.bl b) H
theorem zcd:zey X (.builtin "isinstance") (rIsi X.K):=by
 intro pins s σ H xs us Q I r h;obtain ⟨x,n,t,b,e,ty,ki,q⟩:=h;subst e;obtain ⟨u,w',e,r1,r2⟩:=zhY r;subst e;cases r2
 exact zmE I r1 ty (zpM.trans ki) fun tk=>⟨.bl b,H,I.tok tk,rfl,q⟩
theorem zoQ:kitO "int" "int" = some true:=by decide +kernel
theorem zoR:kitO "int" "bool" = some false:=by decide +kernel
theorem zoP:kitO "list" "list" = some true:=by decide +kernel
theorem zq4:kitO "bool" "int" = some true:=by decide +kernel
theorem zmw:kitO "bool" "bool" = some true:=by decide +kernel
def zpk:V→List V→Hp→VK→Prop:=fun x xs H Q=>∃ i,x=.int i∧xs=[]∧Q (.int (Builtin.Int.intBits i:Nat)) H
theorem zhF:MtR X "int.bit_length" zpk:=by
 intro pins s σ H x xs v us Q I rx rv h;obtain ⟨i,rfl,rfl,q⟩:=h;obtain ⟨t,rfl⟩:=rx;cases rv
 exact call_int_bit_length ⟨.int _,H,I.tok _,⟨_,rfl⟩,q⟩
end
theorem zrE {c A B:Prop}[Decidable c](hc:¬ c)(h:B):if decide c=true then A else B:=by
 rw[yaq hc];exact iteF h
theorem zrD {c A B:Prop}[Decidable c](hc:c)(h:A):if decide c=true then A else B:=by
 rw[yah hc];exact iteT h
def zda (L:Addr)(a l:Int):HO:=.dK [(.inr "script",.ref L),(.inr "at",.int a),(.inr "left",.int l)]
def Keep (d:Addr)(H H':Hp):Prop:=∀ b o,b≠d→H b=some o→H' b=some o
theorem Keep.refl (d:Addr)(H:Hp):Keep d H H:=fun _ _ _ h=>h
theorem Keep.trans {d:Addr}{H H1 H2:Hp}(a:Keep d H H1)(b:Keep d H1 H2):Keep d H H2:=fun c o n h=>b c o n (a c o n h)
theorem Same.keep {d:Addr}{H H':Hp}(s:Same H H'):Keep d H H':=fun b o _ h=>s b o h
structure LS (K:Frag)(L d:Addr)(H:Hp):Prop where
 ex:∃(ns:List Int) (a l:Int),H d=some (zda L a l)∧SqL K H L (ns.map V.int)
theorem zhj {K:Frag}{H H':Hp}{L d:Addr}{xs:List V}{L':Addr}{a l:Int}(hd:H d=some (zda L' a l))(k:Keep d H H')(h:SqL K H L xs):SqL K H' L xs:=by
 have ne:∀ o,H L=some o→(∀ kvs,o≠.dK kvs)→L≠d:=fun o e n z=>by
  rw[z,hd]at e;cases e
  exact n _ rfl
 rcases h with (h | ⟨o,h⟩) | h
 ·exact .inl (.inl (k L _ (ne _ h (fun _ z=>nomatch z)) h))
 ·exact .inl (.inr ⟨o,k L _ (ne _ h (fun _ z=>nomatch z)) h⟩)
 ·exact .inr h
theorem LS.set {K:Frag}{d L:Addr}{H:Hp}{ns:List Int}{a l a' l':Int}(hd:H d=some (zda L a l))(h:SqL K H L (ns.map V.int)):LS K L d (upd H d (zda L a' l'))∧Keep d H (upd H d (zda L a' l')):=by
 have k:Keep d H (upd H d (zda L a' l')):=fun b o n e=>by rw[zai n];exact e
 exact ⟨⟨ns,a',l',zac,zhj hd k h⟩,k⟩
theorem LS.same {K:Frag}{L d:Addr}{H H':Hp}(s:LS K L d H)(k:Same H H'):LS K L d H':=by
 obtain ⟨ns,a,l,e,q⟩:=s.ex;exact ⟨ns,a,l,k _ _ e,k.seq q⟩
theorem zag {H:Hp}{p:Addr}(h:H p=none)(o:HO):Same H (upd H p o):=fun b u q=>by rw[zai (zab q h)];exact q
theorem LS.put {K:Frag}{L d p:Addr}{H0 H2:Hp}{o:HO}(s:LS K L d H0)(hp:H0 p=none)(k:∀ b o,b≠d→b≠p→H0 b=some o→H2 b=some o)(s2:LS K L d H2):LS K L d (upd H2 p o):=by
 obtain ⟨ns,a,l,e,q⟩:=s.ex;obtain ⟨ns2,a2,l2,e2,_⟩:=s2.ex;have hdp:d≠p:=zab e hp;have go:∀ u,H0 L=some u→(∀ kvs,u≠.dK kvs)→upd H2 p o L=some u:=fun u hu hn=>by
  have h1:L≠p:=zab hu hp;have h2:L≠d:=fun z=>by
   rw[z,e]at hu;cases hu
   exact hn _ rfl
  rw[zai h1];exact k L u h2 h1 hu
 refine ⟨ns,a2,l2,by rw[zai hdp];exact e2,?_⟩;rcases q with (h | ⟨ob,h⟩) | h
 ·exact .inl (.inl (go _ h (fun _ z=>nomatch z)))
 ·exact .inl (.inr ⟨ob,go _ h (fun _ z=>nomatch z)⟩)
 ·exact .inr h
section
variable {H:Hp}{d L:Addr}{a l:Int}
theorem zej {x y:Str}(h:x≠y):(Sum.inr x:Key)≠Sum.inr y:=fun z=>h (Sum.inr.inj z)
theorem zla (h:H d=some (zda L a l)):DGet H d (.str "script") (some (.ref L)):=.inl ⟨_,.inr "script",.inl h,rfl,by rw[zcA rfl]⟩
theorem zrc (h:H d=some (zda L a l)):DGet H d (.str "at") (some (.int a)):=.inl ⟨_,.inr "at",.inl h,rfl,by rw[zbB (zej (show ("script" : Str) ≠ "at" by decide +kernel)),zcA rfl]⟩
theorem zhM (h:H d=some (zda L a l)):DGet H d (.str "left") (some (.int l)):=.inl ⟨_,.inr "left",.inl h,rfl,by rw[zbB (zej (show ("script" : Str) ≠ "left" by decide +kernel)),zbB (zej (show ("at" : Str) ≠ "left" by decide +kernel)),zcA rfl]⟩
theorem zoJ {k:Key}{v:V}{kvs kvs':List (Key×V)}(h:H d=some (.dK kvs))(hl:kvs.length < sizeLine)(e:putK kvs k v=kvs'):DPut H d (kV k) v (upd H d (.dK kvs')):=by
 subst e;exact DPut.k h hl
theorem zqz {a':Int}(h:H d=some (zda L a l)):DPut H d (.str "at") (.int a') (upd H d (zda L a' l)):=
 zoJ (k:=.inr "at") h (by show 3 < sizeLine;decide) (by
  unfold putK;rw[if_pos (by simp)];simp only[yax,ybR,if_neg (zej (show ("script" : Str) ≠ "at" by decide +kernel)),if_neg (zej (show ("left" : Str) ≠ "at" by decide +kernel)),if_true])
theorem zjS {l':Int}(h:H d=some (zda L a l)):DPut H d (.str "left") (.int l') (upd H d (zda L a l')):=
 zoJ (k:=.inr "left") h (by show 3 < sizeLine;decide) (by
  unfold putK;rw[if_pos (by simp)];simp only[yax,ybR,if_neg (zej (show ("script" : Str) ≠ "left" by decide +kernel)),if_neg (zej (show ("at" : Str) ≠ "left" by decide +kernel)),if_true])
end
def zdr (K:Frag):Sp:=fun vs H Q _=>∃(d L:Addr) (m:Int),vs=[.ref d,.int m]∧(0 < m∧m < 1073741824)∧LS K L d H∧∀(v:Int) (H':Hp),0≤v→v < m→Keep d H H'→LS K L d H'→Q (.int v) H'
def zlK:Sp:=fun vs H Q _=>∃ c k:Int,vs=[.int c,.int k]∧∀ v:Int,Q (.int v) H
def zlO (K:Frag):Sp:=fun vs H Q _=>∃(L:Addr) (ns:List Int),vs=[.ref L]∧SqL K H L (ns.map V.int)∧∀(d:Addr) (H':Hp),H d=none→Same H H'→LS K L d H'→Q (.ref d) H'
def zkL (K:Frag):Sp:=fun vs H Q _=>∃(a:Addr) (ns:List Int),vs=[.ref a]∧SqL K H a (ns.map V.int)∧ns.length≤63∧∀ H',Q (.bl true) H'
theorem zrk {ns:List Int}{k:Int}(h:0 < ns.length):∃ v:Int,atI (ns.map V.int) (k % (((ns.map V.int).length:Nat):Int))=some (.int v):=by
 have e:(ns.map V.int).length=ns.length:=yab _;have h1:(0:Int) < (((ns.map V.int).length:Nat):Int):=by rw[e];omega
 have z0:=ycd k (Int.ne_of_gt h1);have z1:=yce k h1;generalize hj:k % (((ns.map V.int).length:Nat):Int)=j at z0 z1;rw[e]at z1;have hk:j.toNat < ns.length:=by omega
 obtain ⟨n,rfl⟩:∃ n:Nat,j=(n:Int):=⟨j.toNat,by omega⟩;have hn:n < ns.length:=by omega
 exact ⟨ns[n],zbI (by rw[yal,yac hn];rfl)⟩
end L2
namespace L2
open PySem PySem.Spec PyProof.Rows PySem.SeqAt
def Ext (H H':Hp):Prop:=∀ b o,H b=some o→(∀ kvs,o≠.dK kvs)→H' b=some o
theorem Ext.refl (H:Hp):Ext H H:=fun _ _ h _=>h
theorem Ext.trans {H H1 H2:Hp}(a:Ext H H1)(b:Ext H1 H2):Ext H H2:=fun c o h n=>b c o (a c o h n) n
theorem Same.ext {H H':Hp}(s:Same H H'):Ext H H':=fun b o h _=>s b o h
theorem Keep.ext {d L:Addr}{a l:Int}{H H':Hp}(k:Keep d H H')(h:H d=some (zda L a l)):Ext H H':=fun b o e n=>k b o (fun z=>by
 rw[z,h]at e;cases e
 exact n _ rfl) e
theorem LS.ext {K:Frag}{L d:Addr}{H H':Hp}(s:LS K L d H)(k:Keep d H H'):Ext H H':=by
 obtain ⟨ns,a,l,e,_⟩:=s.ex;exact k.ext e
theorem LS.of_new {K:Frag}{L d:Addr}{H:Hp}(s:LS K L d H){p:Addr}(hp:H p=none)(o:HO):LS K L d (upd H p o):=s.same (zag hp o)
theorem SqL.ext {K:Frag}{H H':Hp}{a:Addr}{xs:List V}(e:Ext H H')(h:SqL K H a xs):SqL K H' a xs:=by
 rcases h with (h | ⟨o,h⟩) | h
 ·exact .inl (.inl (e _ _ h (fun _ z=>nomatch z)))
 ·exact .inl (.inr ⟨o,e _ _ h (fun _ z=>nomatch z)⟩)
 ·exact .inr h
theorem SqT.ext {K:Frag}{H H':Hp}{a:Addr}{xs:List V}(e:Ext H H')(h:SqT K H a xs):SqT K H' a xs:=by
 rcases h with (h | ⟨o,h⟩) | h
 ·exact .inl (.inl (e _ _ h (fun _ z=>nomatch z)))
 ·exact .inl (.inr ⟨o,e _ _ h (fun _ z=>nomatch z)⟩)
 ·exact .inr h
class Rep (α:Type) where
 dec:DecidableEq α
 depth:Nat
 has:Frag→Hp→α→V→Prop
 mono:∀{K:Frag} {H H':Hp} {a:α} {v:V},Ext H H'→has K H a v→has K H' a v
 inj:∀{X:Cx} {pins:List (Addr×Obj)} {σ:St} {H:Hp} {s:Shared} {a b:α} {v:V},Inv X pins σ H s→has X.K H a v→has X.K H b v→a=b
 rc:∀{X:Cx} {pins:List (Addr×Obj)} {σ:St} {H:Hp} {s:Shared} {A:Around} {a b:α} {x y:V} {u v:Value},Inv X pins σ H s→A.units+depth < cLine→has X.K H a x→has X.K H b y→RelV x u→RelV y v→RcAt A s u v (dec a b).decide
 rn:∀{X:Cx} {pins:List (Addr×Obj)} {σ:St} {H:Hp} {s:Shared} {A:Around} {a b:α} {x y:V} {u v:Value},Inv X pins σ H s→A.units+depth < cLine→has X.K H a x→has X.K H b y→RelV x u→RelV y v→RcNeAt A s u v (!(dec a b).decide)
 eq:∀{X:Cx} {pins:List (Addr×Obj)} {σ:St} {H:Hp} {s:Shared} {A:Around} {a b:α} {x y:V} {u v:Value},Inv X pins σ H s→A.units+depth < cLine→has X.K H a x→has X.K H b y→RelV x u→RelV y v→EqAt A s u v (dec a b).decide
instance (priority:=low) repDec {α:Type} [Rep α]:DecidableEq α:=Rep.dec
theorem zjk {i j:Int}:(i == j)=(Int.instDecidableEq i j).decide:=by
 by_cases h:i=j
 ·subst h;simp
 ·rw[beq_eq_false_iff_ne.mpr h];exact (yaq h).symm
instance:Rep Int where
 dec:=Int.instDecidableEq
 depth:=0
 has:=fun _ _ i v=>v=.int i
 mono:=fun _ h=>h
 inj:=fun _ h1 h2=>V.int.inj (h1.symm.trans h2)
 rc:=fun _ _ h1 h2 r1 r2=>by
  subst h1 h2;obtain ⟨t,rfl⟩:=r1;obtain ⟨t',rfl⟩:=r2;rw[← zjk];exact RcAt.int_int _ _ _ _
 rn:=fun _ _ h1 h2 r1 r2=>by
  subst h1 h2;obtain ⟨t,rfl⟩:=r1;obtain ⟨t',rfl⟩:=r2;rw[← zjk];exact RcNeAt.int_int _ _ _ _
 eq:=fun _ _ h1 h2 r1 r2=>by
  subst h1 h2;obtain ⟨t,rfl⟩:=r1;obtain ⟨t',rfl⟩:=r2;rw[← zjk];exact EqAt.int_int _ _ _ _
theorem pImp {α β:Type}{R S:α→β→Prop}(h:∀ a b,R a b→S a b){as:List α}{bs:List β}(p:Paired R as bs):Paired S as bs:=by
 induction p with
 | nil=>exact .nil
 | cons a _ ih=>exact .cons (h _ _ a) ih
theorem pApp {α β:Type}{R:α→β→Prop}{as cs:List α}{bs ds:List β}(p:Paired R as bs)(q:Paired R cs ds):Paired R (as++cs) (bs++ds):=by
 induction p with
 | nil=>exact q
 | cons a _ ih=>exact .cons a ih
def zar {α:Type}[Rep α](K:Frag)(H:Hp):List α→List V→Prop:=Paired (Rep.has K H)
section
variable {α:Type}[Rep α]{K:Frag}{H H':Hp}
theorem zar.mono (e:Ext H H'){as:List α}{xs:List V}(h:zar K H as xs):zar K H' as xs:=pImp (fun _ _=>Rep.mono e) h
theorem zar.length {as:List α}{xs:List V}(h:zar K H as xs):as.length=xs.length:=Paired.length h
theorem zar.get:∀{as:List α} {xs:List V} {i:Nat} {x:V},zar K H as xs→xs[i]?=some x→∃ a,as[i]?=some a∧Rep.has K H a x
 | _,_,_,_,.nil,e=>by simp at e
 | _,_,0,_,.cons h _,e=>by simp at e;subst e;exact ⟨_,rfl,h⟩
 | _,_,i+1,x,.cons _ t,e=>by
  obtain ⟨a,h1,h2⟩:=zar.get (i:=i) (x:=x) t (by simpa using e);exact ⟨a,by simpa using h1,h2⟩
theorem zar.append {as bs:List α}{xs ys:List V}(h:zar K H as xs)(g:zar K H bs ys):zar K H (as++bs) (xs++ys):=pApp h g
theorem zar.one {a:α}{x:V}(h:Rep.has K H a x):zar K H [a] [x]:=.cons h .nil
theorem zar.ints:∀{ns:List Int},zar K H ns (ns.map V.int)
 | []=>.nil
 | _::_=>.cons rfl zar.ints
theorem zar.toInts {ns:List Int}{xs:List V}(h:zar K H ns xs):xs=ns.map V.int:=by
 unfold zar at h
 induction h with
 | nil=>rfl
 | cons h _ ih=>
  have e:_=V.int _:=h;rw[e,ih];rfl
theorem zar.inj {X:Cx}{pins:List (Addr×Obj)}{σ:St}{s:Shared}(I:Inv X pins σ H s){as bs:List α}{xs:List V}(h:zar X.K H as xs)(g:zar X.K H bs xs):as=bs:=by
 unfold zar at h g
 induction h generalizing bs with
 | nil=>cases g;rfl
 | cons h _ ih=>
  cases g with
  | cons h' t'=>rw[Rep.inj I h h',ih t']
end
theorem zfB {α:Type}[DecidableEq α]:∀(as bs:List α),as.length=bs.length→((List.range as.length).all fun j=>decide (as[j]?=bs[j]?))=decide (as=bs):=by
 intro as bs hl;by_cases h:as=bs
 ·subst h;simp
 ·rw[yaq h,List.all_eq_false]
  false_or_by_contra
  rename_i z;apply h;apply ybi;intro i;by_cases hi:i < as.length
  ·false_or_by_contra
   rename_i q;exact z ⟨i,ybe.mpr hi,by simpa using q⟩
  ·rw[yaU (by omega),yaU (by omega)]
section
variable {α:Type}[r:Rep α]
theorem zcV {A:Around}:A.in1.units≤A.units+1:=by
 first
  | exact yaa _
  | (unfold Around.in1;simp)
theorem zf7 {X:Cx}{pins:List (Addr×Obj)}{σ:St}{H:Hp}{s:Shared}{A:Around}{as bs:List α}{xs ys:List V}{us vs:List Value}(I:Inv X pins σ H s)(hu:A.units+Rep.depth α < cLine)
  (h1:zar X.K H as xs) (h2:zar X.K H bs ys) (r1:Vals xs us) (r2:Vals ys vs):∀ j (q1:j < us.toArray.size) (q2:j < vs.toArray.size),EqAt A s us.toArray[j] vs.toArray[j] (decide (as[j]?=bs[j]?)):=by
 intro j q1 q2;have l1:=r1.length;have l2:=r2.length;have m1:=h1.length;have m2:=h2.length;have j1:j < us.length:=by simpa using q1
 have j2:j < vs.length:=by simpa using q2
 obtain ⟨a,ea,ha⟩:=h1.get (i:=j) (yac (by omega));obtain ⟨b,eb,hb⟩:=h2.get (i:=j) (yac (by omega));obtain ⟨u,eu,ru⟩:=r1.get (i:=j) (yac (by omega));obtain ⟨v,ev,rv⟩:=r2.get (i:=j) (yac (by omega));have gu:us.toArray[j]=u:=by
  have:us[j]?=some us[j]:=yac j1;rw[eu]at this;simpa using (yae this).symm
 have gv:vs.toArray[j]=v:=by
  have:vs[j]?=some vs[j]:=yac j2;rw[ev]at this;simpa using (yae this).symm
 rw[gu,gv,ea,eb];have e:decide (some a=some b)=(Rep.dec a b).decide:=by
  by_cases z:a=b
  ·subst z;simp
  ·rw[yaq (fun q=>z (yae q))];exact (yaq z).symm
 rw[e];exact Rep.eq I hu ha hb ru rv
end
def hasL {α:Type}[Rep α](K:Frag)(H:Hp)(as:List α)(v:V):Prop:=∃ a xs,v=.ref a∧SqL K H a xs∧zar K H as xs
section
variable {α:Type}[r:Rep α]{X:Cx}{pins:List (Addr×Obj)}{σ:St}{H:Hp}{s:Shared}{A:Around}{as bs:List α}{x y:V}{u v:Value}
theorem zn8 (I:Inv X pins σ H s)(h1:hasL X.K H as x)(h2:hasL X.K H bs x):as=bs:=by
 obtain ⟨a,xs,rfl,q1,h1⟩:=h1;obtain ⟨b,ys,e,q2,h2⟩:=h2;cases e
 rw[I.list_inj q2 q1]at h2;exact h1.inj I h2
theorem zmM (I:Inv X pins σ H s)(hu:A.units+(Rep.depth α+1) < cLine)(h1:hasL X.K H as x)(h2:hasL X.K H bs y)(r1:RelV x u)(r2:RelV y v):RcAt A s u v (decide (as=bs)):=by
 obtain ⟨a,xs,rfl,q1,h1⟩:=h1;obtain ⟨b,ys,rfl,q2,h2⟩:=h2;cases r1
 cases r2
 obtain ⟨us,ru,pu,_⟩:=I.list q1;obtain ⟨vs,rv,pv,_⟩:=I.list q2;have l1:=ru.length;have l2:=rv.length;have m1:=h1.length;have m2:=h2.length;have hin:A.in1.units+Rep.depth α < cLine:=yba (ybI zcV _) (by omega);by_cases hl:as.length=bs.length
 ·have e:=zfB as bs hl;rw[← e];have z:as.length=us.toArray.size:=by simp;omega
  rw[z];exact RcAt.lists pu.isList pv.isList (by simp;omega) (by omega) (zf7 I hin h1 h2 ru rv)
 ·rw[yaq (fun z=>hl (by rw[z]))];exact RcAt.lists_lengths pu.isList pv.isList (by simp;omega) (by omega)
theorem zpS (I:Inv X pins σ H s)(hu:A.units+(Rep.depth α+1) < cLine)(h1:hasL X.K H as x)(h2:hasL X.K H bs y)(r1:RelV x u)(r2:RelV y v):RcNeAt A s u v (!decide (as=bs)):=by
 obtain ⟨a,xs,rfl,q1,h1⟩:=h1;obtain ⟨b,ys,rfl,q2,h2⟩:=h2;cases r1
 cases r2
 obtain ⟨us,ru,pu,_⟩:=I.list q1;obtain ⟨vs,rv,pv,_⟩:=I.list q2;have l1:=ru.length;have l2:=rv.length;have m1:=h1.length;have m2:=h2.length;have hin:A.in1.units+Rep.depth α < cLine:=yba (ybI zcV _) (by omega);by_cases hl:as.length=bs.length
 ·have e:=zfB as bs hl;rw[← e];have z:as.length=us.toArray.size:=by simp;omega
  rw[z];exact RcNeAt.lists pu.isList pv.isList (by simp;omega) (by omega) (zf7 I hin h1 h2 ru rv)
 ·rw[yaq (fun z=>hl (by rw[z])),Bool.not_false];exact RcNeAt.lists_lengths pu.isList pv.isList (by simp;omega) (by omega)
theorem zpT (I:Inv X pins σ H s)(hu:A.units+(Rep.depth α+1) < cLine)(h1:hasL X.K H as x)(h2:hasL X.K H bs y)(r1:RelV x u)(r2:RelV y v):EqAt A s u v (decide (as=bs)):=by
 have rc:=zmM (A:=A) I hu h1 h2 r1 r2;obtain ⟨a,xs,rfl,q1,h1⟩:=h1;obtain ⟨b,ys,rfl,q2,h2⟩:=h2;cases r1
 cases r2
 by_cases hab:a=b
 ·subst hab;rw[I.list_inj q2 q1]at h2;rw[yah (h1.inj I h2)];exact EqAt.same _
 ·exact EqAt.of_refs hab rc
end
instance {α:Type} [Rep α]:Rep (List α) where
 dec:=inferInstance
 depth:=Rep.depth α+1
 has:=hasL
 mono:=fun e ⟨a,xs,h1,h2,h3⟩=>⟨a,xs,h1,h2.ext e,h3.mono e⟩
 inj:=fun I h1 h2=>zn8 I h1 h2
 rc:=fun I hu h1 h2 r1 r2=>zmM I hu h1 h2 r1 r2
 rn:=fun I hu h1 h2 r1 r2=>zpS I hu h1 h2 r1 r2
 eq:=fun I hu h1 h2 r1 r2=>zpT I hu h1 h2 r1 r2
def hasP {α β:Type}[Rep α][Rep β](K:Frag)(H:Hp)(p:α×β)(v:V):Prop:=∃ a x y,v=.ref a∧H a=some (.tup [x,y])∧Rep.has K H p.1 x∧Rep.has K H p.2 y
section
variable {α β:Type}[ra:Rep α][rb:Rep β]{X:Cx}{pins:List (Addr×Obj)}{σ:St}{H:Hp}{s:Shared}{A:Around}{p q:α×β}{x y:V}{u v:Value}
theorem zkn (I:Inv X pins σ H s)(h1:hasP X.K H p x)(h2:hasP X.K H q x):p=q:=by
 obtain ⟨a,x1,x2,rfl,q1,e1,e2⟩:=h1;obtain ⟨b,y1,y2,e,q2,f1,f2⟩:=h2;cases e
 have z:=I.tuple_inj (SqT.of q2) (SqT.of q1);cases z
 have g1:=Rep.inj I e1 f1;have g2:=Rep.inj I e2 f2;obtain ⟨p1,p2⟩:=p;obtain ⟨s1,s2⟩:=q;cases g1
 cases g2
 rfl
theorem zmL (I:Inv X pins σ H s)(hu:A.units+(Rep.depth α+Rep.depth β+1) < cLine)(h1:hasP X.K H p x)(h2:hasP X.K H q y)(r1:RelV x u)(r2:RelV y v):RcAt A s u v (decide (p=q)):=by
 obtain ⟨a,x1,x2,rfl,q1,e1,e2⟩:=h1;obtain ⟨b,y1,y2,rfl,q2,f1,f2⟩:=h2;cases r1
 cases r2
 obtain ⟨us,ru,pu,_⟩:=I.tuple (SqT.of q1);obtain ⟨vs,rv,pv,_⟩:=I.tuple (SqT.of q2);obtain ⟨u1,u2,rfl,ru1,ru2⟩:=zhY ru;obtain ⟨v1,v2,rfl,rv1,rv2⟩:=zhY rv;have hin:∀ n,n≤Rep.depth α+Rep.depth β→A.in1.units+n < cLine:=fun n hn=>yba (ybI zcV _) (by omega);have c1:=Rep.eq (A:=A.in1) I (hin _ (by omega)) e1 f1 ru1 rv1;have c2:=Rep.eq (A:=A.in1) I (hin _ (by omega)) e2 f2 ru2 rv2;have:=RcAt.tuples (A:=A) (s:=s) (l:=a) (b:=b) (items:=#[u1,u2]) (items2:=#[v1,v2]) (e:=fun j=>if j=0 then (Rep.dec p.1 q.1).decide else (Rep.dec p.2 q.2).decide) pu pv (by omega) (by
  intro j h1 h2;have h1':j < 2:=h1;have z:j=0∨j=1:=by omega
  rcases z with rfl | rfl
  ·exact c1
  ·exact c2)
 have e:((List.range (min (#[u1,u2]:Array Value).size (#[v1,v2]:Array Value).size)).all (fun j=>if j=0 then (Rep.dec p.1 q.1).decide else (Rep.dec p.2 q.2).decide) && (#[u1,u2]:Array Value).size == (#[v1,v2]:Array Value).size)=decide (p=q):=by
  obtain ⟨p1,p2⟩:=p;obtain ⟨s1,s2⟩:=q;show (((List.range 2).all fun j=>if j=0 then (Rep.dec p1 s1).decide else (Rep.dec p2 s2).decide) && true)=_
  rw[show List.range 2=[0,1] from rfl];simp only[yb4,List.all_nil,Bool.and_true,if_true];rw[if_neg (by decide)];by_cases z1:p1=s1
  ·by_cases z2:p2=s2
   ·subst z1 z2;simp
   ·subst z1;simp[z2]
  ·simp[z1]
 rw[e]at this;exact this
theorem zpQ (I:Inv X pins σ H s)(hu:A.units+(Rep.depth α+Rep.depth β+1) < cLine)(h1:hasP X.K H p x)(h2:hasP X.K H q y)(r1:RelV x u)(r2:RelV y v):RcNeAt A s u v (!decide (p=q)):=by
 obtain ⟨a,x1,x2,rfl,q1,e1,e2⟩:=h1;obtain ⟨b,y1,y2,rfl,q2,f1,f2⟩:=h2;cases r1
 cases r2
 obtain ⟨us,ru,pu,_⟩:=I.tuple (SqT.of q1);obtain ⟨vs,rv,pv,_⟩:=I.tuple (SqT.of q2);obtain ⟨u1,u2,rfl,ru1,ru2⟩:=zhY ru;obtain ⟨v1,v2,rfl,rv1,rv2⟩:=zhY rv;have hin:∀ n,n≤Rep.depth α+Rep.depth β→A.in1.units+n < cLine:=fun n hn=>yba (ybI zcV _) (by omega);have c1:=Rep.eq (A:=A.in1) I (hin _ (by omega)) e1 f1 ru1 rv1;have c2:=Rep.eq (A:=A.in1) I (hin _ (by omega)) e2 f2 ru2 rv2;have:=RcNeAt.tuples (A:=A) (s:=s) (l:=a) (b:=b) (items:=#[u1,u2]) (items2:=#[v1,v2]) (e:=fun j=>if j=0 then (Rep.dec p.1 q.1).decide else (Rep.dec p.2 q.2).decide) pu pv (by omega) (by
  intro j h1 h2;have h1':j < 2:=h1;have z:j=0∨j=1:=by omega
  rcases z with rfl | rfl
  ·exact c1
  ·exact c2)
 have e:((List.range (min (#[u1,u2]:Array Value).size (#[v1,v2]:Array Value).size)).all (fun j=>if j=0 then (Rep.dec p.1 q.1).decide else (Rep.dec p.2 q.2).decide) && (#[u1,u2]:Array Value).size == (#[v1,v2]:Array Value).size)=decide (p=q):=by
  obtain ⟨p1,p2⟩:=p;obtain ⟨s1,s2⟩:=q;show (((List.range 2).all fun j=>if j=0 then (Rep.dec p1 s1).decide else (Rep.dec p2 s2).decide) && true)=_
  rw[show List.range 2=[0,1] from rfl];simp only[yb4,List.all_nil,Bool.and_true,if_true];rw[if_neg (by decide)];by_cases z1:p1=s1
  ·by_cases z2:p2=s2
   ·subst z1 z2;simp
   ·subst z1;simp[z2]
  ·simp[z1]
 rw[e]at this;exact this
theorem zpR (I:Inv X pins σ H s)(hu:A.units+(Rep.depth α+Rep.depth β+1) < cLine)(h1:hasP X.K H p x)(h2:hasP X.K H q y)(r1:RelV x u)(r2:RelV y v):EqAt A s u v (decide (p=q)):=by
 have rc:=zmL (A:=A) I hu h1 h2 r1 r2;have h1':=id h1;have h2':=id h2;obtain ⟨a,x1,x2,rfl,q1,e1,e2⟩:=h1;obtain ⟨b,y1,y2,rfl,q2,f1,f2⟩:=h2;cases r1
 cases r2
 by_cases hab:a=b
 ·subst hab;rw[yah (zkn I h1' h2')];exact EqAt.same _
 ·exact EqAt.of_refs hab rc
end
instance {α β:Type} [Rep α] [Rep β]:Rep (α×β) where
 dec:=inferInstance
 depth:=Rep.depth α+Rep.depth β+1
 has:=hasP
 mono:=fun e ⟨a,x,y,h1,h2,h3,h4⟩=>⟨a,x,y,h1,e _ _ h2 (fun _ z=>nomatch z),Rep.mono e h3,Rep.mono e h4⟩
 inj:=fun I h1 h2=>zkn I h1 h2
 rc:=fun I hu h1 h2 r1 r2=>zmL I hu h1 h2 r1 r2
 rn:=fun I hu h1 h2 r1 r2=>zpQ I hu h1 h2 r1 r2
 eq:=fun I hu h1 h2 r1 r2=>zpR I hu h1 h2 r1 r2
theorem huD {A:Around}{k:Nat}{α:Type}[Rep α](hr:Room k A)(h:Rep.depth α≤64:=by decide):A.units+Rep.depth α < cLine:=yba (ycv h _) hr.units
def rEqD (α:Type)[Rep α](K:Frag):R2:=fun x y H Q=>∃ a b:α,Rep.has K H a x∧Rep.has K H b y∧Q (.bl (decide (a=b))) H
def rNeD (α:Type)[Rep α](K:Frag):R2:=fun x y H Q=>∃ a b:α,Rep.has K H a x∧Rep.has K H b y∧Q (.bl (!decide (a=b))) H
section
variable {X:Cx}
theorem zj0 (α:Type)[Rep α](hu:X.A.units+Rep.depth α < cLine):OpR X (compareOp .Eq) (rEqD α X.K):=by
 intro pins s σ H x y v u Q I rx ry h;obtain ⟨a,b,ha,hb,q⟩:=h;refine Rep.rc I hu ha hb rx ry X.prog X.w X.xe _ ⟨.bl _,H,I,rfl,?_⟩;have e:(Rep.dec a b).decide=decide (a=b):=rfl;rw[e];exact q
theorem zoL (α:Type)[Rep α](hu:X.A.units+Rep.depth α < cLine):OpR X (compareOp .NotEq) (rNeD α X.K):=by
 intro pins s σ H x y v u Q I rx ry h;obtain ⟨a,b,ha,hb,q⟩:=h;refine Rep.rn I hu ha hb rx ry X.prog X.w X.xe _ ⟨.bl _,H,I,rfl,?_⟩;have e:(Rep.dec a b).decide=decide (a=b):=rfl;rw[e];exact q
end
end L2
namespace L2
open PySem PySem.Spec PyProof.Rows
section
variable {X:Cx}{pins:List (Addr×Obj)}{σ:St}{H:Hp}{s:Shared}{h':Heap}
theorem Inv.turnedNew {t':Nat}{fp:List Addr}{p:Addr}{o:HO}(I:Inv X pins σ H s)(k:∀ b ob,b∉fp→s.heap.get? b=some ob→h'.get? b=some ob)(hf:∀ b∈fp,FpOk X pins H b)
  (hp:s.heap.objs.size≤p) (new:zbA X.prog X.w (upd H p o) h' p o):Inv X pins σ (upd H p o) { s with heap:=h',toks:=t' }:=by
 have hn:H p=none:=I.hok.fresh hp;have nfp:∀ b u,H b=some u→b∉fp:=fun b u e z=>by rw[(hf b z).1]at e;cases e
 have nep:∀ b ob,s.heap.get? b=some ob→b≠p:=fun b ob e=>yas (yaw (yag e) hp);refine I.step (g':=s.gens) (d':=s.drawn) (ch:=fp) (fun b hb=>?_) (fun b ob _ _ hc e _=>k b ob hc e) (fun b ob _ _ hc e _=>⟨ob.slots,k b ob hc e⟩) (fun b ob _ e n=>by rw[zai (nep b ob e)];exact n)
  (fun b ob hc e=>⟨ob,k b ob hc e⟩) (fun b xs e=>by rw[zai (zab e hn)];exact e) (fun b ob u e=>by rw[zai (zab e hn)];exact e) (fun b ps e=>⟨#[],by rw[zai (zab e hn),e];simp⟩) (fun m hm=>?_) (fun b u e=>?_) I.bare
 ·obtain ⟨_,h2,_,h4,h5,h6⟩:=hf b hb;exact ⟨h4,h2,h5,h6⟩
 ·obtain ⟨ob,es,ep,ho,r⟩:=hm;exact ⟨ob,es,ep,k _ ob (fun z=>(hf _ z).2.1 rfl) ho,r⟩
 ·by_cases hb:b=p
  ·subst hb;rw[zac]at e;cases e;exact new
  ·rw[zai hb]at e;refine (I.hok b u e).stay (fun c v hc q=>k c v ?_ q) (fun c q=>by rw[zai (zab q hn)];exact q) fun c xs q=>by rw[zai (zab q hn)];exact q
   rcases hc with z | z
   ·rw[z];exact nfp b u e
   ·exact nfp c _ z
theorem zlz {P:Program}{w:World}{H:Hp}{h:Heap}{p:Addr}{x y:V}{u v:Value}(rx:RelV x u)(ry:RelV y v)(e:h.get? p=some { cls:=.type "tuple",data:=.seq #[u,v] }):zbA P w H h p (.tup [x,y]):=
 ⟨by show 2≤sizeLine;decide,[u,v],.cons rx (.cons ry .nil),_,e,rfl,0,rfl⟩
end
def Ite (K:Frag)(a:Addr):It:=
 ⟨fun i H=>∃ xs x,SqL K H a xs∧xs[i]?=some x,fun i H x H'=>∃ p y,x=.ref p∧H p=none∧(∀ xs,SqL K H a xs→xs[i]?=some y)∧H'=upd H p (.tup [.int i,y]),fun i H=>∃ xs,SqL K H a xs∧xs.length≤i⟩
theorem zlv {P:Program}{w:World}{K:Frag}{es:List Expr}{k0}{pos:Pos}(a it e:Addr)(hne:e≠it):Turn P w K (.Tuple es k0 pos) (Ite K a) [e,it] e (fun i h=>(∃ old,IsEnum h e it i old)∧h.IsListIter it a i) where
 mem:=by simp
 obj:=fun i h st b hb=>by
  obtain ⟨⟨old,he⟩,o,ho,c,d⟩:=st;rcases yat.mp hb with z | z
  ·subst z;exact ⟨_,he,fun v z=>by cases z⟩
  ·have z:=yam.mp z;subst z;exact ⟨o,ho,fun v z=>by rw[d]at z;cases z⟩
 keep:=fun i h h' st k=>by
  obtain ⟨⟨old,he⟩,hi⟩:=st;exact ⟨⟨old,k e (by simp) _ he⟩,hi.at fun o q=>k it (by simp) o q⟩
 item:=by
  intro X hP hw hK hc i pins s σ H E I hf st hg;subst hP hw hK;obtain ⟨⟨old,he⟩,hi⟩:=st;obtain ⟨xs,x,hq,hx⟩:=hg;obtain ⟨its,rv,p,hz⟩:=I.list hq;obtain ⟨u,hu,ru⟩:=rv.get hx;refine wpAny_pyNext_enum_item he hi p.isList (x:=u) (by simpa using hu) hne fun h1 he1 hi1 ht1 _ k1=>?_;refine ⟨_,rfl,wpAny_letOwnedTupleGo_enum (s:={ s with heap:=h1,toks:=s.toks+1 }) he1 fun h2 he2 sb=>?_⟩;have np:s.heap.objs.size≠e:=ybQ (yag he);have ht2:h2.get? s.heap.objs.size=some { cls:=.type "tuple",data:=.seq #[.int i s.toks,u] }:=(sb.2 _ np).trans ht1;have I2:Inv X pins σ (upd H s.heap.objs.size (.tup [.int i,x])) { s with heap:=h2,toks:=s.toks+1 }:=
   I.turnedNew (fp:=[e,it]) (fun b ob hb q=>(sb.2 b (fun z=>hb (by simp[z]))).trans (k1 b ob (fun z=>hb (by simp[z])) (fun z=>hb (by simp[z])) q)) hf (yaa _) (zlz ⟨_,rfl⟩ ru ht2)
  refine ⟨.ref s.heap.objs.size,_,I2,rfl,⟨_,x,rfl,I.hok.fresh (yaa _),fun ys hy=>by rw[I.list_inj hy hq];exact hx,rfl⟩,⟨⟨u,?_⟩,?_⟩,fun b hb=>?_⟩
  ·have z:IsEnum h2 e it ((i:Int)+1) u:=he2;exact z
  ·exact hi1.at fun o q=>(sb.2 it (Ne.symm hne)).trans q
  ·have z:=(hf b hb).1;rw[zai ?_]
   ·exact z
   ·rcases yat.mp hb with q | q
    ·rw[q];exact Ne.symm np
    ·rw[yam.mp q];obtain ⟨o,ho,_⟩:=hi;exact yas (yag ho)
 done:=by
  intro X hP hw hK hc i pins s σ H E I hf st hg;subst hP hw hK;obtain ⟨⟨old,he⟩,hi⟩:=st;obtain ⟨xs,hq,hx⟩:=hg;obtain ⟨its,rv,p,hz⟩:=I.list hq;obtain ⟨f0,f1,f2,f3,f4,f5⟩:=hf it (by simp);have hl:=rv.length;exact wpAny_pyNext_enum_end (I.ok.hd hc) he hi p.isList (by simp;omega) fun h' eb=>⟨rfl,I.turned (t':=s.toks) (fun b o hb q=>eb b o hb q) f0 f1 f3 f4 f5⟩
 self:=fun _ _ _ _ _ st h=>by
  obtain ⟨⟨old,he⟩,_⟩:=st;exact wpAny_pyIter_enum he h
def zrJ (K:Frag)(ta:TA):TI:=fun σ H R=>ta σ H fun vs H1=>∃ a,vs=[.ref a]∧(∃ xs,SqL K H1 a xs)∧R (Ite K a) H1
section
variable {X:Cx}
theorem zdw {es:List Expr}{k0}{tp:Pos}{a:Expr}{ta:TA}{p pos:Pos}(hg:Gl X "enumerate")(hm:X.mg "enumerate" = none)(ha:PA X [a] ta)(hs:starEach [a] X.env=[(false,eval a X.env)]:=by rfl):PI X (.Tuple es k0 tp) (.Call (.Name "enumerate" p) [a] [] pos) (zrJ X.K ta):=by
 intro pins s σ H R I h;refine Call_ (zfc I hg hm boot_enumerate (PyProof.Rows.callWith_type1 (thn (ha pos pins s σ H _ I h) fun us s1 zq0=>?_) hs rfl));obtain ⟨vs,H1,I1,r1,q1⟩:=zq0;obtain ⟨l,e,⟨xs,hq⟩,q⟩:=q1;subst e;cases r1 with
 | cons r rr=>
  cases rr
  cases r
  obtain ⟨its,rv,pl,hz⟩:=I1.list hq;refine call_enumerate_list pl.isList fun h' he hi _ hk=>?_;have I2:Inv X pins σ H1 { s1 with heap:=h' }:=I1.kept (t':=s1.toks) hk;refine wpAny_pyIter_enum (s:={ s1 with heap:=h' }) he ⟨_,[s1.heap.objs.size+1,s1.heap.objs.size],_,_,H1,rfl,I2,zlv l s1.heap.objs.size (s1.heap.objs.size+1) (Nat.succ_ne_self _),⟨⟨_,he⟩,hi⟩,fun b hb=>?_,q⟩;have hb':s1.heap.objs.size≤b:=by
   rcases yat.mp hb with z | z
   ·rw[z];exact ya4 _
   ·rw[yam.mp z];exact yaa _
  exact I1.fpOk hb' (I1.hok.fresh hb')
end
theorem zhO {K:Frag}{a:Addr}{xs:List V}{g:TG}{tb:TS}{D:Ends}{σ:St}{H:Hp}(Pv:Nat→St→Hp→Prop)(h0:Pv 0 σ H)(hl:∀ i σ H,i≤xs.length→Pv i σ H→SqL K H a xs)
  (hs:∀ i x σ H p,xs[i]?=some x→Pv i σ H→H p=none→g (.ref p) σ (upd H p (.tup [.int i,x])) fun σ2 H2=>tb { D with nx:=Pv (i+1),ct:=Pv (i+1),bk:=D.nx } σ2 H2) (hd:∀ σ H,Pv xs.length σ H→D.nx σ H) :
  ∃ W:Nat→Nat→St→Hp→Prop,(∃ m,W 0 m σ H)∧∀ i m σ H,W i m σ H→((Ite K a).stop i H∧D.nx σ H)∨((Ite K a).go i H∧∃ N:St→Hp→Prop,(∀ σ' H',N σ' H'→∃ m',m' < m∧W (i+1) m' σ' H')∧∀ x H',(Ite K a).yld i H x H'→g x σ H' fun σ2 H2=>tb { D with nx:=N,ct:=N,bk:=D.nx } σ2 H2):=by
 refine ⟨fun i m σ H=>i+m=xs.length∧Pv i σ H,⟨xs.length,by omega,h0⟩,fun i m σ H zq0=>?_⟩;obtain ⟨e,pv⟩:=zq0;have hS:=hl i σ H (by omega) pv;by_cases hi:i < xs.length
 ·refine .inr ⟨⟨xs,xs[i],hS,yac hi⟩,Pv (i+1),fun σ' H' q=>⟨m - 1,by omega,by omega,q⟩,fun x H' y=>?_⟩;obtain ⟨p,z,rfl,hp,hz,rfl⟩:=y;exact hs i z σ H p (hz xs hS) pv hp
 ·have:i=xs.length:=by omega
  subst this;exact .inl ⟨⟨xs,hS,yaa _⟩,hd σ H pv⟩
def Itz (K:Frag)(a b:Addr):It:=
 ⟨fun i H=>∃ xs ys x y,SqL K H a xs∧SqL K H b ys∧xs[i]?=some x∧ys[i]?=some y,fun i H x H'=>∃ p y z,x=.ref p∧H p=none∧(∀ xs,SqL K H a xs→xs[i]?=some y)∧(∀ xs,SqL K H b xs→xs[i]?=some z)∧H'=upd H p (.tup [y,z]),fun i H=>∃ xs ys,SqL K H a xs∧SqL K H b ys∧(xs.length≤i∨ys.length≤i)⟩
theorem znk {P:Program}{w:World}{K:Frag}{es:List Expr}{k0}{pos:Pos}{a b z TI TO i1 i2:Addr}(D:ZipApart z TI TO i1 i2 a b):Turn P w K (.Tuple es k0 pos) (Itz K a b) [z,TI,TO,i1,i2] z
  (fun i h=>IsZip h z TI TO .none∧IsPair h TI (.ref i1) (.ref i2)∧(∃ u v,IsPair h TO u v)∧h.IsListIter i1 a i∧h.IsListIter i2 b i) where
 mem:=by simp
 obj:=fun i h st c hc=>by
  obtain ⟨hz,hTI,⟨u,v,hTO⟩,⟨o1,e1,_,d1⟩,⟨o2,e2,_,d2⟩⟩:=st;simp only[yat,ybs,or_false]at hc;rcases hc with rfl | rfl | rfl | rfl | rfl
  ·exact ⟨_,hz,fun v q=>by cases q⟩
  ·exact ⟨_,hTI,fun v q=>by cases q⟩
  ·exact ⟨_,hTO,fun v q=>by cases q⟩
  ·exact ⟨o1,e1,fun v q=>by rw[d1]at q;cases q⟩
  ·exact ⟨o2,e2,fun v q=>by rw[d2]at q;cases q⟩
 keep:=fun i h h' st k=>by
  obtain ⟨hz,hTI,⟨u,v,hTO⟩,h1,h2⟩:=st;exact ⟨k z (by simp) _ hz,k TI (by simp) _ hTI,⟨u,v,k TO (by simp) _ hTO⟩,h1.at fun o q=>k i1 (by simp) o q,h2.at fun o q=>k i2 (by simp) o q⟩
 item:=by
  intro X hP hw hK hc i pins s σ H E I hf st hg;subst hP hw hK;obtain ⟨hz,hTI,⟨u0,v0,hTO⟩,h1,h2⟩:=st;obtain ⟨xs,ys,x,y,hqa,hqb,hx,hy⟩:=hg;obtain ⟨its,rv,p,_⟩:=I.list hqa;obtain ⟨jts,rw',p',_⟩:=I.list hqb;obtain ⟨u,hu,ru⟩:=rv.get hx;obtain ⟨v,hv,rv'⟩:=rw'.get hy;refine wpAny_pyNext_zip_item D hz hTI hTO h1 h2 p.isList p'.isList (x:=u) (y:=v) (by simpa using hu) (by simpa using hv) fun h1' hz1 hTO1 hi1 hi2 ht1 _ k1=>?_;refine ⟨_,rfl,wpAny_letOwnedTupleGo_zip (s:={ s with heap:=h1' }) hz1 fun h2' hz2 sb=>?_⟩;have np:s.heap.objs.size≠z:=ybQ (yag hz);have ht2:h2'.get? s.heap.objs.size=some { cls:=.type "tuple",data:=.seq #[u,v] }:=(sb.2 _ np).trans ht1;have I2:Inv X pins σ (upd H s.heap.objs.size (.tup [x,y])) { s with heap:=h2',toks:=s.toks }:=
   I.turnedNew (fp:=[z,TI,TO,i1,i2]) (fun c ob hb q=>(sb.2 c (fun r=>hb (by simp[r]))).trans (k1 c ob (fun r=>hb (by simp[r])) (fun r=>hb (by simp[r])) (fun r=>hb (by simp[r])) (fun r=>hb (by simp[r])) q)) hf (yaa _) (zlz ru rv' ht2)
  refine ⟨.ref s.heap.objs.size,_,I2,rfl,⟨_,x,y,rfl,I.hok.fresh (yaa _),fun ys hy'=>by rw[I.list_inj hy' hqa];exact hx,fun ys hy'=>by rw[I.list_inj hy' hqb];exact hy,rfl⟩,⟨hz2,(sb.2 _ D.TIz).trans (k1 TI _ D.TIz D.TITO D.TIi1 D.TIi2 hTI),⟨_,_,(sb.2 _ D.TOz).trans hTO1⟩,hi1.at fun o q=>(sb.2 i1 D.i1z).trans q,hi2.at fun o q=>(sb.2 i2 D.i2z).trans q⟩,fun c hb=>?_⟩;have zf:=(hf c hb).1;have lt:c < s.heap.objs.size:=by
   simp only[yat,ybs,or_false]at hb;obtain ⟨o1,e1,_⟩:=h1;obtain ⟨o2,e2,_⟩:=h2;rcases hb with rfl | rfl | rfl | rfl | rfl
   ·exact yag hz
   ·exact yag hTI
   ·exact yag hTO
   ·exact yag e1
   ·exact yag e2
  rw[zai (yas lt)];exact zf
 done:=by
  intro X hP hw hK hc i pins s σ H E I hf st hg;subst hP hw hK;obtain ⟨hz,hTI,⟨u0,v0,hTO⟩,h1,h2⟩:=st;obtain ⟨xs,ys,hqa,hqb,hend⟩:=hg;obtain ⟨its,rv,p,_⟩:=I.list hqa;obtain ⟨jts,rw',p',_⟩:=I.list hqb;have l1:=rv.length;have l2:=rw'.length;refine wpAny_pyNext_zip_end (I.ok.hd hc) D hz hTI hTO h1 h2 p.isList p'.isList (by
   rcases hend with q | q
   ·left;simp;omega
   ·right;simp;omega) fun h' kk=>⟨rfl,?_⟩
  refine I.step (g':=s.gens) (d':=s.drawn) (t':=s.toks) (ch:=[z,TI,TO,i1,i2]) (fun c hb=>?_) (fun c ob _ _ hn q _=>kk c ob (fun r=>hn (by simp[r])) (fun r=>hn (by simp[r])) (fun r=>hn (by simp[r])) (fun r=>hn (by simp[r])) q)
   (fun c ob _ _ hn q _=>⟨ob.slots,kk c ob (fun r=>hn (by simp[r])) (fun r=>hn (by simp[r])) (fun r=>hn (by simp[r])) (fun r=>hn (by simp[r])) q⟩) (fun _ _ _ _ n=>n)
   (fun c ob hn q=>⟨ob,kk c ob (fun r=>hn (by simp[r])) (fun r=>hn (by simp[r])) (fun r=>hn (by simp[r])) (fun r=>hn (by simp[r])) q⟩) (fun _ _ q=>q) (fun _ _ _ q=>q) (fun c ps q=>⟨#[],by rw[q];simp⟩) (fun m hm=>?_) (fun c u e=>?_) I.bare
  ·obtain ⟨_,q2,_,q4,q5,q6⟩:=hf c hb;exact ⟨q4,q2,q5,q6⟩
  ·obtain ⟨ob,es,ep,ho,r⟩:=hm;have nL:∀ c∈[z,TI,TO,i1,i2],X.env.locals≠c:=fun c hc=>Ne.symm (hf c hc).2.1;exact ⟨ob,es,ep,kk _ ob (nL z (by simp)) (nL TO (by simp)) (nL i1 (by simp)) (nL i2 (by simp)) ho,r⟩
  ·have nf:∀ c' u,H c'=some u→∀ q∈[z,TI,TO,i1,i2],c'≠q:=fun c' u e q hq r=>by rw[r,(hf q hq).1]at e;cases e
   refine (I.hok c u e).stay (fun c' v hc' q=>?_) (fun _ q=>q) fun _ _ q=>q;have go:∀ u',H c'=some u'→h'.get? c'=some v:=fun u' e'=>kk c' v (nf c' _ e' z (by simp)) (nf c' _ e' TO (by simp)) (nf c' _ e' i1 (by simp)) (nf c' _ e' i2 (by simp)) q;rcases hc' with r | r
   ·exact go u (by rw[r];exact e)
   ·exact go _ r
 self:=fun _ _ _ _ _ st h=>wpAny_pyIter_zip st.1 h
theorem zlk {l l' n:Nat}(hl:l < n)(hl':l' < n):ZipApart (n+4) (n+2) (n+3) n (n+1) l l':=by
 constructor <;> (intro z;have z':(_:Nat)=_:=z;omega)
theorem zqc {n c:Nat}(h:c∈[n+4,n+2,n+3,n,n+1]):n≤c:=by
 simp only[yat,ybs,or_false]at h;omega
def iZip (K:Frag)(ta:TA):TI:=fun σ H R=>ta σ H fun vs H1=>∃ a b,vs=[.ref a,.ref b]∧(∃ xs,SqL K H1 a xs)∧(∃ xs,SqL K H1 b xs)∧R (Itz K a b) H1
section
variable {X:Cx}
theorem zlX {es:List Expr}{k0}{tp:Pos}{a b:Expr}{ta:TA}{p pos:Pos}(hg:Gl X "zip")(hm:X.mg "zip" = none)(ha:PA X [a,b] ta)(hs:starEach [a,b] X.env=[(false,eval a X.env),(false,eval b X.env)]:=by rfl)(hs2:starEach [b] X.env=[(false,eval b X.env)]:=by rfl):PI X (.Tuple es k0 tp) (.Call (.Name "zip" p) [a,b] [] pos) (iZip X.K ta):=by
 intro pins s σ H R I h;refine Call_ (zfc I hg hm boot_zip (PyProof.Rows.callWith_type1 (thn (ha pos pins s σ H _ I h) fun us s1 zq0=>?_) (by rw[hs,hs2]) (by rw[hs2];rfl)));obtain ⟨vs,H1,I1,r1,q1⟩:=zq0;obtain ⟨l,l',e,⟨xs,hq⟩,⟨ys,hq'⟩,q⟩:=q1;subst e;cases r1 with
 | cons r rr=>
  cases rr with
  | cons r' rr=>
   cases rr
   cases r
   cases r'
   obtain ⟨its,rv,pl,hz⟩:=I1.list hq;obtain ⟨jts,rv',pl',hz'⟩:=I1.list hq';have hl:l < s1.heap.objs.size:=by obtain ⟨o,_,e,_⟩:=pl;exact yag e
   have hl':l' < s1.heap.objs.size:=by obtain ⟨o,_,e,_⟩:=pl';exact yag e
   refine call_zip_2 pl.isList pl'.isList fun h' hz hTI hTO hi hi' _ hk=>?_;have I2:Inv X pins σ H1 { s1 with heap:=h' }:=I1.kept (t':=s1.toks) hk;refine wpAny_pyIter_zip (s:={ s1 with heap:=h' }) hz ⟨_,[s1.heap.objs.size+4,s1.heap.objs.size+2,s1.heap.objs.size+3,s1.heap.objs.size,s1.heap.objs.size+1],_,_,H1,rfl,I2,znk (zlk hl hl'),⟨hz,hTI,⟨_,_,hTO⟩,hi,hi'⟩,fun c hb=>?_,q⟩;have hb':s1.heap.objs.size≤c:=zqc hb;exact I1.fpOk hb' (I1.hok.fresh hb')
end
theorem zpU {K:Frag}{a b:Addr}{xs ys:List V}{g:TG}{tb:TS}{D:Ends}{σ:St}{H:Hp}(hlen:xs.length=ys.length)(Pv:Nat→St→Hp→Prop)(h0:Pv 0 σ H)(hl:∀ i σ H,i≤xs.length→Pv i σ H→SqL K H a xs∧SqL K H b ys)
  (hs:∀ i x y σ H p,xs[i]?=some x→ys[i]?=some y→Pv i σ H→H p=none→g (.ref p) σ (upd H p (.tup [x,y])) fun σ2 H2=>tb { D with nx:=Pv (i+1),ct:=Pv (i+1),bk:=D.nx } σ2 H2) (hd:∀ σ H,Pv xs.length σ H→D.nx σ H) :
  ∃ W:Nat→Nat→St→Hp→Prop,(∃ m,W 0 m σ H)∧∀ i m σ H,W i m σ H→((Itz K a b).stop i H∧D.nx σ H)∨((Itz K a b).go i H∧∃ N:St→Hp→Prop,(∀ σ' H',N σ' H'→∃ m',m' < m∧W (i+1) m' σ' H')∧∀ x H',(Itz K a b).yld i H x H'→g x σ H' fun σ2 H2=>tb { D with nx:=N,ct:=N,bk:=D.nx } σ2 H2):=by
 refine ⟨fun i m σ H=>i+m=xs.length∧Pv i σ H,⟨xs.length,by omega,h0⟩,fun i m σ H zq0=>?_⟩;obtain ⟨e,pv⟩:=zq0;obtain ⟨hS,hS'⟩:=hl i σ H (by omega) pv;by_cases hi:i < xs.length
 ·refine .inr ⟨⟨xs,ys,xs[i],ys[i]'(by omega),hS,hS',yac hi,yac (by omega)⟩,Pv (i+1),fun σ' H' q=>⟨m - 1,by omega,by omega,q⟩,fun x H' y=>?_⟩;obtain ⟨p,z,z',rfl,hp,hz,hz',rfl⟩:=y;exact hs i z z' σ H p (hz xs hS) (hz' ys hS') pv hp
 ·have:i=xs.length:=by omega
  subst this;exact .inl ⟨⟨xs,ys,hS,hS',.inl (yaa _)⟩,hd σ H pv⟩
end L2
namespace L2
open PySem PySem.Spec PyProof.Rows
def zbQ (X:Cx)(N:List Str)(scope:Scope)(cl:List (Str×Addr))(C:Addr)(s₂:Shared)(H₂:Hp)(fp:List Addr):Cx:=
 { X with N:=N,s₀:=s₂,H₀:=H₂,env:=compEnvC scope cl C X.env,outer:=X.stack,stack:=X.stack,ex:=fp,fn:=fun _=>false,xe:=fun _ _=>False }
structure ziL (scope:Scope)(env:Env)(cl:List (Str×Addr)):Prop where
 eq:closureFor scope env=pure cl
 sub:∀ x c,cl.lookup x=some c→env.cells.lookup x=some c
 has:∀ x,(x,NameKind.free)∈scope.names→∃ c,cl.lookup x=some c
theorem zgu {env:Env}:∀(names:List (Str×NameKind)) (cs:List (Str×Addr)),(∀ x,(x,NameKind.free)∈names→∃ c,env.cells.lookup x=some c)→(∀ x c,cs.lookup x=some c→env.cells.lookup x=some c)→
  ∃ cl:List (Str×Addr),(forIn names cs (fun (x:Str×NameKind) (r:List (Str×Addr))=>if (x.2 == NameKind.free)=true then (do let c ← cellOf env x.1;pure (ForInStep.yield ((x.1,c)::r))) else pure (ForInStep.yield r)):Sem (List (Str×Addr)))=pure cl∧
   (∀ x c,cl.lookup x=some c→env.cells.lookup x=some c)∧(∀ x c,cs.lookup x=some c→∃ c',cl.lookup x=some c')∧∀ x,(x,NameKind.free)∈names→∃ c,cl.lookup x=some c
 | [],cs,_,h2=>⟨cs,by rw[List.forIn_nil],h2,fun x c e=>⟨c,e⟩,fun _ z=>nomatch z⟩
 | (n,k)::r,cs,h1,h2=>by
  by_cases hk:k=.free
  ·subst hk;obtain ⟨c,hc⟩:=h1 n yaC;have hn:∀ x c',((n,c)::cs).lookup x=some c'→env.cells.lookup x=some c':=fun x c' e=>by
    rw[yaJ]at e;cases hx:x == n with
    | true=>
     rw[hx]at e;cases e
     rw[eq_of_beq hx];exact hc
    | false=>
     rw[hx]at e;exact h2 x c' e
   obtain ⟨cl,e,s1,s2,s3⟩:=zgu r ((n,c)::cs) (fun x hx=>h1 x (yaD _ hx)) hn;have here:∃ c',cl.lookup n=some c':=s2 n c (by rw[yaJ,beq_self_eq_true]);refine ⟨cl,?_,s1,fun x c' q=>?_,fun x hx=>?_⟩
   ·rw[List.forIn_cons,if_pos (by rfl)];have q:cellOf env n=pure c:=by unfold cellOf;rw[hc]
    rw[q];simp only[pure_bind];exact e
   ·cases hxn:x == n with
    | true=>rw[eq_of_beq hxn];exact here
    | false=>exact s2 x c' (by rw[yaJ,hxn];exact q)
   ·rcases yat.mp hx with z | z
    ·cases z;exact here
    ·exact s3 x z
  ·obtain ⟨cl,e,s1,s2,s3⟩:=zgu r cs (fun x hx=>h1 x (yaD _ hx)) h2;refine ⟨cl,?_,s1,s2,fun x hx=>?_⟩
   ·have hb:(k == NameKind.free)=false:=by simpa using hk
    rw[List.forIn_cons,if_neg (by rw[hb];exact yaA)];simp only[pure_bind];exact e
   ·rcases yat.mp hx with z | z
    ·cases z;exact absurd rfl hk
    ·exact s3 x z
theorem zgt {scope:Scope}{env:Env}(h:∀ x,(x,NameKind.free)∈scope.names→∃ c,env.cells.lookup x=some c):∃ cl,ziL scope env cl:=by
 obtain ⟨cl,e,s1,_,s3⟩:=zgu scope.names [] h (fun _ _ z=>nomatch z);refine ⟨cl,?_,s1,s3⟩;unfold closureFor;exact (by simpa using e)
theorem zbH {env:Env}:∀{names:List (Str×NameKind)} {x:Str},names.lookup x=some .free→
  (names.map fun (n,k)=>if (k == NameKind.free && env.scope.kind == .function && env.kindOf n == some .cell) then (n,NameKind.cell) else (n,k)).lookup x=some .cell∨
  (names.map fun (n,k)=>if (k == NameKind.free && env.scope.kind == .function && env.kindOf n == some .cell) then (n,NameKind.cell) else (n,k)).lookup x=some .free
 | [],_,h=>by simp at h
 | (n,k)::r,x,h=>by
  have ih:=@zbH env r x;show List.lookup x ((if (k == NameKind.free && env.scope.kind == .function && env.kindOf n == some .cell)=true then (n,NameKind.cell) else (n,k))::_)=_∨List.lookup x ((if (k == NameKind.free && env.scope.kind == .function && env.kindOf n == some .cell)=true then (n,NameKind.cell) else (n,k))::_)=_
  cases hx:x == n with
  | true=>
   simp only[yaJ,hx]at h;cases h
   by_cases hc:(NameKind.free == NameKind.free && env.scope.kind == .function && env.kindOf n == some .cell)=true
   ·rw[if_pos hc];left;simp only[yaJ,hx]
   ·rw[if_neg hc];right;simp only[yaJ,hx]
  | false=>
   simp only[yaJ,hx]at h;by_cases hc:(k == NameKind.free && env.scope.kind == .function && env.kindOf n == some .cell)=true
   ·rw[if_pos hc];simp only[yaJ,hx];exact ih h
   ·rw[if_neg hc];simp only[yaJ,hx];exact ih h
theorem zen {env:Env}:∀{names:List (Str×NameKind)} {x:Str} {k':NameKind},(names.map fun (n,k)=>if (k == NameKind.free && env.scope.kind == .function && env.kindOf n == some .cell) then (n,NameKind.cell) else (n,k)).lookup x=some k'→k'=.cell∨k'=.free→
  (∀ y∈names,y.2≠.cell)→(x,NameKind.free)∈names
 | [],_,_,h,_,_=>by simp at h
 | (n,k)::r,x,k',h,hk,hc=>by
  have ih:=@zen env r x k';have h':List.lookup x ((if (k == NameKind.free && env.scope.kind == .function && env.kindOf n == some .cell)=true then (n,NameKind.cell) else (n,k))::r.map fun (n,k)=>if (k == NameKind.free && env.scope.kind == .function && env.kindOf n == some .cell) then (n,NameKind.cell) else (n,k))=some k':=h
  cases hx:x == n with
  | true=>
   have e:=eq_of_beq hx;subst e;by_cases hf:k=.free
   ·subst hf;exact yaC
   ·have hb:(k == NameKind.free)=false:=by simpa using hf
    rw[if_neg (by rw[hb];simp),yaJ,hx]at h';cases h'
    rcases hk with z | z
    ·exact absurd z (hc (x,k) yaC)
    ·exact absurd z hf
  | false=>
   refine yaD _ (ih ?_ hk fun y hy=>hc y (yaD _ hy));by_cases hcd:(k == NameKind.free && env.scope.kind == .function && env.kindOf n == some .cell)=true
   ·rw[if_pos hcd,yaJ,hx]at h';exact h'
   ·rw[if_neg hcd,yaJ,hx]at h';exact h'
def zcq (own:Nat)(cap:List Nat)(σ:St):St:=List.replicate own none++cap.map fun i=>(σ[i]?).getD none
structure zkD (X:Cx)(scope:Scope)(N:List Str)(own:Nat)(cap:List Nat):Prop where
 kind:scope.kind=.function
 nocell:(scope.names.all fun y=>y.2 != .cell)=true
 locs:(scope.names.all fun y=>y.2 != .local || scope.names.lookup y.1 == some .local)=true
 frees:(scope.names.all fun y=>y.2 != .free || (X.env.kindOf y.1 == some .cell || X.env.kindOf y.1 == some .free))=true
 len:N.length=own+cap.length
 caps:((List.range cap.length).all fun j=>(N[own+j]? == X.N[cap[j]!]?) && (match N[own+j]? with | some x=>scope.names.lookup x == some .free && (X.env.kindOf x == some .cell || X.env.kindOf x == some .free) | none=>false))=true
section
variable {prog:Program}{w:World}{A:Around}{R:Result→Shared→Prop}{s:Shared}
theorem zgr {elt target iter:Expr}{ifs:List Expr}{scope:Scope}{pos:Pos}{it acc:Value}{env:Env}(I:Nat→Shared→Prop)
  (turn:∀ n s,I n s→wpAny (model prog w) A (pyNext it) (fun r s₁=>match r with
   | none=>R (.ok .next) s₁
   | some v=>wpAny (model prog w) A (letOwnedTupleGo target it v) (fun _ s₁'=>wpAny (model prog w) A (assign target env v) (fun _ s₂=>
     wpAny (model prog w) A (forIn ifs true fun c r=>if r=true then do let ok ← isTrue c env (eval c env);pure (ForInStep.yield ok) else pure (ForInStep.yield r)) (fun ok s₃=>
      if ok=true then wpAny (model prog w) A (eval elt env) (fun x s₄=>
       wpAny (model prog w) A (call (.builtin "list.append") [acc,x]) (fun _ s₅=>∃ m,m < n∧I m s₅) (fun _ _=>False) s₄) (fun _ _=>False) s₃
      else ∃ m,m < n∧I m s₃) (fun _ _=>False) s₂) (fun _ _=>False) s₁') (fun _ _=>False) s₁) (fun _ _=>False) s)
  (n:Nat) (h:I n s) :
  codeAny (model prog w) A (.compLoop (.ListComp elt [⟨target,iter,ifs,0⟩] scope pos) 0 it acc env) R s:=by
 refine codeAny_loop rfl I (fun n s hI=>?_) n h;show wpAny _ A ((compTurn (.ListComp elt [⟨target,iter,ifs,0⟩] scope pos) 0 it acc env).onRaise (fun x=>do noteFrame x env;theTreesLotGoes x)) _ _ s
 refine wpAny_noted ?_;rw[compTurn_list];refine wpAny_bind (wpAny_standAt (wpAny_bind (wpAny_mono (turn n s hI) (fun r s₁ h₁=>?_) fun _ _ h'=>h'.elim)));cases r with
 | none=>exact wpAny_pure h₁
 | some v=>
  refine wpAny_bind (wpAny_mono h₁ (fun _ s₁' h₁'=>?_) fun _ _ h'=>h'.elim);refine wpAny_bind (wpAny_mono h₁' (fun _ s₂ h₂=>wpAny_bind (wpAny_mono h₂ (fun ok s₃ h₃=>?_) fun _ _ h'=>h'.elim)) fun _ _ h'=>h'.elim);cases ok with
  | true=>
   simp only[if_true]at h₃ ⊢;exact wpAny_bind (wpAny_bind (wpAny_mono h₃ (fun x s₄ h₄=>wpAny_bind (wpAny_mono h₄ (fun _ s₅ h₅=>wpAny_pure (wpAny_pure ⟨rfl,h₅⟩)) fun _ _ h'=>h'.elim)) fun _ _ h'=>h'.elim))
  | false=>
   simp only[yaT,if_false]at h₃ ⊢;exact wpAny_pure ⟨rfl,h₃⟩
end
section
variable {X:Cx}
def PTs (X:Cx)(ifs:List Expr)(t:TT):Prop:=
 ∀(pins:List (Addr×Obj)) (s:Shared) (σ:St) (H:Hp) (Q:Bool→Hp→Prop),Inv X pins σ H s→t σ H Q→
  wpAny (model X.prog X.w) X.A (forIn ifs true fun c r=>if r=true then do let ok ← isTrue c X.env (eval c X.env);pure (ForInStep.yield ok) else pure (ForInStep.yield r)) (TP X pins σ Q) X.xe s
def tYes:TT:=fun _ H Q=>Q true H
theorem zbF:PTs X [] tYes:=fun _ _ _ H _ I h=>wpAny_tests_nil ⟨H,I,h⟩
theorem zdt {c:Expr}{t:TT}(h:PT X c t):PTs X [c] t:=fun pins s σ H Q I q=>wpAny_tests_one (h pins s σ H Q I q)
theorem zn4 {pins:List (Addr×Obj)}{σ:St}{H:Hp}{s:Shared}{N:List Str}{own:Nat}{cap:List Nat}{scope:Scope}{cl:List (Str×Addr)}{C:Addr}{fp:List Addr}{h₁:Heap}{tk:Nat}{D:Addr}
  (I:Inv X pins σ H s) (c:zkD X scope N own cap) (hcl:ziL scope X.env cl) (f:∀ b∈fp,FpOk X pins H b) (hD:s.heap.objs.size≤D) (hC:s.heap.objs.size≤C) (hCD:D≠C)
  (kp:∀ b o,s.heap.get? b=some o→h₁.get? b=some o) (hnew:h₁.get? D=some { cls:=.type "list",data:=.seq #[] }) (hns:∃ m,h₁.Ns C m) (hfp:∀ b∈fp,b < s.heap.objs.size) (hcalm:X.calm=true) :
  Inv (zbQ X N scope cl C s H fp) pins (zcq own cap σ) (upd H D (.lst [])) { s with heap:=h₁,toks:=tk }:=by
 have hfr:H D=none:=I.hok.fresh hD;have hfrC:H C=none:=I.hok.fresh hC;have sz:∀ b o,s.heap.get? b=some o→b≠D∧b≠C:=fun b o e=>⟨yas (yaw (yag e) hD),yas (yaw (yag e) hC)⟩;have cells:∀ x cc,cl.lookup x=some cc→∃ v,s.heap.IsCell cc v:=fun x cc e=>I.cell x cc (hcl.sub x cc e);have cellne:∀ x cc,cl.lookup x=some cc→cc≠D∧cc≠C:=fun x cc e=>by
  obtain ⟨v,o,ho,_⟩:=cells x cc e;exact sz cc o ho
 have ok:(zbQ X N scope cl C s H fp).Ok:=by
  refine ⟨I.ok.mod,c.kind,I.ok.glob,I.ok.blt,hC,fun x y cc e1 e2=>I.ok.inj x y cc (hcl.sub x cc e1) (hcl.sub y cc e2),fun x hx=>?_,(fun x cc z _=>nomatch z),I.ok.hd,I.ok.frames,.inl rfl,fun b hb=>?_,fun b o e=>I.bs b o e,?_,fun b o e hb=>?_,fun b hb z=>?_,I.stack,fun b hb=>I.stkFree b hb⟩
  ·have hm:(x,NameKind.free)∈scope.names:=by
    rcases hx with z | z
    ·exact zen (env:=X.env) (names:=scope.names) (x:=x) (k':=.cell) z (.inl rfl) fun y hy q=>by
      have:=yaN.mp c.nocell y hy;rw[q]at this;exact absurd this (by decide)
    ·exact zen (env:=X.env) (names:=scope.names) (x:=x) (k':=.free) z (.inr rfl) fun y hy q=>by
      have:=yaN.mp c.nocell y hy;rw[q]at this;exact absurd this (by decide)
   exact hcl.has x hm
  ·exact ⟨yas (yaw (hfp b hb) hC),fun x cc e z=>(f b hb).2.2.2.2.1 x cc (hcl.sub x cc e) z⟩
  ·exact yar I.ok.bsz I.sz
  ·obtain ⟨_,_,_,h4,_⟩:=f b hb;rcases h4 with z | z
   ·exact I.ok.noex b o e z
   ·exact absurd (yaw (yag e) (yar I.ok.bsz z)) (yaY _)
  ·obtain ⟨_,h2,h3,_⟩:=f b hb;rcases yat.mp (I.stkSub b z) with q | q
   ·exact h2 q
   ·exact h3 q
 have hokN:zbA X.prog X.w (upd H D (.lst [])) h₁ D (.lst []):=⟨yaF _,[],0,.nil,hnew⟩;refine ⟨ok,I.os.symm ▸ rfl,I.bare,Un.laid kp hD hfr,?_,fun x cc e=>?_,?_,fun x cc e=>?_,fun p hp=>?_,I.hok.laid kp hD hokN,?_⟩
 ·obtain ⟨m,hm⟩:=hns;refine ⟨m,hm,fun i x v e1 e2 e3=>?_⟩;have hi:own≤i:=by
   false_or_by_contra
   rename_i z;unfold zcq at e2;rw[ybm (by rw[ya8];omega),ycu]at e2;split at e2 <;> cases e2
  obtain ⟨j,rfl⟩:∃ j,i=own+j:=⟨i - own,by omega⟩;have hj:j < cap.length:=by
   have:=(yaf.mp e1).1;have z:=c.len;have this':own+j < N.length:=this;omega
  have hc:=yaN.mp c.caps j (ybe.mpr hj);have e1':N[own+j]?=some x:=e1;rw[e1']at hc;simp only[ya1,beq_iff_eq,ybY]at hc;obtain ⟨hN,hf,hk⟩:=hc;have e2':σ[cap[j]!]?=some (some v):=by
   unfold zcq at e2;rw[ya7 (by rw[ya8];omega),ya8,show own+j - own=j by omega,yal]at e2;have g:cap[j]! = cap[j]:=by simp[hj]
   rw[yac hj,ycf]at e2;rw[g];have e2:=yae e2;cases q:σ[cap[j]]? with
   | none=>rw[q]at e2;cases e2
   | some z=>rw[q]at e2;exact congrArg some e2
  obtain ⟨m0,_,hl⟩:=I.loc;obtain ⟨u,ru,lk⟩:=hl (cap[j]!) x v hN.symm e2' (by
   rcases hk with z | z
   ·exact .inr (.inl z)
   ·exact .inr (.inr z))
  refine ⟨u,ru,.inr ⟨zbH (env:=X.env) hf,?_⟩⟩;rcases lk with ⟨z,_⟩ | ⟨_,cc,ec,ic⟩
  ·rcases hk with q | q
   ·rw[q]at z;cases z
   ·rw[q]at z;cases z
  ·obtain ⟨c',hc'⟩:=hcl.has x (by
    have:(x,NameKind.free)∈scope.names:=by
     have hlk:=hf;obtain ⟨l1,l2,hs,hno⟩:=List.lookup_eq_some_iff.mp hlk;rw[hs];exact yaz _ yaC
    exact this)
   have:=hcl.sub x c' hc';rw[ec]at this;cases this
   obtain ⟨o,ho,hd⟩:=ic;exact ⟨cc,hc',o,kp cc o ho,hd⟩
 ·obtain ⟨v,o,ho,hd⟩:=cells x cc e;exact ⟨v,o,kp cc o ho,hd⟩
 ·show upd H D (.lst []) C=none;rw[zai (Ne.symm hCD)];exact hfrC
 ·show upd H D (.lst []) cc=none;rw[zai (cellne x cc e).1];exact I.freeC x cc (hcl.sub x cc e)
 ·obtain ⟨e,n,ne,nf,d⟩:=I.pin p hp;refine ⟨kp _ _ e,?_,(sz _ _ e).2,fun z=>?_,d⟩
  ·show upd H D (.lst []) p.1=none;rw[zai (sz _ _ e).1];exact n
  ·rcases yat.mp (I.stkSub p.1 z) with q | q
   ·exact ne q
   ·exact nf q
 ·show (zcq own cap σ).length=N.length;unfold zcq;rw[yak,ya8,yab,c.len]
def zpb (own:Nat)(cap:List Nat)(wi:TI)(g:TG)(ts:TT)(te:TE):TE:=fun σ H Q=>wi σ H fun J H1=>∀ D,H1 D=none→∃ W:Nat→Nat→St→Hp→Prop,(∃ m,W 0 m (zcq own cap σ) (upd H1 D (.lst [])))∧∀ i m σ H,W i m σ H→
 (J.stop i H∧Q (.ref D) H)∨(J.go i H∧∀ x H',J.yld i H x H'→g x σ H' fun σ2 H2=>ts σ2 H2 fun b H3=>if b=true then te σ2 H3 fun y H4=>∃ xs,H4 D=some (.lst xs)∧xs.length < sizeLine∧∃ m',m' < m∧W (i+1) m' σ2 (upd H4 D (.lst (xs++[y]))) else ∃ m',m' < m∧W (i+1) m' σ2 H3)
theorem ziB {pins:List (Addr×Obj)}{σ:St}{H2:Hp}{s2:Shared}{N:List Str}{own:Nat}{cap:List Nat}{scope:Scope}{cl:List (Str×Addr)}{fp:List Addr}{tg elt iter:Expr}{ifs:List Expr}{pos:Pos}{J:It}{it:Addr}{tn:Nat→Heap→Prop}{g:TG}{ts:TT}{te:TE}{Q:VK}
  {E:Value→Shared→Prop} {RR:Value→Addr→Result→Shared→Prop}
  (hcalm:X.calm=true) (c:zkD X scope N own cap) (hcl:ziL scope X.env cl)
  (hg:∀ cl C s₂ H₂ fp,PG (zbQ X N scope cl C s₂ H₂ fp) tg g) (hts:∀ cl C s₂ H₂ fp,PTs (zbQ X N scope cl C s₂ H₂ fp) ifs ts) (he:∀ cl C s₂ H₂ fp,PE (zbQ X N scope cl C s₂ H₂ fp) elt te)
  (I2:Inv X pins σ H2 s2) (T:Turn X.prog X.w X.K tg J fp it tn) (st2:tn 0 s2.heap) (f2:∀ b∈fp,FpOk X pins H2 b)
  (rd:∀ D,H2 D=none→∃ W:Nat→Nat→St→Hp→Prop,(∃ m,W 0 m (zcq own cap σ) (upd H2 D (.lst [])))∧∀ i m σ H,W i m σ H→
   (J.stop i H∧Q (.ref D) H)∨(J.go i H∧∀ x H',J.yld i H x H'→g x σ H' fun σ2 H2=>ts σ2 H2 fun b H3=>if b=true then te σ2 H3 fun y H4=>∃ xs,H4 D=some (.lst xs)∧xs.length < sizeLine∧∃ m',m' < m∧W (i+1) m' σ2 (upd H4 D (.lst (xs++[y]))) else ∃ m',m' < m∧W (i+1) m' σ2 H3))
  (hRR:∀ D C s' H',Inv X pins σ H' s'→(∃ m,s'.heap.Ns C m)→FpOk X pins H' C→Q (.ref D) H'→RR (.ref D) C (.ok .next) s') :
  wpAny (model X.prog X.w) X.A (newList []) (fun acc s₃=>wpAny (model X.prog X.w) X.A (newFunctionEnv scope X.env.globals cl [] X.env.qual none .none (some X.env)) (fun cenv s₄=>
   codeAny (model X.prog X.w) X.A (.compStart (.ListComp elt [⟨tg,iter,ifs,0⟩] scope pos) 0 (.ref it) acc { cenv with scope:=relabel scope X.env }) (RR acc cenv.locals) s₄) E s₃) E s2:=by
 have hcell:∀ y∈scope.names,y.2≠.cell:=fun y hy q=>by
  have:=yaN.mp c.nocell y hy;rw[q]at this;exact absurd this (by decide)
 have hfp:∀ b∈fp,b < s2.heap.objs.size:=fun b hb=>by
  obtain ⟨o,e,_⟩:=T.obj 0 _ st2 b hb;exact yag e
 refine wpAny_newObj_type (wpAny_newFunctionEnv hcell (by intro y hy;simp at hy) (fun h₁ hns₁ hsb₁=>?_) c.kind);dsimp only at hns₁ hsb₁ ⊢;generalize hHH:s2.heap.push { cls:=.type "list",dict:=none,data:=.seq ([]:List Value).toArray }=HH at hns₁ hsb₁ ⊢;have hC:HH.objs.size=s2.heap.objs.size+1:=by rw[← hHH,ybZ]
 have hDC:s2.heap.objs.size≠HH.objs.size:=by rw[hC];exact yas (ycg _)
 have hCle:s2.heap.objs.size≤HH.objs.size:=by rw[hC];exact ya4 _
 have old:∀ b o,s2.heap.get? b=some o→h₁.get? b=some o:=fun b o e=>hsb₁.extBut b o (yas (by rw[hC];exact Nat.lt_succ_of_lt (yag e))) (yan _ (hHH ▸ yan _ e));have hnew:h₁.get? s2.heap.objs.size=some { cls:=.type "list",data:=.seq #[] }:=hsb₁.extBut _ _ hDC (yan _ (hHH ▸ yaK _ rfl));have I3:∀ tk,Inv (zbQ X N scope cl HH.objs.size s2 H2 fp) pins (zcq own cap σ) (upd H2 s2.heap.objs.size (.lst [])) { s2 with heap:=h₁,toks:=tk }:=fun tk=>
  zn4 I2 c hcl f2 (yaa _) hCle hDC old hnew ⟨_,hns₁⟩ hfp hcalm
 obtain ⟨W,⟨m0,w0⟩,turn⟩:=rd s2.heap.objs.size (I2.hok.fresh (yaa _));have st3:tn 0 h₁:=T.keep _ _ _ st2 fun b _ o e=>old b o e;have fr3:∀ b∈fp,upd H2 s2.heap.objs.size (.lst []) b=none:=fun b hb=>by rw[zai (yas (hfp b hb))];exact (f2 b hb).1
 have stat:∀{H':Hp},(∀ b∈fp,H' b=none)→∀ b∈fp,FpOk (zbQ X N scope cl HH.objs.size s2 H2 fp) pins H' b:=fun hn b hb=>by
  obtain ⟨_,h2,h3,_,h5,h6⟩:=f2 b hb;refine ⟨hn b hb,yas (yaw (hfp b hb) hCle),fun z=>?_,.inl hb,fun x cc e=>h5 x cc (hcl.sub x cc e),h6⟩;rcases yat.mp (I2.stkSub b z) with q | q
  ·exact h2 q
  ·exact h3 q
 have loop:∀ s₃:Shared,s₃={ s2 with heap:=h₁,toks:=s2.toks+([]:List (Str×Value)).length }→
   codeAny (model X.prog X.w) X.A (.compLoop (.ListComp elt [⟨tg,iter,ifs,0⟩] scope pos) 0 (.ref it) (.ref s2.heap.objs.size) (compEnvC scope cl HH.objs.size X.env)) (RR (.ref s2.heap.objs.size) HH.objs.size) s₃:=by
  rintro s₃ rfl;refine zgr (fun n s'=>∃ i σ' H',Inv (zbQ X N scope cl HH.objs.size s2 H2 fp) pins σ' H' s'∧tn i s'.heap∧(∀ b∈fp,H' b=none)∧W i n σ' H') ?_ m0 ⟨0,_,_,I3 _,st3,fr3,w0⟩;rintro n s3 ⟨i,σ3,H3,J3,t3,fr,w3⟩;rcases turn i n σ3 H3 w3 with ⟨stop,qn⟩ | ⟨go,step⟩
  ·refine thn (T.done (zbQ X N scope cl HH.objs.size s2 H2 fp) rfl rfl rfl hcalm i pins s3 σ3 H3 (fun _ _=>False) J3 (stat fr) t3 stop) fun r s4 zq0=>?_;obtain ⟨hr,I4⟩:=zq0;subst hr;obtain ⟨mm,hmm,_⟩:=I4.loc;refine hRR _ _ s4 H3 (I2.call' I4.os I4.base I4.hok I4.bare fun b hb=>?_) ⟨mm,hmm⟩ (I2.fpOk hCle I4.free) qn;obtain ⟨_,h2,_,h4,h5,h6⟩:=f2 b hb;exact ⟨h4,h2,h5,h6⟩
  ·refine thn (T.item (zbQ X N scope cl HH.objs.size s2 H2 fp) rfl rfl rfl hcalm i pins s3 σ3 H3 (fun _ _=>False) J3 (stat fr) t3 go) fun r s4 zq0=>?_;obtain ⟨u,hr,h4⟩:=zq0;subst hr;refine thn h4 fun _ s5 zq0=>?_;obtain ⟨x,H5,I5,r5,y5,st5,fr5⟩:=zq0;have I5':=I5.pinned (stat fr5) (T.obj _ _ st5);have back:∀{σ7:St} {H7:Hp} {s7:Shared} {m':Nat},Inv (zbQ X N scope cl HH.objs.size s2 H2 fp) (pins++zgS fp s5.heap) σ7 H7 s7→W (i+1) m' σ7 H7→∃ i σ' H',Inv (zbQ X N scope cl HH.objs.size s2 H2 fp) pins σ' H' s7∧tn i s7.heap∧(∀ b∈fp,H' b=none)∧W i m' σ' H':=fun {σ7 H7 s7 m'} I7 w7=>by
    refine ⟨i+1,σ7,H7,I7.unpinned,T.keep _ _ _ st5 fun b hb o e=>(I7.pin (b,o) (yaz _ (yaz _ (zcj hb e)))).1,fun b hb=>?_,w7⟩;obtain ⟨o,e,d⟩:=T.obj _ _ st5 b hb;exact (I7.pin (b,o) (yaz _ (yaz _ (zcj hb e)))).2.1
   refine thn (hg cl HH.objs.size s2 H2 fp _ s5 σ3 H5 x u _ I5' r5 (step x H5 y5)) fun _ s6 zq0=>?_;obtain ⟨σ6,H6,I6,q6⟩:=zq0;refine thn (hts cl HH.objs.size s2 H2 fp _ s6 σ6 H6 _ I6 q6) fun b s7 zq0=>?_;obtain ⟨H7,I7,q7⟩:=zq0;cases b with
   | false=>
    rw[if_neg yaA]at q7 ⊢;obtain ⟨m',hm,w7⟩:=q7;exact ⟨m',hm,back I7 w7⟩
   | true=>
    rw[if_pos rfl]at q7 ⊢;refine thn (he cl HH.objs.size s2 H2 fp _ s7 σ6 H7 _ I7 q7) fun v s8 zq0=>?_;obtain ⟨y,H8,I8,r8,q8⟩:=zq0;obtain ⟨xs,hx,hz,m',hm,w8⟩:=q8;refine thn (zaQ (X:=zbQ X N scope cl HH.objs.size s2 H2 fp) _ s8 σ6 H8 (.ref s2.heap.objs.size) [y] (.ref s2.heap.objs.size) [v] (fun _ H9=>H9=upd H8 s2.heap.objs.size (.lst (xs++[y]))) I8 rfl (.cons r8 .nil) ⟨_,xs,y,rfl,rfl,hx,hz,rfl⟩) fun _ s9 zq0=>?_;obtain ⟨_,H9,I9,_,e9⟩:=zq0;subst e9;exact ⟨m',hm,back I9 w8⟩
 refine codeAny_compStart_list (loop _ rfl) ?_;exact T.self _ 0 _ _ _ st3 (loop _ rfl)
theorem zbG {N:List Str}{own:Nat}{cap:List Nat}{scope:Scope}{tg elt iter:Expr}{ifs:List Expr}{pos:Pos}{wi:TI}{g:TG}{ts:TT}{te:TE}(hcalm:X.calm=true)(hi:PI X tg iter wi)(c:zkD X scope N own cap)
  (hg:∀ cl C s₂ H₂ fp,PG (zbQ X N scope cl C s₂ H₂ fp) tg g) (hts:∀ cl C s₂ H₂ fp,PTs (zbQ X N scope cl C s₂ H₂ fp) ifs ts) (he:∀ cl C s₂ H₂ fp,PE (zbQ X N scope cl C s₂ H₂ fp) elt te)
  (hs:∀ x,foldedSetIterable iter X.env x=pure x:=by intro _;rfl):PE X (.ListComp elt [⟨tg,iter,ifs,0⟩] scope pos) (zpb own cap wi g ts te):=by
 intro pins s σ H Q I h;obtain ⟨cl,hcl⟩:=zgt (scope:=scope) (env:=X.env) fun x hx=>I.ok.has x (by
  have:=yaN.mp c.frees _ hx;simpa using this)
 rw[eval_ListComp];refine wpAny_comprehension_free (use:=none) rfl hs hcl.eq c.kind (fun x hx hl=>by
  have:=yaN.mp c.locs x hx;rw[hl]at this;simpa using this) (thn (hi pins s σ H _ I h) fun v s1 h1=>thn h1 fun itv s2 h2=>?_)
 obtain ⟨it,fp,tn,J,H2,e,I2,T,st2,f2,rd⟩:=h2;subst e;refine ziB (RR:=fun acc C=>compPost (model X.prog X.w) X.A X.xe none (EP X pins σ Q) acc C) hcalm c hcl hg hts he I2 T st2 f2 rd ?_;intro D C s' H' I' hm fC q;obtain ⟨m,hm⟩:=hm;obtain ⟨f0,f1,f2,f3,f4,f5⟩:=fC;exact ⟨m,hm,fun h' hsb=>⟨.ref D,H',I'.turned (t':=s'.toks) (fun b o hb e=>(hsb.2 b hb).trans e) f0 f1 f3 f4 f5,rfl,q⟩⟩
theorem zeo {i:Nat}{x:Str}{N:List Str}{own:Nat}{cap:List Nat}{scope:Scope}{tg elt iter:Expr}{ifs:List Expr}{pos pos' spos:Pos}{wi:TI}{g:TG}{ts:TT}{te:TE}(hN:X.N.Nodup)(hxi:X.N[i]?=some x)(hx:X.env.scope.names.lookup x=some .local)(hcalm:X.calm=true)(hi:PI X tg iter wi)(c:zkD X scope N own cap)
  (hg:∀ cl C s₂ H₂ fp,PG (zbQ X N scope cl C s₂ H₂ fp) tg g) (hts:∀ cl C s₂ H₂ fp,PTs (zbQ X N scope cl C s₂ H₂ fp) ifs ts) (he:∀ cl C s₂ H₂ fp,PE (zbQ X N scope cl C s₂ H₂ fp) elt te)
  (hsw:swapsWith (.ListComp elt [⟨tg,iter,ifs,0⟩] scope pos) (some (.Name x pos')) spos.line X.env=pure true:=by rfl)
  (hs:∀ x,foldedSetIterable iter X.env x=pure x:=by intro _;rfl):PS X (.Assign [.Name x pos'] (.ListComp elt [⟨tg,iter,ifs,0⟩] scope pos) spos) (tAsg (zpb own cap wi g ts te) (zhN i)):=by
 intro pins s σ H D I h;obtain ⟨cl,hcl⟩:=zgt (scope:=scope) (env:=X.env) fun x hx=>I.ok.has x (by
  have:=yaN.mp c.frees _ hx;simpa using this)
 rw[exec_Assign_Name_used _ _ _ _ hsw];refine wpAny_bind (wpAny_standAt (wpAny_bind ?_));show wpAny _ X.A (do let _ ← comprehension (.ListComp elt [⟨tg,iter,ifs,0⟩] scope pos) scope X.env _ (newList []) false (eval iter X.env) (some (assign (.Name x pos') X.env))) _ _ s
 refine wpAny_bind (wpAny_mono (wpAny_comprehension_free (use:=some (assign (.Name x pos') X.env)) (Q:=fun _ s'=>SP X pins D .next s') rfl hs hcl.eq c.kind (fun x hx hl=>by
  have:=yaN.mp c.locs x hx;rw[hl]at this;simpa using this) (thn (hi pins s σ H _ I h) fun v s1 h1=>thn h1 fun itv s2 h2=>?_)) (fun _ s' hq=>wpAny_pure (wpAny_pure hq)) fun _ _ e=>e)
 obtain ⟨it,fp,tn,J,H2,e,I2,T,st2,f2,rd⟩:=h2;subst e;refine ziB (RR:=fun acc C=>compPost (model X.prog X.w) X.A X.xe (some (assign (.Name x pos') X.env)) (fun _ s'=>SP X pins D .next s') acc C) (Q:=fun x H1=>zhN i x σ H1 D.nx) hcalm c hcl hg hts he I2 T st2 f2 rd ?_;intro Dd C s' H' I' hm fC q;obtain ⟨m,hm⟩:=hm;have hne:∀ a,(a=X.env.locals∨X.env.cells.lookup x=some a)→a≠C:=fun a z=>by
  obtain ⟨f0,f1,f2,f3,f4,f5⟩:=fC;rcases z with z | z
  ·rw[z];exact Ne.symm f1
  ·exact f4 x a z
 show wpAny _ X.A (assign (.Name x pos') X.env (.ref Dd)) _ _ _;refine wpAny_assign_Name (zf9 I' hN hxi (.inl hx) (v:=.ref Dd) rfl (fun s'' I'' hch=>?_) (.inr hx));obtain ⟨a,hsb,ha⟩:=hch;refine ⟨m,hm.sameBut hsb (Ne.symm (hne a ha)),fun h' hs'=>?_⟩;obtain ⟨f0,f1,f2,f3,f4,f5⟩:=fC;exact ⟨_,H',I''.turned (t':=s''.toks) (fun b o hb e=>(hs'.2 b hb).trans e) f0 f1 f3 f4 f5,q⟩
end
end L2
namespace L2
open PySem PySem.Spec PyProof.Rows PySem.SeqAt
class Srt (α:Type)[Rep α] where
 blt:α→α→Bool
 irrefl:∀ a,blt a a=false
 trans:∀ a b c,blt a b=true→blt b c=true→blt a c=true
 negTrans:∀ a b c,blt a c=true→blt a b=true∨blt b c=true
 total:∀ a b,blt a b=false→blt b a=false→a=b
 kd:SortKind
 one:α
 lt:∀{X:Cx} {pins:List (Addr×Obj)} {σ:St} {H:Hp} {s:Shared} {A:Around} {a b:α} {x y:V} {u v:Value} {Q:Bool→Shared→Prop} {E:Value→Shared→Prop},Inv X pins σ H s→Rep.has X.K H a x→Rep.has X.K H b y→RelV x u→RelV y v→Q (blt a b) s→wpAny (model X.prog X.w) A (keyLt' kd u v) Q E s
 kind:∀{X:Cx} {pins:List (Addr×Obj)} {σ:St} {H:Hp} {s:Shared} {A:Around} {as:List α} {xs:List V} {us:List Value} {Q:SortKind→Shared→Prop} {E:Value→Shared→Prop},Inv X pins σ H s→zar X.K H as xs→Vals xs us→2≤us.length→Q kd s→wpAny (model X.prog X.w) A (keyKind' us.toArray) Q E s
section
variable {α:Type}[Rep α][Srt α]
noncomputable def srtKind (α:Type)[Rep α][Srt α](K:Frag)(H:Hp):PyProof.Rows.KeyKind where
 α:=α
 blt:=Srt.blt
 irrefl:=Srt.irrefl
 trans:=Srt.trans
 negTrans:=Srt.negTrans
 total:=Srt.total
 keyOf:=fun u=>open Classical in if h:∃ a:α,∃ x,RelV x u∧Rep.has K H a x then some (Classical.choose h) else none
 dflt:=Srt.one
theorem zn1 {X:Cx}{pins:List (Addr×Obj)}{σ:St}{H:Hp}{s:Shared}{a:α}{x:V}{u:Value}(I:Inv X pins σ H s)(r:RelV x u)(h:Rep.has X.K H a x):(srtKind α X.K H).keyOf u=some a:=by
 have e:∃ a:α,∃ x,RelV x u∧Rep.has X.K H a x:=⟨a,x,r,h⟩;unfold srtKind;dsimp only;rw[dif_pos e];obtain ⟨y,ry,hy⟩:=Classical.choose_spec e;have z:=ry.inj r;subst z;exact congrArg some (Rep.inj I hy h)
theorem zgX {K:Frag}{H:Hp}{a:α}{u:Value}(h:(srtKind α K H).keyOf u=some a):∃ x,RelV x u∧Rep.has K H a x:=by
 unfold srtKind at h;dsimp only at h;split at h
 ·rename_i e;cases h
  exact Classical.choose_spec e
 ·cases h
def zds (as:List α):List α:=as.mergeSort fun a b=>!Srt.blt b a
theorem zcf (as:List α):(zds as).Perm as:=List.mergeSort_perm _ _
theorem zeE {as:List α}{a:α}:a∈zds as↔a∈as:=(zcf as).mem_iff
theorem zcB (as:List α):(zds as).length=as.length:=(zcf as).length_eq
theorem zm9 {a b:α}(h:Srt.blt a b=true):Srt.blt b a=false:=by
 cases e:Srt.blt b a with
 | false=>rfl
 | true=>
  have:=Srt.trans _ _ _ h e;rw[Srt.irrefl]at this;cases this
theorem zjN (as:List α):(zds as).Pairwise fun a b=>Srt.blt b a=false:=by
 have h:=List.pairwise_mergeSort (le:=fun a b:α=>!Srt.blt b a) (fun a b c h1 h2=>by
  simp only[ybp]at h1 h2 ⊢;cases e:Srt.blt c a with
  | false=>rfl
  | true=>
   rcases Srt.negTrans c b a e with z | z
   ·rw[h2]at z;cases z
   ·rw[h1]at z;cases z) (fun a b=>by
  cases e:Srt.blt b a with
  | false=>rfl
  | true=>rw[zm9 e];rfl) as
 exact h.imp fun {a b} z=>by simpa using z
theorem znq {as bs:List α}(hp:bs.Perm as)(hs:bs.Pairwise fun a b=>Srt.blt b a=false):bs=zds as:=
 List.Perm.eq_of_pairwise (fun a b _ _ h1 h2=>Srt.total a b h2 h1) hs (zjN as) (hp.trans (zcf as).symm)
theorem zfr {as:List α}(hn:as.Nodup):(zds as).Pairwise fun a b=>Srt.blt a b=true:=by
 have h1:=zjN as;have h2:(zds as).Nodup:=(zcf as).nodup_iff.mpr hn;refine (h1.and h2).imp fun {a b} z=>?_;cases e:Srt.blt a b with
 | true=>rfl
 | false=>exact absurd (Srt.total a b e z.1) z.2
theorem zio {K:Frag}{H:Hp}:∀{out:List Value},(∀ v∈out,∃ a:α,∃ x,RelV x v∧Rep.has K H a x∧(srtKind α K H).keyOf v=some a)→
  ∃(ws:List V) (bs:List α),Vals ws out∧zar K H bs ws∧bs=out.map (Tim.keyV (srtKind α K H))
 | [],_=>⟨[],[],.nil,.nil,rfl⟩
 | v::out,h=>by
  obtain ⟨ws,bs,h1,h2,h3⟩:=zio (out:=out) fun u hu=>h u (yaD _ hu);obtain ⟨a,x,r,e,k⟩:=h v yaC;refine ⟨x::ws,a::bs,.cons r h1,.cons e h2,?_⟩;rw[yax,← h3];have z:Tim.keyV (srtKind α K H) v=a:=by
   unfold Tim.keyV;rw[k];rfl
  rw[z];rfl
theorem zmx {X:Cx}{pins:List (Addr×Obj)}{σ:St}{H:Hp}{s:Shared}(I:Inv X pins σ H s):∀{as:List α} {xs:List V} {us:List Value},zar X.K H as xs→Vals xs us→us.map (Tim.keyV (srtKind α X.K H))=as∧∀ v∈us,∃ a:α,∃ x,RelV x v∧Rep.has X.K H a x∧(srtKind α X.K H).keyOf v=some a
 | _,_,_,.nil,.nil=>⟨rfl,fun _ z=>nomatch z⟩
 | _,_,_,.cons e t,.cons r q=>by
  obtain ⟨h1,h2⟩:=zmx I t q;have k:=zn1 I r e;refine ⟨?_,fun v hv=>?_⟩
  ·rw[yax,h1];unfold Tim.keyV;rw[k];rfl
  ·rcases yat.mp hv with z | z
   ·subst z;exact ⟨_,_,r,e,k⟩
   ·exact h2 v z
end
def zqv (α:Type)[Rep α][Srt α](K:Frag):List V→Hp→VK→Prop:=fun xs H Q=>∃(p:Addr) (vs:List V) (as:List α),xs=[.ref p]∧SqL K H p vs∧zar K H as vs∧
 ∀ l ws,H l=none→zar K H (zds as) ws→Q (.ref l) (upd H l (.lst ws))
section
variable {X:Cx}
theorem zee (α:Type)[Rep α][Srt α]:zey X (.builtin "sorted") (zqv α X.K):=by
 intro pins s σ H xs us Q I r h;obtain ⟨p,vs,as,rfl,hq,ha,q⟩:=h;obtain ⟨u,rfl,rx⟩:=zgF r;cases rx
 obtain ⟨its,rv,pl,hz⟩:=I.list hq;have hlen:=rv.length;obtain ⟨km,kk⟩:=zmx I ha rv;refine Tim.znp (κ:=srtKind α X.K H) (kd:=Srt.kd α) pl.isList (by omega) (fun v hv=>?_) (fun h' k E x y a b Q hx hy q=>?_) (fun h' E Q k h2 q=>Srt.kind (Inv.kept (t':=s.toks) I k) ha rv h2 q) fun out h' c p1 p2 k hc=>?_
 ·obtain ⟨a,_,_,_,e⟩:=kk v hv;exact ⟨a,e⟩
 ·obtain ⟨x1,r1,e1⟩:=zgX hx;obtain ⟨y1,r2,e2⟩:=zgX hy;exact Srt.lt (Inv.kept (t':=s.toks) I k) e1 e2 r1 r2 q
 ·obtain ⟨ws,bs,w1,w2,w3⟩:=zio (α:=α) (K:=X.K) (H:=H) (out:=out) fun v hv=>kk v (p1.mem_iff.mp hv);have eb:bs=zds as:=by
   refine znq ?_ ?_
   ·rw[w3,← km];exact p1.map _
   ·rw[w3];exact ybX.mpr p2
  rw[eb]at w2;have hw:ws.length≤sizeLine:=by
   have:=w1.length;have:=p1.length_eq;omega
  exact ⟨.ref (s.heap.objs.size+1),_,I.laid (a:=s.heap.objs.size+1) (o:=.lst ws) (t':=s.toks) k (ya4 _) ⟨hw,out,c,w1,hc⟩,rfl,q _ ws (I.hok.fresh (ya4 _)) w2⟩
end
instance:Srt Int where
 blt:=fun a b=>decide (a < b)
 irrefl:=fun a=>by simp
 trans:=fun a b c h1 h2=>by
  simp only[decide_eq_true_eq]at *;omega
 negTrans:=fun a b c h=>by
  simp only[decide_eq_true_eq]at *;omega
 total:=fun a b h1 h2=>by
  simp only[decide_eq_false_iff_not]at *;omega
 kd:=oneType'
 one:=0
 lt:=fun {X pins σ H s A a b x y u v Q E} _ h1 h2 r1 r2 q=>by
  have h1:x=.int a:=h1;have h2:y=.int b:=h2;subst h1 h2;obtain ⟨t,rfl⟩:=r1;obtain ⟨t',rfl⟩:=r2;exact PySem.W.kat_lt_int q
 kind:=fun {X pins σ H s A as xs us Q E} _ h r hl q=>by
  have e:=zar.toInts h;subst e;have hi:IntsAre us as:=by
   clear q hl
   induction as generalizing us with
   | nil=>cases r;exact .nil
   | cons a as ih=>
    cases r with
    | cons r1 r2=>
     obtain ⟨t,rfl⟩:=r1;exact .cons a t (ih (by first | exact zar.ints | assumption) r2)
  match us,hl,hi with
  | v₁::v₂::rest,_,hi=>
   rw[keyKind_ints hi];exact wpAny_pure q
def pLt (a b:Int×Int):Bool:=decide (a.1 < b.1) || (decide (a.1=b.1) && decide (a.2 < b.2))
theorem zcN {a b:Int×Int}:pLt a b=true↔a.1 < b.1∨(a.1=b.1∧a.2 < b.2):=by
 unfold pLt;simp
theorem ziV {a b:Int×Int}:pLt a b=false↔¬ (a.1 < b.1∨(a.1=b.1∧a.2 < b.2)):=by
 rw[← zcN];simp
theorem zhA {X:Cx}{pins:List (Addr×Obj)}{σ:St}{H:Hp}{s:Shared}{a:Int×Int}{x:V}{u:Value}(I:Inv X pins σ H s)(h:Rep.has X.K H a x)(r:RelV x u) :
  ∃(p:Addr) (o:Obj) (n:Nat) (t t':Tok),u=.ref p∧s.heap.get? p=some o∧o.cls=.type "tuple"∧o.data=.seq #[.int a.1 t,.int a.2 t'] n:=by
 obtain ⟨p,x1,x2,rfl,q,e1,e2⟩:=(show hasP X.K H a x from h);have e1:x1=.int a.1:=e1;have e2:x2=.int a.2:=e2;subst e1 e2;cases r
 obtain ⟨us,ru,pu,_⟩:=I.tuple (SqT.of q);obtain ⟨u1,u2,rfl,⟨t,rfl⟩,⟨t',rfl⟩⟩:=zhY ru;obtain ⟨o,ho,hc,n,hd⟩:=pu;exact ⟨p,o,n,t,t',rfl,ho,hc,hd⟩
theorem zoN {prog:Program}{w:World}{A:Around}{E:Value→Shared→Prop}{s:Shared}{x y:Int}{t u:Tok}{Q:Bool→Shared→Prop}(b:Bool)(h:Q (decide (x < y)) s):wpAny (model prog w) A (oneLt' b (.int x t) (.int y u)) Q E s:=by
 cases b with
 | true=>
  rw[← keyLt'_oneType];exact PySem.W.kat_lt_int h
 | false=>exact PySem.W.kat_one _ _ (lt_int h)
instance:Srt (Int×Int) where
 blt:=pLt
 irrefl:=fun a=>by rw[ziV];omega
 trans:=fun a b c h1 h2=>by
  rw[zcN]at *;omega
 negTrans:=fun a b c h=>by
  rw[zcN]at *;rw[zcN];omega
 total:=fun a b h1 h2=>by
  rw[ziV]at *;obtain ⟨a1,a2⟩:=a;obtain ⟨b1,b2⟩:=b;have:a1=b1∧a2=b2:=by dsimp only at *;omega
  rw[this.1,this.2]
 kd:=tuples' true
 one:=(0,0)
 lt:=fun {X pins σ H s A a b x y u v Q E} I h1 h2 r1 r2 q=>by
  obtain ⟨p,o,n,t1,t2,rfl,ho,hc,hd⟩:=zhA I h1 r1;obtain ⟨p',o',n',t3,t4,rfl,ho',hc',hd'⟩:=zhA I h2 r2;refine PySem.W.kat_lt ho hd ho' hd' ?_;show PySem.W.KatLex X.prog X.w A true _ Q [(.int a.1 t1,.int b.1 t3),(.int a.2 t2,.int b.2 t4)] 0 s;refine PySem.W.kat_cons (EqAt.int_int a.1 t1 b.1 t3 _ _ _ _ (PySem.W.kat_go (fun e=>PySem.W.kat_yes ?_) (fun e=>PySem.W.kat_no ?_)))
  ·have e1:a.1=b.1:=eq_of_beq e;refine PySem.W.kat_cons (EqAt.int_int a.2 t2 b.2 t4 _ _ _ _ (PySem.W.kat_go (fun e=>PySem.W.kat_yes (PySem.W.kat_nil ?_)) (fun e=>PySem.W.kat_no (zoN _ ?_))))
   ·have e2:a.2=b.2:=eq_of_beq e;have z:pLt a b=false:=by rw[ziV];omega
    rw[z]at q;exact q
   ·have z:pLt a b=decide (a.2 < b.2):=by
     unfold pLt;rw[yaq (by omega:¬ a.1 < b.1),yah e1];rfl
    rw[z]at q;exact q
  ·have e1:¬ a.1=b.1:=fun z=>by rw[z]at e;simp at e
   refine zoN _ ?_;have z:pLt a b=decide (a.1 < b.1):=by
    unfold pLt;rw[yaq e1];simp
   rw[z]at q;exact q
 kind:=fun {X pins σ H s A as xs us Q E} I h r hl q=>by
  have go:∀{as:List (Int×Int)} {xs:List V} {us:List Value},zar X.K H as xs→Vals xs us→∃ fs,PySem.W.KatTups s.heap us fs∧fs.length=us.length∧∀ v∈fs,∃ i t,v=Value.int i t:=by
   intro as
   induction as with
   | nil=>
    intro xs us h r;cases h
    cases r
    exact ⟨[],.nil,rfl,fun _ z=>nomatch z⟩
   | cons a as ih=>
    intro xs us h r;cases h with
    | cons h1 h2=>
     cases r with
     | cons r1 r2=>
      obtain ⟨fs,f1,f2,f3⟩:=ih h2 r2;obtain ⟨p,o,n,t,t',rfl,ho,hc,hd⟩:=zhA I h1 r1;refine ⟨.int a.1 t::fs,PySem.W.KatTups.cons ho hc hd rfl f1,by rw[yaI,yaI,f2],fun v hv=>?_⟩;rcases yat.mp hv with z | z
      ·exact ⟨_,_,z⟩
      ·exact f3 v z
  obtain ⟨fs,f1,f2,f3⟩:=go h r;refine PySem.W.kat_kind (T:=.type "int") f1 (by omega) (fun v hv=>?_) (by decide) ?_
  ·obtain ⟨i,t,rfl⟩:=f3 v hv;exact PySem.W.Looks.of_pure rfl
  ·exact q
end L2
namespace L2
open PySem PySem.Spec PyProof.Rows
section
variable {X:Cx}
theorem zhw {x:Str}{i:Int}{pos:Pos}(hg:Gl X x)(hm:∃ t,X.mg x=some (.int i t))(hd:(x == ("__debug__" : Str))=false:=by decide):PE X (.Name x pos) (tC (.int i)):=by
 obtain ⟨t,e⟩:=hm;exact zpp hg e ⟨t,rfl⟩ hd
end
theorem zbz {K:Frag}{a D:Addr}{xs:List V}{g:TG}{ts:TT}{te:TE}{σ:St}{H:Hp}{Q:Hp→Prop}(Pv:Nat→St→Hp→Prop)(h0:Pv 0 σ H)(hl:∀ i σ H,i≤xs.length→Pv i σ H→SqL K H a xs)
  (hs:∀ i m x σ H,xs[i]?=some x→i+m=xs.length→Pv i σ H→g x σ H fun σ2 H2=>ts σ2 H2 fun b H3=>if b=true then te σ2 H3 fun y H4=>∃ zs,H4 D=some (.lst zs)∧zs.length < sizeLine∧∃ m',m' < m∧(i+1+m'=xs.length∧Pv (i+1) σ2 (upd H4 D (.lst (zs++[y])))) else ∃ m',m' < m∧(i+1+m'=xs.length∧Pv (i+1) σ2 H3))
  (hd:∀ σ H,Pv xs.length σ H→Q H) :
  ∃ W:Nat→Nat→St→Hp→Prop,(∃ m,W 0 m σ H)∧∀ i m σ H,W i m σ H→((Itl K a).stop i H∧Q H)∨((Itl K a).go i H∧∀ x H',(Itl K a).yld i H x H'→g x σ H' fun σ2 H2=>ts σ2 H2 fun b H3=>if b=true then te σ2 H3 fun y H4=>∃ xs,H4 D=some (.lst xs)∧xs.length < sizeLine∧∃ m',m' < m∧W (i+1) m' σ2 (upd H4 D (.lst (xs++[y]))) else ∃ m',m' < m∧W (i+1) m' σ2 H3):=by
 refine ⟨fun i m σ H=>i+m=xs.length∧Pv i σ H,⟨xs.length,by omega,h0⟩,fun i m σ H zq0=>?_⟩;obtain ⟨e,pv⟩:=zq0;have hS:=hl i σ H (by omega) pv;by_cases hi:i < xs.length
 ·refine .inr ⟨⟨xs,xs[i],hS,yac hi⟩,fun x H' y=>?_⟩;obtain ⟨e1,y⟩:=y;subst e1;exact hs i m x σ _ (y xs hS) e pv
 ·have:i=xs.length:=by omega
  subst this;exact .inl ⟨⟨xs,hS,yaa _⟩,hd σ H pv⟩
theorem zck {lo:Int}{n:Nat}{D:Addr}{g:TG}{ts:TT}{te:TE}{σ:St}{H:Hp}{Q:Hp→Prop}(Pv:Nat→St→Hp→Prop)(h0:Pv 0 σ H)
  (hs:∀ i m σ H,i+m=n→i < n→Pv i σ H→g (.int (lo+i)) σ H fun σ2 H2=>ts σ2 H2 fun b H3=>if b=true then te σ2 H3 fun y H4=>∃ zs,H4 D=some (.lst zs)∧zs.length < sizeLine∧∃ m',m' < m∧(i+1+m'=n∧Pv (i+1) σ2 (upd H4 D (.lst (zs++[y])))) else ∃ m',m' < m∧(i+1+m'=n∧Pv (i+1) σ2 H3))
  (hd:∀ σ H,Pv n σ H→Q H) :
  ∃ W:Nat→Nat→St→Hp→Prop,(∃ m,W 0 m σ H)∧∀ i m σ H,W i m σ H→((Itr lo n).stop i H∧Q H)∨((Itr lo n).go i H∧∀ x H',(Itr lo n).yld i H x H'→g x σ H' fun σ2 H2=>ts σ2 H2 fun b H3=>if b=true then te σ2 H3 fun y H4=>∃ xs,H4 D=some (.lst xs)∧xs.length < sizeLine∧∃ m',m' < m∧W (i+1) m' σ2 (upd H4 D (.lst (xs++[y]))) else ∃ m',m' < m∧W (i+1) m' σ2 H3):=by
 refine ⟨fun i m σ H=>i+m=n∧Pv i σ H,⟨n,by omega,h0⟩,fun i m σ H zq0=>?_⟩;obtain ⟨e,pv⟩:=zq0;by_cases hi:i < n
 ·refine .inr ⟨hi,fun x H' y=>?_⟩;obtain ⟨e1,y⟩:=y;subst e1 y;exact hs i m σ _ e hi pv
 ·have:i=n:=by omega
  subst this;exact .inl ⟨yaa _,hd σ H pv⟩
end L2
namespace L2
open PySem PySem.Spec PyProof.Rows
theorem zfC:∀{ns:List Int} {us:List Value},Vals (ns.map V.int) us→IntsAre us ns
 | [],_,.nil=>.nil
 | n::_,_,.cons ⟨t,e⟩ q=>by
  subst e;exact .cons n t (zfC q)
end L2
namespace L2
open PySem PySem.Spec PyProof.Rows
section
variable {X:Cx}
theorem zid:OpR X (compareOp .IsNot) (fun x y H Q=>∃ b c,x=.bl b∧y=.bl c∧Q (.bl (b != c)) H):=by
 intro pins s σ H x y v u Q I rx ry h;obtain ⟨b,c,rfl,rfl,q⟩:=h;cases rx
 cases ry
 exact isnot_bool ⟨.bl _,H,I,rfl,q⟩
end
theorem zqU:kitO "str" "int" = some false:=by decide +kernel
theorem zqW:kitO "NoneType" "int" = some false:=by decide +kernel
theorem zqS:kitO "tuple" "int" = some false:=by decide +kernel
theorem zqX:kitO "list" "int" = some false:=by decide +kernel
theorem zkg:kitO "tuple" "tuple" = some true:=by decide +kernel
end L2
namespace L2
theorem zcK {i:Nat}{x:V}{σ:St}{H:Hp}{A B:St→Hp→Prop}(h:A (σ.set i (some x)) H):zhN i x σ H fun σ2 H2=>tYes σ2 H2 fun b H3=>if b=true then A σ2 H3 else B σ2 H3:=by
 show (if true=true then A (σ.set i (some x)) H else B (σ.set i (some x)) H)
 rw[if_pos rfl];exact h
end L2
namespace L2
open PySem PySem.Spec PyProof.Rows
theorem zgL:∀{bs:List Bool} {us:List Value},Vals (bs.map V.bl) us→us=bs.map Value.bool
 | [],_,.nil=>rfl
 | b::_,_,.cons e q=>by
  have e:_=Value.bool b:=e;rw[e,zgL q];rfl
section
variable {X:Cx}
theorem zgx (hc:X.calm=true):zey X (.builtin "all") (fun xs H Q=>∃(p:Addr) (bs:List Bool),xs=[.ref p]∧SqL X.K H p (bs.map V.bl)∧Q (.bl (bs.all id)) H):=by
 intro pins s σ H xs us Q I r h;obtain ⟨p,bs,rfl,hq,q⟩:=h;obtain ⟨u,rfl,rx⟩:=zgF r;cases rx
 obtain ⟨its,rv,pl,_⟩:=I.list hq;have e:=zgL rv;subst e;have hl:=pl.isList;have hlt:p < s.heap.objs.size:=by obtain ⟨_,e,_⟩:=hl;exact yag e
 refine call_all_walk (wpAny_pyIter_list hl ?_);refine ⟨s.heap.objs.size,[s.heap.objs.size,p],[s.heap.objs.size],(bs.map Value.bool).toArray.size,_,_,fun i=>(bs[i]?).getD true,rfl,Walks.list (A:=X.A.in1) (I.ok.hd hc) _ p (yas hlt) _,
  ⟨⟨_,yaK _ rfl,rfl,rfl⟩,hl.push _⟩,fun i v s' Q' E' hP hQ=>?_,fun h' tk hk=>?_⟩
 ·have hP:(bs.map Value.bool)[i]?=some v:=by simpa using hP
  rw[yal]at hP;cases e:bs[i]? with
  | none=>rw[e]at hP;cases hP
  | some b=>
   rw[e]at hP;cases hP
   simp only[e,Option.getD_some]at hQ;exact wpAny_truthy_bool hQ
 ·have e:((List.range (bs.map Value.bool).toArray.size).all fun i=>(bs[i]?).getD true)=bs.all id:=by
   rw[yav,yab];exact PyProof.Rows.LSm.range_all bs
  rw[e];have kk:∀ b o,s.heap.get? b=some o→h'.get? b=some o:=fun b o eb=>hk b o (fun hm=>by rw[yam.mp hm]at eb;exact yaY _ (yag eb)) (yan _ eb);have I':Inv X pins σ H { s with heap:=h',toks:=tk }:=I.kept (t':=tk) kk;exact ⟨.bl _,H,I',rfl,q⟩
end
end L2
namespace L2
open PySem PySem.Spec PyProof.Rows
section
variable {X:Cx}{K:Frag}
theorem zkj (h:X.K=K:=by rfl):IxR X (rIxL K):=by
 subst h;exact zaz
theorem zgl (h:X.K=K:=by rfl):IxR X (rIxT K):=by
 subst h;exact zaN
end
end L2
namespace L2
open PySem PySem.Spec PyProof.Rows
theorem zlp {c:TT}{tb:TS}{D:Ends}{σ:St}{H:Hp}(Pv Pe:St→Hp→Prop)(μ:St→Hp→Nat)(h0:Pv σ H)
  (hs:∀ σ H,Pv σ H→c σ H fun b H1=>if b=true then tb { D with nx:=fun σ' H'=>Pv σ' H'∧μ σ' H' < μ σ H,ct:=fun σ' H'=>Pv σ' H'∧μ σ' H' < μ σ H,bk:=D.nx } σ H1 else Pe σ H1)
  (mono:∀ σ H Q Q',(∀ b H1,Q b H1→Q' b H1)→c σ H Q→c σ H Q') (he:∀ σ H,Pe σ H→D.nx σ H):zlB c tb D σ H:=by
 refine zjx Pv μ h0 (fun σ H p=>mono σ H _ _ (fun b H1 q=>?_) (hs σ H p)) mono;cases b with
 | true=>exact q
 | false=>exact he _ _ q
def zqb (c:TT):Prop:=∀ σ H Q Q',(∀ b H1,Q b H1→Q' b H1)→c σ H Q→c σ H Q'
theorem zlE {a b:TT}(ha:zqb a)(hb:zqb b):zqb (tAnd a b):=fun σ H Q Q' m h=>ha σ H _ _ (fun c H1 q=>by
 cases c with
 | false=>exact m _ _ q
 | true=>exact hb σ H1 Q Q' m q) h
section
variable {X:Cx}{K:Frag}
theorem ze7 (h:X.K=K:=by rfl):OpR X (compareOp .NotIn) (rIn K true):=by
 subst h;exact zdA
theorem zlZ {es:List Expr}{k:Nat}{t:TGs}{n:Nat}{pos:Pos}(hc:X.calm=true)(h:PGs X es t)(hK:X.K=K:=by rfl)
  (hn:(assignEach es X.env).length=n:=by rfl) (hst:(assignEach es X.env).findIdx? (·.1)=none:=by rfl):PG X (.Tuple es k pos) (gTup K n t):=by
 subst hK;exact zge hc h hn hst
end
theorem zoh {K:Frag}{a b D:Addr}{xs ys:List V}{g:TG}{ts:TT}{te:TE}{σ:St}{H:Hp}{Q:Hp→Prop}(hlen:xs.length=ys.length)(Pv:Nat→St→Hp→Prop)(h0:Pv 0 σ H)(hl:∀ i σ H,i≤xs.length→Pv i σ H→SqL K H a xs∧SqL K H b ys)
  (hs:∀ i m x y σ H r,xs[i]?=some x→ys[i]?=some y→i+m=xs.length→Pv i σ H→H r=none→g (.ref r) σ (upd H r (.tup [x,y])) fun σ2 H2=>ts σ2 H2 fun b H3=>if b=true then te σ2 H3 fun y H4=>∃ zs,H4 D=some (.lst zs)∧zs.length < sizeLine∧∃ m',m' < m∧(i+1+m'=xs.length∧Pv (i+1) σ2 (upd H4 D (.lst (zs++[y])))) else ∃ m',m' < m∧(i+1+m'=xs.length∧Pv (i+1) σ2 H3))
  (hd:∀ σ H,Pv xs.length σ H→Q H) :
  ∃ W:Nat→Nat→St→Hp→Prop,(∃ m,W 0 m σ H)∧∀ i m σ H,W i m σ H→((Itz K a b).stop i H∧Q H)∨((Itz K a b).go i H∧∀ x H',(Itz K a b).yld i H x H'→g x σ H' fun σ2 H2=>ts σ2 H2 fun b H3=>if b=true then te σ2 H3 fun y H4=>∃ xs,H4 D=some (.lst xs)∧xs.length < sizeLine∧∃ m',m' < m∧W (i+1) m' σ2 (upd H4 D (.lst (xs++[y]))) else ∃ m',m' < m∧W (i+1) m' σ2 H3):=by
 refine ⟨fun i m σ H=>i+m=xs.length∧Pv i σ H,⟨xs.length,by omega,h0⟩,fun i m σ H zq0=>?_⟩;obtain ⟨e,pv⟩:=zq0;obtain ⟨hS,hS'⟩:=hl i σ H (by omega) pv;by_cases hi:i < xs.length
 ·refine .inr ⟨⟨xs,ys,xs[i],ys[i]'(by omega),hS,hS',yac hi,yac (by omega)⟩,fun x H' y=>?_⟩;obtain ⟨p,z,z',rfl,hp,hz,hz',rfl⟩:=y;exact hs i m z z' σ H p (hz xs hS) (hz' ys hS') e pv hp
 ·have:i=xs.length:=by omega
  subst this;exact .inl ⟨⟨xs,ys,hS,hS',.inl (yaa _)⟩,hd σ H pv⟩
end L2
namespace L2
open PySem PySem.Spec PyProof.Rows
section
variable {X:Cx}
theorem zm7 (hc:X.calm=true):zey X (.builtin "min") (fun xs H Q=>∃(p:Addr) (ns:List Int),xs=[.ref p]∧SqL X.K H p (ns.map V.int)∧0 < ns.length∧∀ M,M∈ns→(∀ a,a∈ns→M≤a)→Q (.int M) H):=by
 intro pins s σ H xs us Q I r h;obtain ⟨p,ns,rfl,hq,hne,q⟩:=h;obtain ⟨u,rfl,rx⟩:=zgF r;cases rx
 obtain ⟨its,rv,pl,_⟩:=I.list hq;have hi:=zfC rv;obtain ⟨xs,hx⟩:=hi.allInts.items;have hl':s.heap.IsList p (intItems xs):=hx ▸ pl.isList;have e1:ns=xs.toList.map (·.1):=by
  rw[← nums_intItems,← hx];exact (show numsOf its.toArray.toList=ns from hi.numsOf).symm
 have hsz:0 < xs.size:=by
  rw[e1,yab,yau]at hne;exact hne
 refine min_intList (I.ok.hd hc) hl' hsz fun v h' tk hv hk=>?_;obtain ⟨t,rfl⟩:=intItems_at hv;obtain ⟨h1,h2⟩:=argBest_lt (numAt xs) (xs.size - 1);refine ⟨.int _,H,Inv.kept (t':=tk) I hk,⟨t,rfl⟩,q _ ?_ fun a ha=>?_⟩
 ·rw[e1,numAt_eq];rw[yad,yac (by rw[yab,yau];omega)];exact yay _
 ·rw[e1]at ha;obtain ⟨j,hj,rfl⟩:=mem_getD ha;rw[yab,yau]at hj;rw[← numAt_eq];exact h2 j (by omega)
end
theorem zed {K:Frag}{a D:Addr}{xs:List V}{g:TG}{ts:TT}{te:TE}{σ:St}{H:Hp}{Q:Hp→Prop}(Pv:Nat→St→Hp→Prop)(h0:Pv 0 σ H)(hl:∀ i σ H,i≤xs.length→Pv i σ H→SqT K H a xs)
  (hs:∀ i m x σ H,xs[i]?=some x→i+m=xs.length→Pv i σ H→g x σ H fun σ2 H2=>ts σ2 H2 fun b H3=>if b=true then te σ2 H3 fun y H4=>∃ zs,H4 D=some (.lst zs)∧zs.length < sizeLine∧∃ m',m' < m∧(i+1+m'=xs.length∧Pv (i+1) σ2 (upd H4 D (.lst (zs++[y])))) else ∃ m',m' < m∧(i+1+m'=xs.length∧Pv (i+1) σ2 H3))
  (hd:∀ σ H,Pv xs.length σ H→Q H) :
  ∃ W:Nat→Nat→St→Hp→Prop,(∃ m,W 0 m σ H)∧∀ i m σ H,W i m σ H→((Itt K a).stop i H∧Q H)∨((Itt K a).go i H∧∀ x H',(Itt K a).yld i H x H'→g x σ H' fun σ2 H2=>ts σ2 H2 fun b H3=>if b=true then te σ2 H3 fun y H4=>∃ xs,H4 D=some (.lst xs)∧xs.length < sizeLine∧∃ m',m' < m∧W (i+1) m' σ2 (upd H4 D (.lst (xs++[y]))) else ∃ m',m' < m∧W (i+1) m' σ2 H3):=by
 refine ⟨fun i m σ H=>i+m=xs.length∧Pv i σ H,⟨xs.length,by omega,h0⟩,fun i m σ H zq0=>?_⟩;obtain ⟨e,pv⟩:=zq0;have hS:=hl i σ H (by omega) pv;by_cases hi:i < xs.length
 ·refine .inr ⟨⟨xs,xs[i],hS,yac hi⟩,fun x H' y=>?_⟩;obtain ⟨e1,y⟩:=y;subst e1;exact hs i m x σ _ (y xs hS) e pv
 ·have:i=xs.length:=by omega
  subst this;exact .inl ⟨⟨xs,hS,yaa _⟩,hd σ H pv⟩
end L2
namespace L2
open PySem PySem.Spec PyProof.Rows
def Itv (K:Frag)(a:Addr)(n:Nat):It:=
 ⟨fun i H=>i < n∧∃ xs,SqL K H a xs∧xs.length=n,fun i H x H'=>H'=H∧∀ xs,SqL K H a xs→xs.length=n→xs.reverse[i]?=some x,fun i _=>i=n⟩
theorem znl {P:Program}{w:World}{K:Frag}{tg:Expr}(a it:Addr)(n:Nat):Turn P w K tg (Itv K a n) [it] it (fun i h=>h.IsRevIter it a ((n:Int) - 1 - (i:Int))) where
 mem:=by simp
 obj:=fun i h st b hb=>by
  have e:b=it:=by simpa using hb
  subst e;obtain ⟨o,e,c,d⟩:=st;exact ⟨o,e,fun v z=>by rw[d]at z;cases z⟩
 keep:=fun i h h' st k=>st.at fun o e=>k it (by simp) o e
 item:=by
  intro X hP hw hK hc i pins s σ H E I hf st hg;subst hP hw hK;obtain ⟨hi,xs,hq,hn⟩:=hg;obtain ⟨its,rv,p,hz⟩:=I.list hq;have hx:xs[n - 1 - i]?=some (xs[n - 1 - i]'(by omega)):=yac (by omega);obtain ⟨u,hu,ru⟩:=rv.get hx;obtain ⟨f0,f1,f2,f3,f4,f5⟩:=hf it (by simp);have e1:(n:Int) - 1 - (i:Int)=((n - 1 - i:Nat):Int):=by omega
  rw[e1]at st;refine wpAny_pyNext_rev_item st p.isList (x:=u) (by simpa using hu) fun h' st' sb=>?_;have e2:((n - 1 - i:Nat):Int) - 1=(n:Int) - 1 - ((i+1:Nat):Int):=by omega
  rw[e2]at st';have I1:Inv X pins σ H { s with heap:=h' }:=I.turned (t':=s.toks) (fun b o hb e=>(sb.2 b hb).trans e) f0 f1 f3 f4 f5;obtain ⟨o,e,c,d⟩:=id st';refine ⟨u,rfl,zmN (s:={ s with heap:=h' }) e c d (by decide) ⟨xs[n - 1 - i]'(by omega),H,I1,ru,⟨rfl,fun ys hy hyn=>?_⟩,st',fun b hb=>(hf b hb).1⟩⟩;rw[I.list_inj hy hq,ycz (by omega),show xs.length - 1 - i=n - 1 - i by omega];exact hx
 done:=by
  intro X hP hw hK hc i pins s σ H E I hf st hg;subst hP hw hK;have hi:i=n:=hg;subst hi;obtain ⟨f0,f1,f2,f3,f4,f5⟩:=hf it (by simp);have e1:(i:Int) - 1 - (i:Int) = -1:=by omega
  rw[e1]at st;exact wpAny_pyNext_rev_end (I.ok.hd hc) st fun h' eb=>⟨rfl,I.turned (t':=s.toks) (fun b o hb e=>eb b o hb e) f0 f1 f3 f4 f5⟩
 self:=fun _ _ _ _ _ st h=>wpAny_pyIter_revIter st h
def iRev (K:Frag)(ta:TA):TI:=fun σ H R=>ta σ H fun vs H1=>∃ a xs,vs=[.ref a]∧SqL K H1 a xs∧R (Itv K a xs.length) H1
section
variable {X:Cx}
theorem ziU {tg:Expr}{a:Expr}{ta:TA}{p pos:Pos}(hg:Gl X "reversed")(hm:X.mg "reversed" = none)(ha:PA X [a] ta)(hs:starEach [a] X.env=[(false,eval a X.env)]:=by rfl):PI X tg (.Call (.Name "reversed" p) [a] [] pos) (iRev X.K ta):=by
 intro pins s σ H R I h;refine Call_ (zfc I hg hm boot_reversed (PyProof.Rows.callWith_type1 (thn (ha pos pins s σ H _ I h) fun us s1 zq0=>?_) hs rfl));obtain ⟨vs,H1,I1,r1,q1⟩:=zq0;obtain ⟨l,xs,e,hq,q⟩:=q1;subst e;cases r1 with
 | cons r rr=>
  cases rr
  cases r
  obtain ⟨its,rv,pl,hz⟩:=I1.list hq;have hl:=rv.length;refine call_reversed_list pl.isList ?_;have I2:Inv X pins σ H1 { s1 with heap:=s1.heap.push (revObj l ((its.toArray.size:Int) - 1)) }:=I1.kept (t':=s1.toks) fun b o e=>yan _ e;have hr:(s1.heap.push (revObj l ((its.toArray.size:Int) - 1))).IsRevIter s1.heap.objs.size l (((xs.length:Nat):Int) - 1 - ((0:Nat):Int)):=by
   refine ⟨_,yaK _ rfl,rfl,?_⟩;have:(its.toArray.size:Int) - 1=((xs.length:Nat):Int) - 1 - ((0:Nat):Int):=by
    rw[yav,hl];omega
   rw[this];rfl
  refine wpAny_pyIter_revIter (s:={ s1 with heap:=s1.heap.push (revObj l ((its.toArray.size:Int) - 1)) }) hr ⟨_,[s1.heap.objs.size],_,_,H1,rfl,I2,znl l s1.heap.objs.size xs.length,hr,fun b hb=>?_,q⟩;have e:b=s1.heap.objs.size:=by simpa using hb
  subst e;exact I1.fpOk (yaa _) (I1.hok.fresh (yaa _))
end
theorem zpV {K:Frag}{a:Addr}{xs:List V}{g:TG}{tb:TS}{D:Ends}{σ:St}{H:Hp}(Pv:Nat→St→Hp→Prop)(h0:Pv 0 σ H)(hl:∀ i σ H,i≤xs.length→Pv i σ H→SqL K H a xs)
  (hs:∀ i x σ H,xs.reverse[i]?=some x→Pv i σ H→g x σ H fun σ2 H2=>tb { D with nx:=Pv (i+1),ct:=Pv (i+1),bk:=D.nx } σ2 H2) (hd:∀ σ H,Pv xs.length σ H→D.nx σ H) :
  ∃ W:Nat→Nat→St→Hp→Prop,(∃ m,W 0 m σ H)∧∀ i m σ H,W i m σ H→((Itv K a xs.length).stop i H∧D.nx σ H)∨((Itv K a xs.length).go i H∧∃ N:St→Hp→Prop,(∀ σ' H',N σ' H'→∃ m',m' < m∧W (i+1) m' σ' H')∧∀ x H',(Itv K a xs.length).yld i H x H'→g x σ H' fun σ2 H2=>tb { D with nx:=N,ct:=N,bk:=D.nx } σ2 H2):=by
 refine ⟨fun i m σ H=>i+m=xs.length∧Pv i σ H,⟨xs.length,by omega,h0⟩,fun i m σ H zq0=>?_⟩;obtain ⟨e,pv⟩:=zq0;have hS:=hl i σ H (by omega) pv;by_cases hi:i < xs.length
 ·refine .inr ⟨⟨hi,xs,hS,rfl⟩,Pv (i+1),fun σ' H' q=>⟨m - 1,by omega,by omega,q⟩,fun x H' y=>?_⟩;obtain ⟨e1,y⟩:=y;subst e1;exact hs i x σ _ (y xs hS rfl) pv
 ·have:i=xs.length:=by omega
  subst this;exact .inl ⟨rfl,hd σ H pv⟩
end L2
namespace L2
open PySem PySem.Spec PyProof.Rows
theorem zlU {P:Program}{w:World}{k:Key}{u:Value}(h:(zaM P w).is k u=true):RelV (kV k) u:=by
 rw[zk2]at h;rcases za0 h with ⟨i,t,rfl,rfl⟩ | ⟨x,t,rfl,rfl⟩
 ·exact ⟨t,rfl⟩
 ·exact ⟨t,rfl⟩
section
variable {X:Cx}
theorem zlg (hc:X.calm=true):zey X (.type "list") (fun xs H Q=>∃(p:Addr) (kvs:List (Key×V)),xs=[.ref p]∧H p=some (.dK kvs)∧∀ l,H l=none→Q (.ref l) (upd H l (.lst (kvs.map fun kv=>kV kv.1)))):=by
 intro pins s σ H xs us Q I r h;obtain ⟨p,kvs,rfl,hq,q⟩:=h;obtain ⟨u,rfl,rx⟩:=zgF r;cases rx
 obtain ⟨hz,hne,vs,rel,o,es,ep,h1,h2,h3,h4,h5,h6⟩:=zp0 I.hok hq;have hlen:kvs.length=vs.length:=rel.length;refine PySem.W.kdl_call (PySem.W.kdl_dict (knd:=zaM X.prog X.w) (kvs:=vs) (ep:=ep) hne) (I.ok.hd hc) ⟨o,es,h1,h2,h3,h4,h5,h6⟩ (by omega) fun h' tk acc c k e hi=>?_;have hv:Vals (kvs.map fun kv=>kV kv.1) acc.toList:=by
  obtain ⟨g1,g2⟩:=hi;have key:∀(m:Nat) (kvs:List (Key×V)) (vs:List (Key×Value)) (us:List Value),KV kvs vs→us.length=vs.length→(∀(i:Nat) (v:Value),us[i]?=some v→∃ k x,vs[i]?=some (k,x)∧(zaM X.prog X.w).is k v=true)→Vals (kvs.map fun kv=>kV kv.1) us:=by
   intro m kvs
   induction kvs with
   | nil=>
    intro vs us r hl _;cases r
    have:us=[]:=ybJ hl;subst this;exact .nil
   | cons kv kvs ih=>
    intro vs us r hl hh;cases r with
    | cons a b=>
     cases us with
     | nil=>cases hl
     | cons v us=>
      refine .cons ?_ (ih _ us b (Nat.succ.inj hl) fun i v e=>?_)
      ·obtain ⟨k,x,e1,e2⟩:=hh 0 v rfl;cases e1
       have h9:=zlU e2;have a1:kv.1=k:=a.1;rw[← a1]at h9;exact h9
      ·have:=hh (i+1) v (by simpa using e);simpa using this
  refine key 0 kvs vs acc.toList rel (by rw[yau];exact g1) fun i v e=>?_;exact g2 i v (by rw[← ybc];exact e)
 refine ⟨.ref s.heap.objs.size,_,I.laid (a:=s.heap.objs.size) (o:=.lst (kvs.map fun kv=>kV kv.1)) (t':=tk) k (yaa _) ⟨?_,acc.toList,c,hv,by rw[Array.toArray_toList];exact e⟩,rfl,q _ (I.hok.fresh (yaa _))⟩;rw[yab];omega
end
end L2
namespace L2
open PySem PySem.Spec PyProof.Rows
def iSeq (K:Frag)(tl:TE):TI:=fun σ H R=>tl σ H fun x H1=>∃ a,x=.ref a∧((∃ xs,SqL K H1 a xs)∧R (Itl K a) H1∨(∃ xs,SqT K H1 a xs)∧R (Itt K a) H1)
section
variable {X:Cx}{tg:Expr}
theorem zqA {l:Expr}{tl:TE}(hl:PE X l tl):PI X tg l (iSeq X.K tl):=by
 intro pins s σ H R I h;refine thn (hl pins s σ H _ I h) fun v s1 zq0=>?_;obtain ⟨x,H1,I1,r1,a,e,q1⟩:=zq0;subst e;cases r1
 have new:∀ b∈[s1.heap.objs.size],FpOk X pins H1 b:=fun b hb=>by
  rw[yam.mp hb];exact I1.fpOk (yaa _) (I1.hok.fresh (yaa _))
 rcases q1 with ⟨⟨xs,hq⟩,q⟩ | ⟨⟨xs,hq⟩,q⟩
 ·obtain ⟨its,rv,p,hz⟩:=I1.list hq;exact wpAny_pyIter_list p.isList ⟨s1.heap.objs.size,[s1.heap.objs.size],_,_,H1,rfl,Inv.kept (t':=s1.toks) I1 (fun b o e=>yan _ e),zhZ a _,⟨_,yaK _ rfl,rfl,rfl⟩,new,q⟩
 ·obtain ⟨its,rv,p,hz⟩:=I1.tuple hq;exact wpAny_pyIter_tuple (show s1.heap.IsTuple a its.toArray from p) ⟨s1.heap.objs.size,[s1.heap.objs.size],_,_,H1,rfl,Inv.kept (t':=s1.toks) I1 (fun b o e=>yan _ e),zgM a _,⟨_,yaK _ rfl,rfl,rfl⟩,new,q⟩
end
end L2
namespace HT
open PySem PySem.Spec PyProof.Rows
section
variable {prog:Program}{w:World}{A:Around}{E:Value→Shared→Prop}{s:Shared}
theorem getItem_tuple_all {t sl:Addr}{items:Array Value}{vl vu:Value}{lo hi:Option Int}{Q:Value→Shared→Prop}(ht:IsTup s.heap t items)(hs:s.heap.IsSliceOf sl vl vu .none)(pl:IsPart vl lo)(pu:IsPart vu hi)
  (hw:sIx items.size 0 lo=0∧sIx items.size items.size hi=items.size) (h:Q (.ref t) s):wpAny (model prog w) A (getItem (.ref t) (.ref sl)) Q E s:=by
 obtain ⟨os,hos,hcs,hds⟩:=id hs;have hTs:s.TypeIs (.ref sl) "slice":=⟨os,hos,hcs⟩;unfold getItem
 try with_reducible refine wpAny_holding ?_
 first | refine wpAny_bind (wpAny_pure ?_) | skip
 refine wpAny_bind (wpAny_sequenceKey ht.typeIs (by decide) ?_);refine wpAny_bind (wpAny_callSpecial?_slot (name:=Str.ofString "__getitem__") ht.typeIs PyProof.Rows.slot_tuple_getitem (wpAny_call_entry PyProof.Rows.slot_tuple_getitem ht.typeIs entry_tuple_getitem ?_ (args_tuple_getitem _ _)));show wpAny _ _ (Builtin.Tuple.tupleItemsOf (.ref t) >>= _) _ _ s;refine wpAny_bind (tupleItemsOf_ ht ?_);refine wpAny_bind (wpAny_typeOf hTs ?_);rw[if_pos (by decide)];refine wpAny_bind (zdi hs pl pu ?_);have yes:(((sIx items.size 0 lo:Nat):Int) == 0 && (1:Int) == 1 && (sIx items.size items.size hi - sIx items.size 0 lo) == items.size)=true:=by
  rw[hw.1,hw.2];simp
 show wpAny _ _ (if (((sIx items.size 0 lo:Nat):Int) == 0 && (1:Int) == 1 && (sIx items.size items.size hi - sIx items.size 0 lo) == items.size)=true then _ else _) _ _ s
 rw[if_pos yes];refine wpAny_bind ?_;unfold Builtin.Tuple.tupleIsExact;refine wpAny_bind (wpAny_typeOf ht.typeIs ?_);refine wpAny_pure ?_;rw[if_pos (by decide)];exact wpAny_bind (wpAny_rule (wpAny_pure ⟨_,rfl,wpAny_pure h⟩))
end
end HT
namespace L2
open PySem PySem.Spec PyProof.Rows
section
variable {X:Cx}
def rSlX (K:Frag):V→Option Int→Option Int→Hp→VK→Prop:=fun x lo hi H Q=>∃ a xs,x=.ref a∧SqT K H a xs∧
 ((HT.sIx xs.length 0 lo=0∧HT.sIx xs.length xs.length hi=xs.length)→Q (.ref a) H)∧(¬ (HT.sIx xs.length 0 lo=0∧HT.sIx xs.length xs.length hi=xs.length)→∀ p,H p=none→Q (.ref p) (upd H p (.tup (cutV xs lo hi))))
theorem zga:SlR X (rSlX X.K):=by
 intro pins s σ H x v vl vu lo hi sl Q I rx hs pl pu h;obtain ⟨a,xs,e,hx,q1,q2⟩:=h;by_cases hw:HT.sIx xs.length 0 lo=0∧HT.sIx xs.length xs.length hi=xs.length
 ·subst e;cases rx
  obtain ⟨its,r,ht,hz⟩:=I.tuple hx;have hlen:its.toArray.size=xs.length:=by rw[yav];exact r.length.symm
  refine ⟨"tuple",_,PyProof.Rows.slot_tuple_getitem.lookup,ht.typeIs,?_⟩;exact HT.getItem_tuple_all ht hs pl pu (by rw[hlen];exact hw) ⟨.ref a,H,I,rfl,q1 hw⟩
 ·exact zqr pins s σ H x v vl vu lo hi sl Q I rx hs pl pu ⟨a,xs,e,hx,hw,q2 hw⟩
def zpj (K:Frag):R2:=fun x y H Q=>∃ a b xs ys,x=.ref a∧y=.ref b∧SqT K H a xs∧SqT K H b ys∧ys≠[]∧xs.length+ys.length≤sizeLine∧
 (xs=[]→Q (.ref b) H)∧(xs≠[]→∀ p,H p=none→Q (.ref p) (upd H p (.tup (xs++ys))))
theorem ziY:OpR X (binaryOp .Add) (zpj X.K):=by
 intro pins s σ H x y v u Q I rx ry h;obtain ⟨a,b,xs,ys,e1,e2,ha,hb,hy,hz,q1,q2⟩:=h;by_cases hx:xs=[]
 ·subst e1 e2;cases rx
  cases ry
  obtain ⟨its,r1,p1,_⟩:=I.tuple ha;obtain ⟨its2,r2,p2,_⟩:=I.tuple hb;obtain ⟨⟨cls,dd,data,sl⟩,ho,hc,n,hd⟩:=id p1;obtain ⟨⟨cls2,dd2,data2,sl2⟩,ho2,hc2,n2,hd2⟩:=id p2;simp only at hc hd hc2 hd2;subst hc hd hc2 hd2;have hv:its=[]:=r1.nil_iff.mpr hx;exact concat_meets ⟨_,ho,rfl⟩ ⟨_,ho2,rfl⟩ noFill_tuple_add seq_tuple_add PySem.F.slot_tuple_add PySem.F.entry_tuple_add (PySem.F.args_tuple_add_2 _ _)
   (tuple_addW0 a b its.toArray its2.toArray n n2 dd dd2 sl sl2 (by simp[hv])) ⟨ho,ho2,.ref b,H,I,rfl,q1 hx⟩
 ·exact zl5 pins s σ H x y v u Q I rx ry ⟨a,b,xs,ys,e1,e2,ha,hb,hx,hz,fun z=>absurd z hy,fun _=>q2 hx⟩
end
end L2
namespace L2
open PySem PySem.Spec PyProof.Rows PySem.SeqAt
structure Tup (α:Type) where
 l:List α
theorem Tup.ext' {α:Type}{a b:Tup α}(h:a.l=b.l):a=b:=by
 cases a
 cases b
 cases h
 rfl
instance {α:Type} [DecidableEq α]:DecidableEq (Tup α):=fun a b=>if h:a.l=b.l then .isTrue (Tup.ext' h) else .isFalse fun z=>h (by rw[z])
def hasT {α:Type}[Rep α](K:Frag)(H:Hp)(t:Tup α)(v:V):Prop:=∃ a xs,v=.ref a∧SqT K H a xs∧zar K H t.l xs
section
variable {α:Type}[r:Rep α]{X:Cx}{pins:List (Addr×Obj)}{σ:St}{H:Hp}{s:Shared}{A:Around}{as bs:Tup α}{x y:V}{u v:Value}
theorem zkm (I:Inv X pins σ H s)(h1:hasT X.K H as x)(h2:hasT X.K H bs x):as=bs:=by
 obtain ⟨a,xs,rfl,q1,h1⟩:=h1;obtain ⟨b,ys,e,q2,h2⟩:=h2;cases e
 rw[I.tuple_inj q2 q1]at h2;exact Tup.ext' (h1.inj I h2)
theorem zly {as bs:List α}(n m:Nat)(hn:as.length=n)(hm:bs.length=m):((List.range (min n m)).all (fun j=>decide (as[j]?=bs[j]?)) && n == m)=decide (as=bs):=by
 by_cases hl:as.length=bs.length
 ·have e:=zfB as bs hl;have z:min n m=as.length:=by omega
  rw[z,e,beq_iff_eq.mpr (by omega:n=m),Bool.and_true]
 ·rw[yaq (fun z=>hl (by rw[z])),beq_eq_false_iff_ne.mpr (by omega:n≠m),Bool.and_false]
theorem zmV:decide (as=bs)=decide (as.l=bs.l):=by
 by_cases h:as.l=bs.l
 ·rw[yah h,yah (Tup.ext' h)]
 ·rw[yaq h,yaq (fun z=>h (by rw[z]))]
theorem zmK (I:Inv X pins σ H s)(hu:A.units+(Rep.depth α+1) < cLine)(h1:hasT X.K H as x)(h2:hasT X.K H bs y)(r1:RelV x u)(r2:RelV y v):RcAt A s u v (decide (as=bs)):=by
 obtain ⟨a,xs,rfl,q1,h1⟩:=h1;obtain ⟨b,ys,rfl,q2,h2⟩:=h2;cases r1
 cases r2
 obtain ⟨us,ru,pu,_⟩:=I.tuple q1;obtain ⟨vs,rv,pv,_⟩:=I.tuple q2;have l1:=ru.length;have l2:=rv.length;have m1:=h1.length;have m2:=h2.length;have hin:A.in1.units+Rep.depth α < cLine:=yba (ybI zcV _) (by omega);have:=RcAt.tuples (A:=A) (s:=s) (l:=a) (b:=b) (items:=us.toArray) (items2:=vs.toArray) (e:=fun j=>decide (as.l[j]?=bs.l[j]?)) pu pv (by omega) (zf7 I hin h1 h2 ru rv);rw[zly (as:=as.l) (bs:=bs.l) us.toArray.size vs.toArray.size (by simp;omega) (by simp;omega),← zmV]at this;exact this
theorem zpO (I:Inv X pins σ H s)(hu:A.units+(Rep.depth α+1) < cLine)(h1:hasT X.K H as x)(h2:hasT X.K H bs y)(r1:RelV x u)(r2:RelV y v):RcNeAt A s u v (!decide (as=bs)):=by
 obtain ⟨a,xs,rfl,q1,h1⟩:=h1;obtain ⟨b,ys,rfl,q2,h2⟩:=h2;cases r1
 cases r2
 obtain ⟨us,ru,pu,_⟩:=I.tuple q1;obtain ⟨vs,rv,pv,_⟩:=I.tuple q2;have l1:=ru.length;have l2:=rv.length;have m1:=h1.length;have m2:=h2.length;have hin:A.in1.units+Rep.depth α < cLine:=yba (ybI zcV _) (by omega);have:=RcNeAt.tuples (A:=A) (s:=s) (l:=a) (b:=b) (items:=us.toArray) (items2:=vs.toArray) (e:=fun j=>decide (as.l[j]?=bs.l[j]?)) pu pv (by omega) (zf7 I hin h1 h2 ru rv);rw[zly (as:=as.l) (bs:=bs.l) us.toArray.size vs.toArray.size (by simp;omega) (by simp;omega),← zmV]at this;exact this
theorem zpP (I:Inv X pins σ H s)(hu:A.units+(Rep.depth α+1) < cLine)(h1:hasT X.K H as x)(h2:hasT X.K H bs y)(r1:RelV x u)(r2:RelV y v):EqAt A s u v (decide (as=bs)):=by
 have rc:=zmK (A:=A) I hu h1 h2 r1 r2;have h1':=id h1;have h2':=id h2;obtain ⟨a,xs,rfl,q1,h1⟩:=h1;obtain ⟨b,ys,rfl,q2,h2⟩:=h2;cases r1
 cases r2
 by_cases hab:a=b
 ·subst hab;rw[yah (zkm I h1' h2')];exact EqAt.same _
 ·exact EqAt.of_refs hab rc
end
instance {α:Type} [Rep α]:Rep (Tup α) where
 dec:=inferInstance
 depth:=Rep.depth α+1
 has:=hasT
 mono:=fun e ⟨a,xs,h1,h2,h3⟩=>⟨a,xs,h1,h2.ext e,h3.mono e⟩
 inj:=fun I h1 h2=>zkm I h1 h2
 rc:=fun I hu h1 h2 r1 r2=>zmK I hu h1 h2 r1 r2
 rn:=fun I hu h1 h2 r1 r2=>zpO I hu h1 h2 r1 r2
 eq:=fun I hu h1 h2 r1 r2=>zpP I hu h1 h2 r1 r2
end L2
namespace L2
open PySem PySem.Spec PyProof.Rows
section
variable {X:Cx}{K:Frag}{tg:Expr}
theorem zpo {l:Expr}{tl:TE}(hl:PE X l tl)(h:X.K=K:=by rfl):PI X tg l (iTup K tl):=by
 subst h;exact zeh hl
end
end L2
namespace L2
open PySem PySem.Spec PyProof.Rows
def zbw (X:Cx)(N:List Str)(scope:Scope)(z:Str)(cl:List (Str×Addr))(C:Addr)(s₂:Shared)(H₂:Hp)(fp:List Addr):Cx:=
 { X with N:=N,s₀:=s₂,H₀:=H₂,env:=compEnvC scope ((z,C+1)::cl) C X.env,outer:=X.stack,stack:=X.stack,ex:=fp,fn:=fun x=>x == z,xe:=fun _ _=>False }
theorem zg9 {n:Nat}{h:Heap}:∀{names:List (Str×NameKind)} {acc:List (Str×Addr)},names.filter (fun y=>y.2 == .cell)=[]→cellsFrom n names acc=acc∧pushCells h names=h
 | [],_,_=>⟨rfl,rfl⟩
 | (x,k)::r,acc,e=>by
  cases hk:k == NameKind.cell with
  | true=>
   rw[ya5 (by exact hk)]at e;cases e
  | false=>
   rw[ybj (by rw[show ((x,k):Str×NameKind).2=k from rfl,hk];decide)]at e;unfold cellsFrom pushCells;rw[hk];exact zg9 e
theorem zgw {n:Nat}{h:Heap}{z:Str}:∀{names:List (Str×NameKind)} {acc:List (Str×Addr)},names.filter (fun y=>y.2 == .cell)=[(z,.cell)]→cellsFrom n names acc=(z,n)::acc∧pushCells h names=h.push { cls:=.type "cell",data:=.cell none }
 | [],_,e=>by cases e
 | (x,k)::r,acc,e=>by
  cases hk:k == NameKind.cell with
  | true=>
   rw[ya5 (by exact hk)]at e;obtain ⟨e1,e2⟩:=List.cons.inj e;have e3:x=z:=congrArg Prod.fst e1;subst e3;unfold cellsFrom pushCells;rw[hk];exact zg9 e2
  | false=>
   rw[ybj (by rw[show ((x,k):Str×NameKind).2=k from rfl,hk];decide)]at e;unfold cellsFrom pushCells;rw[hk];exact zgw e
theorem zpZ {M:Model}{A:Around}{E:Value→Shared→Prop}{s:Shared}{scope:Scope}{z:Str}{globals:Addr}{closure:List (Str×Addr)}{qual:Str}{env:Env}{Q:Env→Shared→Prop}
  (one:scope.names.filter (fun y=>y.2 == .cell)=[(z,.cell)])
  (hQ:Q { scope,locals:=s.heap.objs.size,globals,cells:=(z,s.heap.objs.size+1)::closure,qual,func:=none,code:=env.code,frame:=env.frame,builtins:=env.builtins } { s with heap:=(s.heap.push { cls:=.type "dict",data:=.dict #[] }).push { cls:=.type "cell",data:=.cell none } }) :
  wpAny M A (newFunctionEnv scope globals closure [] qual none .none (some env)) Q E s:=by
 simp only[newFunctionEnv,Option.isSome_some,if_true];refine wpAny_bind (wpAny_alloc ?_);refine wpAny_bind (wpAny_layCells _ (fun name kind cells=>by cases hkc:kind == NameKind.cell <;> simp[hkc]) _ _ _ _ ?_)
 rw[show ({ s with heap:=s.heap.push { cls:=.type "dict",data:=.dict #[] } }:Shared).heap.objs.size=s.heap.objs.size+1 from ybZ ..];rw[(zgw (n:=s.heap.objs.size+1) (h:=s.heap) one).1,(zgw (n:=0) (h:=s.heap.push { cls:=.type "dict",data:=.dict #[] }) (acc:=[]) one).2];refine wpAny_bind ?_;rw[List.forIn_nil];exact wpAny_pure (wpAny_pure hQ)
theorem zfs {env:Env}:∀{names:List (Str×NameKind)} {x:Str} {k':NameKind},(names.map fun (n,k)=>if (k == NameKind.free && env.scope.kind == .function && env.kindOf n == some .cell) then (n,NameKind.cell) else (n,k)).lookup x=some k'→k'=.cell∨k'=.free→
  (x,NameKind.free)∈names∨(x,NameKind.cell)∈names
 | [],_,_,h,_=>by simp at h
 | (n,k)::r,x,k',h,hk=>by
  have ih:=@zfs env r x k';have h':List.lookup x ((if (k == NameKind.free && env.scope.kind == .function && env.kindOf n == some .cell)=true then (n,NameKind.cell) else (n,k))::r.map fun (n,k)=>if (k == NameKind.free && env.scope.kind == .function && env.kindOf n == some .cell) then (n,NameKind.cell) else (n,k))=some k':=h
  cases hx:x == n with
  | true=>
   have e:=eq_of_beq hx;subst e;by_cases hf:k=.free
   ·subst hf;exact .inl yaC
   ·have hb:(k == NameKind.free)=false:=by simpa using hf
    rw[if_neg (by rw[hb];simp),yaJ,hx]at h';cases h'
    rcases hk with z | z
    ·subst z;exact .inr yaC
    ·exact absurd z hf
  | false=>
   refine (ih ?_ hk).imp (yaD _) (yaD _);by_cases hcd:(k == NameKind.free && env.scope.kind == .function && env.kindOf n == some .cell)=true
   ·rw[if_pos hcd,yaJ,hx]at h';exact h'
   ·rw[if_neg hcd,yaJ,hx]at h';exact h'
structure zjr (X:Cx)(scope:Scope)(z:Str)(N:List Str)(own:Nat)(cap:List Nat):Prop where
 kind:scope.kind=.function
 one:scope.names.filter (fun y=>y.2 == .cell)=[(z,.cell)]
 look:scope.names.lookup z=some .cell
 locs:(scope.names.all fun y=>y.2 != .local || scope.names.lookup y.1 == some .local)=true
 frees:(scope.names.all fun y=>y.2 != .free || (X.env.kindOf y.1 == some .cell || X.env.kindOf y.1 == some .free))=true
 len:N.length=own+cap.length
 caps:((List.range cap.length).all fun j=>(N[own+j]? == X.N[cap[j]!]?) && (match N[own+j]? with | some x=>scope.names.lookup x == some .free && (X.env.kindOf x == some .cell || X.env.kindOf x == some .free) | none=>false))=true
section
variable {X:Cx}
theorem zmG {z:Str}{pins:List (Addr×Obj)}{σ:St}{H:Hp}{s:Shared}{N:List Str}{own:Nat}{cap:List Nat}{scope:Scope}{cl:List (Str×Addr)}{C:Addr}{fp:List Addr}{h₁:Heap}{tk:Nat}{D:Addr}
  (I:Inv X pins σ H s) (c:zjr X scope z N own cap) (hcl:ziL scope X.env cl) (f:∀ b∈fp,FpOk X pins H b) (hD:s.heap.objs.size≤D) (hC:s.heap.objs.size≤C) (hCD:D≠C)
  (kp:∀ b o,s.heap.get? b=some o→h₁.get? b=some o) (hnew:h₁.get? D=some { cls:=.type "list",data:=.seq #[] }) (hns:∃ m,h₁.Ns C m) (hcz:h₁.IsCell (C+1) none) (hDz:D≠C+1) (hfp:∀ b∈fp,b < s.heap.objs.size) (hcalm:X.calm=true) :
  Inv (zbw X N scope z cl C s H fp) pins (zcq own cap σ) (upd H D (.lst [])) { s with heap:=h₁,toks:=tk }:=by
 have hfr:H D=none:=I.hok.fresh hD;have hfrC:H C=none:=I.hok.fresh hC;have sz:∀ b o,s.heap.get? b=some o→b≠D∧b≠C:=fun b o e=>⟨yas (yaw (yag e) hD),yas (yaw (yag e) hC)⟩;have cells:∀ x cc,cl.lookup x=some cc→∃ v,s.heap.IsCell cc v:=fun x cc e=>I.cell x cc (hcl.sub x cc e);have cellne:∀ x cc,cl.lookup x=some cc→cc≠D∧cc≠C:=fun x cc e=>by
  obtain ⟨v,o,ho,_⟩:=cells x cc e;exact sz cc o ho
 have czlt:∀ x cc,cl.lookup x=some cc→cc≠C+1:=fun x cc e q=>by
  obtain ⟨v,o,ho,_⟩:=cells x cc e;exact absurd (show C+1 < s.heap.objs.size from (by rw[← q];exact yag ho)) (Nat.not_lt.mpr (yar hC (ya4 _)))
 have lk:∀ x cc,((z,C+1)::cl).lookup x=some cc→(x=z∧cc=C+1)∨(x≠z∧cl.lookup x=some cc):=fun x cc e=>by
  rw[yaJ]at e;cases hx:x == z with
  | true=>
   rw[hx]at e;exact .inl ⟨eq_of_beq hx,(yae e).symm⟩
  | false=>
   rw[hx]at e;exact .inr ⟨fun q=>(by rw[q,beq_self_eq_true]at hx;cases hx),e⟩
 have hfrZ:H (C+1)=none:=I.hok.fresh (yar hC (ya4 _));have ok:(zbw X N scope z cl C s H fp).Ok:=by
  refine ⟨I.ok.mod,c.kind,I.ok.glob,I.ok.blt,hC,fun x y cc e1 e2=>?_,fun x hx=>?_,fun x cc e1 e2=>?_,I.ok.hd,I.ok.frames,.inl rfl,fun b hb=>?_,fun b o e=>I.bs b o e,?_,fun b o e hb=>?_,fun b hb z=>?_,I.stack,fun b hb=>I.stkFree b hb⟩
  ·rcases lk x cc e1 with ⟨q1,q2⟩ | ⟨q1,q2⟩ <;> rcases lk y cc e2 with ⟨r1,r2⟩ | ⟨r1,r2⟩
   ·rw[q1,r1]
   ·exact absurd q2 (czlt y cc r2)
   ·exact absurd r2 (czlt x cc q2)
   ·exact I.ok.inj x y cc (hcl.sub x cc q2) (hcl.sub y cc r2)
  ·show ∃ c,((z,C+1)::cl).lookup x=some c;cases hxz:x == z with
   | true=>exact ⟨C+1,by rw[yaJ,hxz]⟩
   | false=>
    have hm:(x,NameKind.free)∈scope.names:=by
     have hor:(x,NameKind.free)∈scope.names∨(x,NameKind.cell)∈scope.names:=by
      rcases hx with y | y
      ·exact zfs (env:=X.env) (names:=scope.names) (x:=x) (k':=.cell) y (.inl rfl)
      ·exact zfs (env:=X.env) (names:=scope.names) (x:=x) (k':=.free) y (.inr rfl)
     rcases hor with q | q
     ·exact q
     ·have hf:(x,NameKind.cell)∈scope.names.filter (fun y=>y.2 == .cell):=ybd.mpr ⟨q,rfl⟩;rw[c.one]at hf;have e:=congrArg Prod.fst (yam.mp hf);have e:x=z:=e;rw[e,beq_self_eq_true]at hxz;cases hxz
    obtain ⟨cc,hcc⟩:=hcl.has x hm;exact ⟨cc,by rw[yaJ,hxz];exact hcc⟩
  ·have e1:(x == z)=true:=e1;rcases lk x cc e2 with ⟨_,q2⟩ | ⟨q1,_⟩
   ·rw[q2];exact yar hC (ya4 _)
   ·exact absurd (eq_of_beq e1) q1
  ·exact ⟨yas (yaw (hfp b hb) hC),fun x cc e q=>by
    rcases lk x cc e with ⟨_,q2⟩ | ⟨_,q2⟩
    ·exact absurd (show C+1 < s.heap.objs.size from (by rw[← q2,q];exact hfp b hb)) (Nat.not_lt.mpr (yar hC (ya4 _)))
    ·exact (f b hb).2.2.2.2.1 x cc (hcl.sub x cc q2) q⟩
  ·exact yar I.ok.bsz I.sz
  ·obtain ⟨_,_,_,h4,_⟩:=f b hb;rcases h4 with z | z
   ·exact I.ok.noex b o e z
   ·exact absurd (yaw (yag e) (yar I.ok.bsz z)) (yaY _)
  ·obtain ⟨_,h2,h3,_⟩:=f b hb;rcases yat.mp (I.stkSub b z) with q | q
   ·exact h2 q
   ·exact h3 q
 have hokN:zbA X.prog X.w (upd H D (.lst [])) h₁ D (.lst []):=⟨yaF _,[],0,.nil,hnew⟩;refine ⟨ok,I.os.symm ▸ rfl,I.bare,Un.laid kp hD hfr,?_,fun x cc e=>?_,?_,fun x cc e=>?_,fun p hp=>?_,I.hok.laid kp hD hokN,?_⟩
 ·obtain ⟨m,hm⟩:=hns;refine ⟨m,hm,fun i x v e1 e2 e3=>?_⟩;have hi:own≤i:=by
   false_or_by_contra
   rename_i z;unfold zcq at e2;rw[ybm (by rw[ya8];omega),ycu]at e2;split at e2 <;> cases e2
  obtain ⟨j,rfl⟩:∃ j,i=own+j:=⟨i - own,by omega⟩;have hj:j < cap.length:=by
   have:=(yaf.mp e1).1;have z:=c.len;have this':own+j < N.length:=this;omega
  have hc:=yaN.mp c.caps j (ybe.mpr hj);have e1':N[own+j]?=some x:=e1;rw[e1']at hc;simp only[ya1,beq_iff_eq,ybY]at hc;obtain ⟨hN,hf,hk⟩:=hc;have e2':σ[cap[j]!]?=some (some v):=by
   unfold zcq at e2;rw[ya7 (by rw[ya8];omega),ya8,show own+j - own=j by omega,yal]at e2;have g:cap[j]! = cap[j]:=by simp[hj]
   rw[yac hj,ycf]at e2;rw[g];have e2:=yae e2;cases q:σ[cap[j]]? with
   | none=>rw[q]at e2;cases e2
   | some z=>rw[q]at e2;exact congrArg some e2
  obtain ⟨m0,_,hl⟩:=I.loc;obtain ⟨u,ru,lk⟩:=hl (cap[j]!) x v hN.symm e2' (by
   rcases hk with z | z
   ·exact .inr (.inl z)
   ·exact .inr (.inr z))
  refine ⟨u,ru,.inr ⟨zbH (env:=X.env) hf,?_⟩⟩;rcases lk with ⟨z,_⟩ | ⟨_,cc,ec,ic⟩
  ·rcases hk with q | q
   ·rw[q]at z;cases z
   ·rw[q]at z;cases z
  ·obtain ⟨c',hc'⟩:=hcl.has x (by
    have:(x,NameKind.free)∈scope.names:=by
     have hlk:=hf;obtain ⟨l1,l2,hs,hno⟩:=List.lookup_eq_some_iff.mp hlk;rw[hs];exact yaz _ yaC
    exact this)
   have:=hcl.sub x c' hc';rw[ec]at this;cases this
   obtain ⟨o,ho,hd⟩:=ic;refine ⟨cc,?_,o,kp cc o ho,hd⟩;show ((z,C+1)::cl).lookup x=some cc;cases hxz:x == z with
   | true=>
    rw[eq_of_beq hxz,c.look]at hf;cases hf
   | false=>rw[yaJ,hxz];exact hc'
 ·rcases lk x cc e with ⟨_,q2⟩ | ⟨_,q2⟩
  ·rw[q2];exact ⟨_,hcz⟩
  ·obtain ⟨v,o,ho,hd⟩:=cells x cc q2;exact ⟨v,o,kp cc o ho,hd⟩
 ·show upd H D (.lst []) C=none;rw[zai (Ne.symm hCD)];exact hfrC
 ·show upd H D (.lst []) cc=none;rcases lk x cc e with ⟨_,q2⟩ | ⟨_,q2⟩
  ·rw[q2,zai (Ne.symm hDz)];exact hfrZ
  ·rw[zai (cellne x cc q2).1];exact I.freeC x cc (hcl.sub x cc q2)
 ·obtain ⟨e,n,ne,nf,d⟩:=I.pin p hp;refine ⟨kp _ _ e,?_,(sz _ _ e).2,fun z=>?_,d⟩
  ·show upd H D (.lst []) p.1=none;rw[zai (sz _ _ e).1];exact n
  ·rcases yat.mp (I.stkSub p.1 z) with q | q
   ·exact ne q
   ·exact nf q
 ·show (zcq own cap σ).length=N.length;unfold zcq;rw[yak,ya8,yab,c.len]
theorem zle {z:Str}{pins:List (Addr×Obj)}{σ:St}{H2:Hp}{s2:Shared}{N:List Str}{own:Nat}{cap:List Nat}{scope:Scope}{cl:List (Str×Addr)}{fp:List Addr}{tg elt iter:Expr}{ifs:List Expr}{pos:Pos}{J:It}{it:Addr}{tn:Nat→Heap→Prop}{g:TG}{ts:TT}{te:TE}{Q:VK}
  {E:Value→Shared→Prop} {RR:Value→Addr→Result→Shared→Prop}
  (hcalm:X.calm=true) (c:zjr X scope z N own cap) (hcl:ziL scope X.env cl)
  (hg:∀ cl C s₂ H₂ fp,PG (zbw X N scope z cl C s₂ H₂ fp) tg g) (hts:∀ cl C s₂ H₂ fp,PTs (zbw X N scope z cl C s₂ H₂ fp) ifs ts) (he:∀ cl C s₂ H₂ fp,PE (zbw X N scope z cl C s₂ H₂ fp) elt te)
  (I2:Inv X pins σ H2 s2) (T:Turn X.prog X.w X.K tg J fp it tn) (st2:tn 0 s2.heap) (f2:∀ b∈fp,FpOk X pins H2 b)
  (rd:∀ D,H2 D=none→∃ W:Nat→Nat→St→Hp→Prop,(∃ m,W 0 m (zcq own cap σ) (upd H2 D (.lst [])))∧∀ i m σ H,W i m σ H→
   (J.stop i H∧Q (.ref D) H)∨(J.go i H∧∀ x H',J.yld i H x H'→g x σ H' fun σ2 H2=>ts σ2 H2 fun b H3=>if b=true then te σ2 H3 fun y H4=>∃ xs,H4 D=some (.lst xs)∧xs.length < sizeLine∧∃ m',m' < m∧W (i+1) m' σ2 (upd H4 D (.lst (xs++[y]))) else ∃ m',m' < m∧W (i+1) m' σ2 H3))
  (hRR:∀ D C s' H',Inv X pins σ H' s'→(∃ m,s'.heap.Ns C m)→FpOk X pins H' C→Q (.ref D) H'→RR (.ref D) C (.ok .next) s') :
  wpAny (model X.prog X.w) X.A (newList []) (fun acc s₃=>wpAny (model X.prog X.w) X.A (newFunctionEnv scope X.env.globals cl [] X.env.qual none .none (some X.env)) (fun cenv s₄=>
   codeAny (model X.prog X.w) X.A (.compStart (.ListComp elt [⟨tg,iter,ifs,0⟩] scope pos) 0 (.ref it) acc { cenv with scope:=relabel scope X.env }) (RR acc cenv.locals) s₄) E s₃) E s2:=by
 have hfp:∀ b∈fp,b < s2.heap.objs.size:=fun b hb=>by
  obtain ⟨o,e,_⟩:=T.obj 0 _ st2 b hb;exact yag e
 refine wpAny_newObj_type (zpZ c.one ?_);dsimp only;generalize hHH:s2.heap.push { cls:=.type "list",dict:=none,data:=.seq ([]:List Value).toArray }=HH;generalize hh₁:(HH.push { cls:=.type "dict",data:=.dict #[] }).push { cls:=.type "cell",data:=.cell none }=h₁;have hC:HH.objs.size=s2.heap.objs.size+1:=by rw[← hHH,ybZ]
 have hDC:s2.heap.objs.size≠HH.objs.size:=by rw[hC];exact yas (ycg _)
 have hCle:s2.heap.objs.size≤HH.objs.size:=by rw[hC];exact ya4 _
 have kp₁:∀ b o,HH.get? b=some o→h₁.get? b=some o:=fun b o e=>hh₁ ▸ yan _ (yan _ e);have old:∀ b o,s2.heap.get? b=some o→h₁.get? b=some o:=fun b o e=>kp₁ b o (hHH ▸ yan _ e);have hnew:h₁.get? s2.heap.objs.size=some { cls:=.type "list",data:=.seq #[] }:=kp₁ _ _ (hHH ▸ yaK _ rfl);have hns₁:h₁.Ns HH.objs.size fun _=>none:=hh₁ ▸ (Heap.Ns.new HH (.type "dict")).push _;have hcz:h₁.IsCell (HH.objs.size+1) none:=by
  refine ⟨{ cls:=.type "cell",data:=.cell none },?_,rfl⟩;rw[← hh₁];have e:(HH.push { cls:=.type "dict",data:=.dict #[] }).objs.size=HH.objs.size+1:=ybZ ..;rw[← e];exact yaK _ rfl
 have I3:∀ tk,Inv (zbw X N scope z cl HH.objs.size s2 H2 fp) pins (zcq own cap σ) (upd H2 s2.heap.objs.size (.lst [])) { s2 with heap:=h₁,toks:=tk }:=fun tk=>
  zmG I2 c hcl f2 (yaa _) hCle hDC old hnew ⟨_,hns₁⟩ hcz (by rw[hC];exact yas (Nat.lt_succ_of_lt (ycg _))) hfp hcalm
 obtain ⟨W,⟨m0,w0⟩,turn⟩:=rd s2.heap.objs.size (I2.hok.fresh (yaa _));have st3:tn 0 h₁:=T.keep _ _ _ st2 fun b _ o e=>old b o e;have fr3:∀ b∈fp,upd H2 s2.heap.objs.size (.lst []) b=none:=fun b hb=>by rw[zai (yas (hfp b hb))];exact (f2 b hb).1
 have stat:∀{H':Hp},(∀ b∈fp,H' b=none)→∀ b∈fp,FpOk (zbw X N scope z cl HH.objs.size s2 H2 fp) pins H' b:=fun hn b hb=>by
  obtain ⟨_,h2,h3,_,h5,h6⟩:=f2 b hb;refine ⟨hn b hb,yas (yaw (hfp b hb) hCle),fun z=>?_,.inl hb,fun x cc e=>?_,h6⟩
  ·rcases yat.mp (I2.stkSub b z) with q | q
   ·exact h2 q
   ·exact h3 q
  ·have e:((_,HH.objs.size+1)::cl).lookup x=some cc:=e;rw[yaJ]at e;split at e
   ·exact fun q=>absurd (show HH.objs.size+1 < s2.heap.objs.size from (by rw[yae e,q];exact hfp b hb)) (Nat.not_lt.mpr (yar hCle (ya4 _)))
   ·exact h5 x cc (hcl.sub x cc e)
 have loop:∀ s₃:Shared,s₃={ s2 with heap:=h₁ }→
   codeAny (model X.prog X.w) X.A (.compLoop (.ListComp elt [⟨tg,iter,ifs,0⟩] scope pos) 0 (.ref it) (.ref s2.heap.objs.size) (compEnvC scope ((z,HH.objs.size+1)::cl) HH.objs.size X.env)) (RR (.ref s2.heap.objs.size) HH.objs.size) s₃:=by
  rintro s₃ rfl;refine zgr (fun n s'=>∃ i σ' H',Inv (zbw X N scope z cl HH.objs.size s2 H2 fp) pins σ' H' s'∧tn i s'.heap∧(∀ b∈fp,H' b=none)∧W i n σ' H') ?_ m0 ⟨0,_,_,I3 _,st3,fr3,w0⟩;rintro n s3 ⟨i,σ3,H3,J3,t3,fr,w3⟩;rcases turn i n σ3 H3 w3 with ⟨stop,qn⟩ | ⟨go,step⟩
  ·refine thn (T.done (zbw X N scope z cl HH.objs.size s2 H2 fp) rfl rfl rfl hcalm i pins s3 σ3 H3 (fun _ _=>False) J3 (stat fr) t3 stop) fun r s4 zq0=>?_;obtain ⟨hr,I4⟩:=zq0;subst hr;obtain ⟨mm,hmm,_⟩:=I4.loc;refine hRR _ _ s4 H3 (I2.call' I4.os I4.base I4.hok I4.bare fun b hb=>?_) ⟨mm,hmm⟩ (I2.fpOk hCle I4.free) qn;obtain ⟨_,h2,_,h4,h5,h6⟩:=f2 b hb;exact ⟨h4,h2,h5,h6⟩
  ·refine thn (T.item (zbw X N scope z cl HH.objs.size s2 H2 fp) rfl rfl rfl hcalm i pins s3 σ3 H3 (fun _ _=>False) J3 (stat fr) t3 go) fun r s4 zq0=>?_;obtain ⟨u,hr,h4⟩:=zq0;subst hr;refine thn h4 fun _ s5 zq0=>?_;obtain ⟨x,H5,I5,r5,y5,st5,fr5⟩:=zq0;have I5':=I5.pinned (stat fr5) (T.obj _ _ st5);have back:∀{σ7:St} {H7:Hp} {s7:Shared} {m':Nat},Inv (zbw X N scope z cl HH.objs.size s2 H2 fp) (pins++zgS fp s5.heap) σ7 H7 s7→W (i+1) m' σ7 H7→∃ i σ' H',Inv (zbw X N scope z cl HH.objs.size s2 H2 fp) pins σ' H' s7∧tn i s7.heap∧(∀ b∈fp,H' b=none)∧W i m' σ' H':=fun {σ7 H7 s7 m'} I7 w7=>by
    refine ⟨i+1,σ7,H7,I7.unpinned,T.keep _ _ _ st5 fun b hb o e=>(I7.pin (b,o) (yaz _ (yaz _ (zcj hb e)))).1,fun b hb=>?_,w7⟩;obtain ⟨o,e,d⟩:=T.obj _ _ st5 b hb;exact (I7.pin (b,o) (yaz _ (yaz _ (zcj hb e)))).2.1
   refine thn (hg cl HH.objs.size s2 H2 fp _ s5 σ3 H5 x u _ I5' r5 (step x H5 y5)) fun _ s6 zq0=>?_;obtain ⟨σ6,H6,I6,q6⟩:=zq0;refine thn (hts cl HH.objs.size s2 H2 fp _ s6 σ6 H6 _ I6 q6) fun b s7 zq0=>?_;obtain ⟨H7,I7,q7⟩:=zq0;cases b with
   | false=>
    rw[if_neg yaA]at q7 ⊢;obtain ⟨m',hm,w7⟩:=q7;exact ⟨m',hm,back I7 w7⟩
   | true=>
    rw[if_pos rfl]at q7 ⊢;refine thn (he cl HH.objs.size s2 H2 fp _ s7 σ6 H7 _ I7 q7) fun v s8 zq0=>?_;obtain ⟨y,H8,I8,r8,q8⟩:=zq0;obtain ⟨xs,hx,hz,m',hm,w8⟩:=q8;refine thn (zaQ (X:=zbw X N scope z cl HH.objs.size s2 H2 fp) _ s8 σ6 H8 (.ref s2.heap.objs.size) [y] (.ref s2.heap.objs.size) [v] (fun _ H9=>H9=upd H8 s2.heap.objs.size (.lst (xs++[y]))) I8 rfl (.cons r8 .nil) ⟨_,xs,y,rfl,rfl,hx,hz,rfl⟩) fun _ s9 zq0=>?_;obtain ⟨_,H9,I9,_,e9⟩:=zq0;subst e9;exact ⟨m',hm,back I9 w8⟩
 refine codeAny_compStart_list (loop _ rfl) ?_;exact T.self _ 0 _ _ _ st3 (loop _ rfl)
theorem znu (z:Str){i:Nat}{x:Str}{N:List Str}{own:Nat}{cap:List Nat}{scope:Scope}{tg elt iter:Expr}{ifs:List Expr}{pos pos' spos:Pos}{wi:TI}{g:TG}{ts:TT}{te:TE}(hN:X.N.Nodup)(hxi:X.N[i]?=some x)(hx:X.env.scope.names.lookup x=some .local)(hcalm:X.calm=true)(hi:PI X tg iter wi)(c:zjr X scope z N own cap)
  (hg:∀ cl C s₂ H₂ fp,PG (zbw X N scope z cl C s₂ H₂ fp) tg g) (hts:∀ cl C s₂ H₂ fp,PTs (zbw X N scope z cl C s₂ H₂ fp) ifs ts) (he:∀ cl C s₂ H₂ fp,PE (zbw X N scope z cl C s₂ H₂ fp) elt te)
  (hsw:swapsWith (.ListComp elt [⟨tg,iter,ifs,0⟩] scope pos) (some (.Name x pos')) spos.line X.env=pure true:=by rfl)
  (hs:∀ x,foldedSetIterable iter X.env x=pure x:=by intro _;rfl):PS X (.Assign [.Name x pos'] (.ListComp elt [⟨tg,iter,ifs,0⟩] scope pos) spos) (tAsg (zpb own cap wi g ts te) (zhN i)):=by
 intro pins s σ H D I h;obtain ⟨cl,hcl⟩:=zgt (scope:=scope) (env:=X.env) fun x hx=>I.ok.has x (by
  have:=yaN.mp c.frees _ hx;simpa using this)
 rw[exec_Assign_Name_used _ _ _ _ hsw];refine wpAny_bind (wpAny_standAt (wpAny_bind ?_));show wpAny _ X.A (do let _ ← comprehension (.ListComp elt [⟨tg,iter,ifs,0⟩] scope pos) scope X.env _ (newList []) false (eval iter X.env) (some (assign (.Name x pos') X.env))) _ _ s
 refine wpAny_bind (wpAny_mono (wpAny_comprehension_free (use:=some (assign (.Name x pos') X.env)) (Q:=fun _ s'=>SP X pins D .next s') rfl hs hcl.eq c.kind (fun x hx hl=>by
  have:=yaN.mp c.locs x hx;rw[hl]at this;simpa using this) (thn (hi pins s σ H _ I h) fun v s1 h1=>thn h1 fun itv s2 h2=>?_)) (fun _ s' hq=>wpAny_pure (wpAny_pure hq)) fun _ _ e=>e)
 obtain ⟨it,fp,tn,J,H2,e,I2,T,st2,f2,rd⟩:=h2;subst e;refine zle (RR:=fun acc C=>compPost (model X.prog X.w) X.A X.xe (some (assign (.Name x pos') X.env)) (fun _ s'=>SP X pins D .next s') acc C) (Q:=fun x H1=>zhN i x σ H1 D.nx) hcalm c hcl hg hts he I2 T st2 f2 rd ?_;intro Dd C s' H' I' hm fC q;obtain ⟨m,hm⟩:=hm;have hne:∀ a,(a=X.env.locals∨X.env.cells.lookup x=some a)→a≠C:=fun a z=>by
  obtain ⟨f0,f1,f2,f3,f4,f5⟩:=fC;rcases z with z | z
  ·rw[z];exact Ne.symm f1
  ·exact f4 x a z
 show wpAny _ X.A (assign (.Name x pos') X.env (.ref Dd)) _ _ _;refine wpAny_assign_Name (zf9 I' hN hxi (.inl hx) (v:=.ref Dd) rfl (fun s'' I'' hch=>?_) (.inr hx));obtain ⟨a,hsb,ha⟩:=hch;refine ⟨m,hm.sameBut hsb (Ne.symm (hne a ha)),fun h' hs'=>?_⟩;obtain ⟨f0,f1,f2,f3,f4,f5⟩:=fC;exact ⟨_,H',I''.turned (t':=s''.toks) (fun b o hb e=>(hs'.2 b hb).trans e) f0 f1 f3 f4 f5,q⟩
end
end L2
namespace L2
open PySem PySem.Spec PyProof.Rows
def ItF (hi:Int)(n:Nat):It:=⟨fun i _=>i < n,fun i H x H'=>H'=H∧x=.int (hi - i),fun i _=>n≤i⟩
theorem zlu {P:Program}{w:World}{K:Frag}{tg:Expr}(it:Addr)(hi:Int)(n:Nat):Turn P w K tg (ItF hi n) [it] it (fun i h=>IsRangeIter h it (hi+(i:Nat) * (-1)) ((n:Int) - (i:Nat)) (-1)) where
 mem:=by simp
 obj:=fun i h st b hb=>by
  have e:b=it:=by simpa using hb
  subst e;exact ⟨_,st,fun v z=>by
   have z':Data.fields _=Data.cell v:=z;cases z'⟩
 keep:=fun i h h' st k=>k it (by simp) _ st
 item:=by
  intro X hP hw hK hc i pins s σ H E I hf st hg;subst hP hw hK;obtain ⟨f0,f1,f2,f3,f4,f5⟩:=hf it (by simp);have W:=Walks.range (prog:=X.prog) (w:=X.w) (I.ok.hd hc) it hi (-1) n;refine W.item i s _ _ hg st fun v h' tk hv st' kk=>?_;obtain ⟨t,rfl⟩:=hv;have I1:Inv X pins σ H { s with heap:=h',toks:=tk }:=I.turned (fun b o hb e=>kk b o (by simpa using hb) e) f0 f1 f3 f4 f5;refine ⟨_,rfl,zmN (s:={ s with heap:=h',toks:=tk }) (n := "range_iterator") st' rfl rfl (by decide) ⟨.int (hi - i),H,I1,⟨t,?_⟩,⟨rfl,rfl⟩,st',fun b hb=>(hf b hb).1⟩⟩;rw[show hi+((i:Nat):Int) * (-1)=hi - i by omega]
 done:=by
  intro X hP hw hK hc i pins s σ H E I hf st hg;subst hP hw hK;obtain ⟨f0,f1,f2,f3,f4,f5⟩:=hf it (by simp);exact wpAny_pyNext_range_end (I.ok.hd hc) st (by have:n≤i:=hg;omega) fun h' eb=>⟨rfl,I.turned (t':=s.toks) (fun b o hb e=>eb b o hb e) f0 f1 f3 f4 f5⟩
 self:=fun _ _ _ _ _ st h=>wpAny_pyIter_rangeiter st h
theorem zh6 (a b:Int):Builtin.Range.rangeSize a b (-1)=if a > b then a - b else 0:=by
 unfold Builtin.Range.rangeSize;rw[if_neg (by decide)];split
 ·rw[show -(-1:Int)=1 from rfl,Int.ediv_one];omega
 ·rfl
theorem zkM {a b:Int}(ha:-(2 ^ 62)≤a)(ha':a < 2 ^ 62)(hb:-(2 ^ 62)≤b)(hb':b < 2 ^ 62):Builtin.Range.small a b (-1)=true:=by
 unfold Builtin.Range.small;rw[zh6];simp only[Builtin.Range.rangeFitsLong,ya1,ybY,decide_eq_true_eq,beq_iff_eq,show ¬ (-1:Int) > 0 by decide,if_false];split <;> omega
section
variable {X:Cx}{tg:Expr}
theorem zpY {pins:List (Addr×Obj)}{σ:St}{H:Hp}{s:Shared}{R:It→Hp→Prop}{E:Value→Shared→Prop}{hi lo:Int}{t u v:Tok}{tk:Nat}(I:Inv X pins σ H s)(h1:-(2 ^ 62)≤hi)(h2:hi < 2 ^ 62)(h3:-(2 ^ 62)≤lo)(h4:lo < 2 ^ 62)
  (q:R (ItF hi (hi - lo).toNat) H):wpAny (model X.prog X.w) X.A (pyIter (.ref s.heap.objs.size)) (PIE X pins σ tg R) E { s with heap:=s.heap.push { cls:=.type "range",data:=.fields #[.int hi t,.int lo u,.int (-1) v] },toks:=tk }:=by
 refine wpAny_pyIter_range (IsRange.new ..) (zkM h1 h2 h3 h4) ?_;have I1:Inv X pins σ H { s with heap:=s.heap.push { cls:=.type "range",data:=.fields #[.int hi t,.int lo u,.int (-1) v] },toks:=tk }:=I.kept fun b o e=>yan _ e;refine ⟨(s.heap.push { cls:=.type "range",data:=.fields #[.int hi t,.int lo u,.int (-1) v] }).objs.size,[(s.heap.push { cls:=.type "range",data:=.fields #[.int hi t,.int lo u,.int (-1) v] }).objs.size],_,_,H,rfl,
  I1.kept (t':=tk) fun b o e=>yan _ e,zlu _ hi (hi - lo).toNat,?_,fun b hb=>?_,q⟩
 ·have e1:hi+((0:Nat):Int) * (-1)=hi:=by simp
  have e2:(((hi - lo).toNat:Nat):Int) - ((0:Nat):Int)=Builtin.Range.rangeSize hi lo (-1):=by rw[zh6];split <;> omega
  show IsRangeIter _ _ (hi+((0:Nat):Int) * (-1)) ((((hi - lo).toNat:Nat):Int) - ((0:Nat):Int)) (-1);rw[e1,e2];exact yaK _ rfl
 ·have e:b=(s.heap.push { cls:=.type "range",data:=.fields #[.int hi t,.int lo u,.int (-1) v] }).objs.size:=by simpa using hb
  subst e;exact I1.fpOk (yaa _) (I1.hok.fresh (yaa _))
def zrF (ta:TA):TI:=fun σ H R=>ta σ H fun vs H1=>∃ i j:Int,vs=[.int i,.int j,.int (-1)]∧(-(2 ^ 62)≤i∧i < 2 ^ 62∧-(2 ^ 62)≤j∧j < 2 ^ 62)∧R (ItF i (i - j).toNat) H1
theorem zlY {a b c:Expr}{ta:TA}{p pos:Pos}(hg:Gl X "range")(hm:X.mg "range" = none)(ha:PA X [a,b,c] ta)(hs:starEach [a,b,c] X.env=[(false,eval a X.env),(false,eval b X.env),(false,eval c X.env)]:=by rfl)(hs2:starEach [b,c] X.env=[(false,eval b X.env),(false,eval c X.env)]:=by rfl) :
  PI X tg (.Call (.Name "range" p) [a,b,c] [] pos) (zrF ta):=by
 intro pins s σ H R I h;refine Call_ (zfc I hg hm boot_range (PyProof.Rows.callWith_type1 (thn (ha pos pins s σ H _ I h) fun us s1 zq0=>?_) (by rw[hs,hs2]) (by rw[hs2];rfl)));obtain ⟨vs,H1,I1,r1,q1⟩:=zq0;obtain ⟨i,j,e,⟨q1,q2,q3,q4⟩,q⟩:=q1;subst e;cases r1 with
 | cons r rr=>
  cases rr with
  | cons r' rr=>
   cases rr with
   | cons r2 rr=>
    cases rr
    obtain ⟨t,rfl⟩:=r;obtain ⟨t',rfl⟩:=r';obtain ⟨t2,rfl⟩:=r2;exact call_range_3 (by decide) (zpY I1 q1 q2 q3 q4 q) (Or.inl (PyProof.noPylong_small (by decide)))
end
theorem zoa {hi:Int}{n:Nat}{g:TG}{tb:TS}{D:Ends}{σ:St}{H:Hp}(Pv:Nat→St→Hp→Prop)(h0:Pv 0 σ H)
  (hs:∀ i σ H,i < n→Pv i σ H→g (.int (hi - i)) σ H fun σ2 H2=>tb { D with nx:=Pv (i+1),ct:=Pv (i+1),bk:=D.nx } σ2 H2) (hd:∀ σ H,Pv n σ H→D.nx σ H) :
  ∃ W:Nat→Nat→St→Hp→Prop,(∃ m,W 0 m σ H)∧∀ i m σ H,W i m σ H→
   ((ItF hi n).stop i H∧D.nx σ H)∨((ItF hi n).go i H∧∃ N:St→Hp→Prop,(∀ σ' H',N σ' H'→∃ m',m' < m∧W (i+1) m' σ' H')∧∀ x H',(ItF hi n).yld i H x H'→g x σ H' fun σ2 H2=>tb { D with nx:=N,ct:=N,bk:=D.nx } σ2 H2):=by
 refine ⟨fun i m σ H=>m=n - i∧i≤n∧Pv i σ H,⟨n,by simp,yaF _,h0⟩,?_⟩;rintro i m σ H ⟨rfl,hi,p⟩;by_cases hlt:i < n
 ·refine .inr ⟨hlt,Pv (i+1),fun σ' H' p'=>⟨n - (i+1),by omega,rfl,hlt,p'⟩,fun x H' y=>?_⟩;obtain ⟨e,y⟩:=y;subst e y;exact hs i σ _ hlt p
 ·have e:i=n:=by omega
  subst e;exact .inl ⟨yaa _,hd σ H p⟩
end L2
namespace L2
open PySem PySem.Spec PyProof.Rows
section
variable {X:Cx}
theorem zm6:zey X (.type "str") (fun xs H Q=>∃ i:Int,xs=[.int i]∧i.natAbs.log2 < 1920∧Q (.str (toString i)) H):=by
 intro pins s σ H xs us Q I r h;obtain ⟨i,rfl,hi,q⟩:=h;obtain ⟨u,rfl,t,rfl⟩:=zgF r;exact P.str_of_int hi ⟨.str _,H,I.tok _,⟨_,rfl⟩,q⟩
def zqw (K:Frag):R2:=fun x y H Q=>∃(a b:Addr) (xs:List V),x=.ref a∧y=.ref b∧SqL K H a xs∧SqL K H b []∧Q (.bl (!xs.isEmpty)) H
theorem znC (hu:X.A.units+1 < cLine):OpR X (compareOp .NotEq) (zqw X.K):=by
 intro pins s σ H x y u v Q I r1 r2 h;obtain ⟨a,b,xs,rfl,rfl,q1,q2,q⟩:=h;cases r1
 cases r2
 obtain ⟨us,ru,pu,_⟩:=I.list q1;obtain ⟨vs,rv,pv,_⟩:=I.list q2;have l1:=ru.length;have l2:=rv.length;cases xs with
 | nil=>
  have hv:vs=[]:=ybJ l2.symm;have hw:us=[]:=ybJ l1.symm;subst hv hw;have:=PySem.SeqAt.RcNeAt.lists (A:=X.A) (s:=s) (e:=fun _=>true) pu.isList pv.isList rfl (by omega) (fun j h=>absurd h (ych _));exact this X.prog X.w X.xe _ ⟨.bl _,H,I,rfl,q⟩
 | cons x xs=>
  have:=PySem.SeqAt.RcNeAt.lists_lengths (A:=X.A) (s:=s) pu.isList pv.isList (by simp at l1 l2 ⊢;omega) (by omega);exact this X.prog X.w X.xe _ ⟨.bl _,H,I,rfl,q⟩
end
end L2
namespace DictP
open PySem PySem.Spec PyProof.Rows
set_option autoImplicit false
set_option maxRecDepth 100000
theorem zin:typeLookup (.type "list") "keys" = pure none:=by rw[typeLookup_type,builtinLookup_eq_fast];kernel_rfl
section
variable {prog:Program}{w:World}{A:Around}{E:Value→Shared→Prop}{a:Addr}{o:Obj}{h:Heap}{g:Array GenState}{d:Drawn}{t:Nat}{os:OsState}{xs:Array Value}{n:Nat}{sl:Array (Option Value)}
theorem zk7 {tk:Tok}{Q:Fin→Shared→Prop}(hh:A.handled=none)(hx:h.get? a=some { cls:=.type "list",dict:=none,data:=.seq xs n,slots:=sl })
  (q:∀ h' t' e,(∀ b u,h.get? b=some u→h'.get? b=some u)→(⟨h',g,d,t',os⟩:Shared).TypeIs (.ref e) "AttributeError"→E (.ref e) ⟨h',g,d,t',os⟩) :
  wpAny (model prog w) A (Builtin.«object.__getattribute__» ⟨[.ref a,.str "keys" tk],[]⟩) Q E ⟨h,g,d,t,os⟩:=by
 have hT:(⟨h,g,d,t,os⟩:Shared).TypeIs (.ref a) "list":=⟨_,hx,rfl⟩;have f4:=zin
 repeat (any_goals (first | assumption | wp_step))
 have hm:(Str.ofString (toString "'" ++ toString ((Manifest.find? "list").elim "list" fun x=>x.tpName)++toString "' object has no attribute '")++Str.ofString "keys" ++ Str.ofString "'").length≤sizeLine:=by decide +kernel
 generalize (Str.ofString (toString "'" ++ toString ((Manifest.find? "list").elim "list" fun x=>x.tpName)++toString "' object has no attribute '")++Str.ofString "keys" ++ Str.ofString "'")=msg at hm ⊢;unfold raiseAttrError;refine wpAny_bind (wpAny_mkStr (wpAny_bind ?_) hm);unfold newExc newTuple;refine wpAny_bind (wpAny_newObj_type ?_);refine wpAny_bind (m:=firstArgMember _ _) (wpAny_of_eq (a:=Value.none) (by rfl) ?_);refine wpAny_newObj_type ?_;refine wpAny_bind (wpAny_mkText ?_);have hX:=yaK (h.push { cls:=.type "tuple",data:=.seq #[Value.str msg t] }) (o:={ cls:=.type "AttributeError",data:=.fields (#[.ref h.objs.size,.none,.none,.none,.bool false,.none]++#[unsetMember,unsetMember]) }) rfl;have hk:∀ b u,h.get? b=some u→((h.push { cls:=.type "tuple",data:=.seq #[Value.str msg t] }).push { cls:=.type "AttributeError",data:=.fields (#[.ref h.objs.size,.none,.none,.none,.bool false,.none]++#[unsetMember,unsetMember]) }).get? b=some u:=fun b u e=>yan _ (yan _ e);have hne:h.get? (h.push { cls:=.type "tuple",data:=.seq #[Value.str msg t] }).objs.size=none:=Heap.get?_none_of_le (by simp);show wpAny (model prog w) A (noteAttr (.ref (h.push { cls:=.type "tuple",data:=.seq #[Value.str msg t] }).objs.size) (.ref a) (.str "keys" (t+1)) >>= fun _=>raiseNew (.ref (h.push { cls:=.type "tuple",data:=.seq #[Value.str msg t] }).objs.size)) Q E ⟨(h.push { cls:=.type "tuple",data:=.seq #[Value.str msg t] }).push { cls:=.type "AttributeError",data:=.fields (#[.ref h.objs.size,.none,.none,.none,.bool false,.none]++#[unsetMember,unsetMember]) },g,d,t+2,os⟩;generalize (h.push { cls:=.type "tuple",data:=.seq #[Value.str msg t] }).push { cls:=.type "AttributeError",data:=.fields (#[.ref h.objs.size,.none,.none,.none,.bool false,.none]++#[unsetMember,unsetMember]) }=h2 at hX hk ⊢;generalize (h.push { cls:=.type "tuple",data:=.seq #[Value.str msg t] }).objs.size=e at hX hne ⊢;generalize (Value.ref h.objs.size)=r0 at hX;unfold noteAttr;dsimp only;have hTe:(⟨h2,g,d,t+2,os⟩:Shared).TypeIs (.ref e) "AttributeError":=⟨_,hX,rfl⟩;refine wpAny_bind (wpAny_bind ?_);unfold lacksNameAndObj;dsimp only;refine wpAny_bind (wpAny_isInstance (T := "AttributeError") (b:=true) hTe (by rw[isSubtype_type];kernel_rfl) ?_);simp only[ybW,yaT,if_false];refine wpAny_bind (wpAny_load hX ?_);dsimp only;have i6:(#[r0,Value.none,Value.none,Value.none,Value.bool false,Value.none]++#[unsetMember,unsetMember])[6]?=some unsetMember:=by simp
 have i7:(#[r0,Value.none,Value.none,Value.none,Value.bool false,Value.none]++#[unsetMember,unsetMember])[7]?=some unsetMember:=by simp
 refine wpAny_ite_split (fun z=>absurd z (by rw[i6,i7];decide)) (fun _=>?_);refine wpAny_ite_split (fun z=>absurd z (by rw[i6,i7];decide)) (fun _=>?_);refine wpAny_pure ?_;rw[if_pos rfl];refine wpAny_bind (wpAny_rule (wpAny_bind (wpAny_typeOf hTe ?_)));dsimp only;unfold layMembers;refine wpAny_bind (wpAny_load hX ?_);dsimp only;refine wpAny_update (s:=⟨h2,g,d,t+2,os⟩) hX ?_;unfold raiseNew;refine wpAny_bind (wpAny_handled ?_);rw[hh]
 first
  | refine wpAny_throw ?_
  | refine wpAny_bind (wpAny_pure (wpAny_throw ?_))
 refine q _ _ e (fun b u eb=>?_) ⟨_,Heap.get?_update_self _ hX (Obj.isFreed_of_fields (Obj.data_mapFields rfl _)),rfl⟩;have nb:b≠e:=fun z=>by
  rw[z,hne]at eb;cases eb
 exact (yby _ _ (Ne.symm nb)).trans (hk b u eb)
theorem zmA {tk:Tok}{R:Result→Shared→Prop}(hh:A.handled=none)(hx:h.get? a=some { cls:=.type "list",dict:=none,data:=.seq xs n,slots:=sl })
  (q:∀ h' t' e,(∀ b u,h.get? b=some u→h'.get? b=some u)→(⟨h',g,d,t',os⟩:Shared).TypeIs (.ref e) "AttributeError"→R (.error (.ref e)) ⟨h',g,d,t',os⟩) :
  codeAny (model prog w) A (.call (.builtin "list.__getattribute__") ⟨[.ref a,.str "keys" tk],[]⟩) R ⟨h,g,d,t,os⟩:=
 codeAny_call_builtin F.slot_list_getattribute.plain F.entry_list_ga (F.slot_list_getattribute.check _ _ _ _ _ _ _ _ (show (⟨h,g,d,t,os⟩:Shared).TypeIs (.ref a) "list" from ⟨_,hx,rfl⟩) (F.args_list_getattribute_2 _ _) (zk7 (A:=A.in1) hh hx q))
theorem zmy {Q:Option Value→Shared→Prop}(hh:A.handled=none)(hx:h.get? a=some { cls:=.type "list",dict:=none,data:=.seq xs n,slots:=sl })
  (q:∀ h' t',(∀ b u,h.get? b=some u→h'.get? b=some u)→Q none ⟨h',g,d,t',os⟩):wpAny (model prog w) A (getAttr? (.ref a) "keys") Q E ⟨h,g,d,t,os⟩:=by
 have hT:(⟨h,g,d,t,os⟩:Shared).TypeIs (.ref a) "list":=⟨_,hx,rfl⟩;have f2:=F.slot_list_getattribute.lookup;have f3:=F.slot_list_getattribute.bind (.ref a);have f5:typeLookup (.type "list") "__getattr__" = pure none:=by rw[typeLookup_type,builtinLookup_eq_fast];kernel_rfl
 unfold getAttr? getAttrBy?
 repeat (any_goals (first | assumption | wp_step))
 refine zmA hh hx fun h' t' e k ty=>?_;have su:isSubtype (.type "AttributeError") (.type "AttributeError")=pure true:=by rw[isSubtype_type];kernel_rfl
 show wpAny (model prog w) A (getattributeRaised (.ref a) (.str "keys" t) (.type "list") (.ref e) none false false) _ _ _;unfold getattributeRaised;refine wpAny_bind (wpAny_isInstance ty su ?_);rw[if_pos rfl];refine wpAny_bind (?_:wpAny _ _ (typeLookup (.type "list") "__getattr__") _ _ _);rw[f5];refine wpAny_pure ?_;show wpAny _ _ (throw (Value.ref e)) _ _ _;refine wpAny_throw ?_;show wpAny _ _ (do let b ← isInstance (.ref e) (.type "AttributeError");if b=true then pure none else throw (Value.ref e)) _ _ _
 refine wpAny_bind (wpAny_isInstance ty su ?_);exact wpAny_pure (q h' t' k)
end
end DictP
namespace DictP
open PySem PySem.Spec PyProof.Rows L2
set_option autoImplicit false
set_option maxRecDepth 100000
theorem ziy:entryFor table "dict.update.loop" = some Builtin.«dict.update.loop»:=entryFor_of_tree (by kernel_rfl)
theorem ze5:plainId "dict.update.loop" = true:=by decide +kernel
theorem zkK {K:Type}[DecidableEq K]{kvs:List (K×Value)}{k:K}{v:Value}(h:k∉kvs.map (·.1)):stored kvs k v=kvs++[(k,v)]:=by
 unfold stored;rw[if_neg fun z=>?_];obtain ⟨kv,h1,h2⟩:=List.any_eq_true.mp z;exact h (yaH.mpr ⟨kv,h1,yaE h2⟩)
section
variable {prog:Program}{w:World}{A:Around}{R:Result→Shared→Prop}{I:Addr}{fp wr:List Addr}{G:Array GenState→Array GenState→Prop}{n:Nat}{P:Nat→Value→Prop}{St:Nat→Shared→Prop}
theorem zkR {h0:Heap}(W:WalksS prog w A.in1 I fp wr G n P St)(d:Addr)(hdf:d∉fp)(res:Value)(kvs:List (Key×Value))(hn:n=kvs.length)(hnd:(kvs.map (·.1)).Nodup)
  (hP:∀ i v,P i v→∃ tp key k val,v=.ref tp∧tp≠d∧tp∉wr∧h0.IsTuple tp #[key,val]∧(zaM prog w).is k key=true∧kvs[i]?=some (k,val)) (hz:kvs.length≤sizeLine) :
  ∀(j i:Nat) (s:Shared) (tk:Tok),n - i=j→i≤n→St i s→(∀ b o,b≠d→b∉wr→h0.get? b=some o→s.heap.get? b=some o)→s.heap.DictOf (zaM prog w) d (kvs.take i)→
   (∀ s',Moved (d::wr) G s s'→s'.heap.DictOf (zaM prog w) d kvs→R (.ok (.ret res)) s')→codeAny (model prog w) A (.builtin "dict.update.loop" ⟨[.ref d,.ref I,.int i tk,res],[]⟩) R s:=by
 have hdw:d∉wr:=fun h=>hdf (W.sub _ h);have up:∀ b∈wr,b∈d::wr:=fun b hb=>yaD _ hb;intro j
 induction j with
 | zero=>
  intro i s tk hj hi st hk hd q;have e:i=n:=by omega
  subst e;refine codeAny_builtin ziy ?_;rw[Around.under_plainId ze5 _];show wpAny _ A.in1 (pyNext (.ref I) >>= _) _ _ s;refine wpAny_bind (W.done s _ _ st fun s' hm=>?_);refine wpAny_bind (?_:wpAny _ A.in1 (Builtin.Dict.addKeywords d []) _ _ s');refine wpAny_pure (wpAny_pure (q s' (hm.mono up) ?_));obtain ⟨o,es,ep,ho,r⟩:=hd;rw[hn,List.take_length]at r;exact ⟨o,es,ep,hm.heap d o hdw ho,r⟩
 | succ j ih=>
  intro i s tk hj hi st hk hd q;have hlt:i < n:=by omega
  refine codeAny_builtin ziy ?_;rw[Around.under_plainId ze5 _];show wpAny _ A.in1 (pyNext (.ref I) >>= _) _ _ s;refine wpAny_bind (W.item i s _ _ hlt st fun v s' hPi st' hm=>?_);obtain ⟨tp,key,k,val,rfl,ntd,ntw,ht,hkey,hkv⟩:=hP i v hPi;obtain ⟨ot,o1,o2,nt,o3⟩:=ht;have g1:=hm.heap tp ot ntw (hk tp ot ntd ntw o1);have hd':s'.heap.DictOf (zaM prog w) d (kvs.take i):=by
   obtain ⟨o,es,ep,ho,r⟩:=hd;exact ⟨o,es,ep,hm.heap d o hdw ho,r⟩
  obtain ⟨hik,hek⟩:=yaf.mp hkv;have hnew:k∉(kvs.take i).map (·.1):=fun z=>by
   rw[ybK]at z;obtain ⟨m,hm1,hm2⟩:=ycA.mp z;have h2:m < (kvs.map (·.1)).length:=by omega
   have h3:i < (kvs.map (·.1)).length:=by rw[yab];exact hik
   have:=yaQ.mp hnd m i h2 h3 (by omega);apply this;rw[hm2,List.getElem_map,hek]
  refine wpAny_bind (wpAny_holding (wpAny_bind (wpAny_tryCatch ?_)));unfold Builtin.Dict.pairItems;refine wpAny_bind (wpAny_typeOf (T := "tuple") ⟨_,g1,o2⟩ ?_);rw[if_pos (by decide)];unfold seqItems?;refine wpAny_bind (wpAny_bind (wpAny_load g1 ?_));rw[o3];refine wpAny_pure (wpAny_pure ?_);show wpAny _ A.in1 (holding [key,val] (dictSet d key val)) _ _ s';refine wpAny_holding (wpAny_dictSet_pairs hkey hd' (fun h' hd2 sb=>?_) (by rw[yaj];omega));rw[zkK hnew]at hd2;have tk1:kvs.take (i+1)=kvs.take i++[(k,val)]:=by
   rw[yaB hik,hek]
  rw[← tk1]at hd2;refine wpAny_pure ⟨plainId_quiet ze5 _,ih (i+1) _ 0 (by omega) hlt (W.frame _ s' _ _ st' (ya4 _) fun b hb o e=>?_) (fun b o n1 n2 e=>?_) hd2 fun s'' hm'' x3=>?_⟩
  ·rw[sb.2 b (fun h:b=d=>hdf (by rw[← h];exact hb))];exact e
  ·rw[sb.2 b n1];exact hm.heap b o n2 (hk b o n1 n2 e)
  ·refine q s'' (Moved.trans W.gtrans ((hm.mono up).then_heap (ya4 _) fun b o hb e=>?_) hm'') x3;rw[sb.2 b (fun h:b=d=>hb (by rw[h];exact yaC))];exact e
end
end DictP
namespace DictP
open PySem PySem.Spec PyProof.Rows L2
set_option autoImplicit false
set_option maxRecDepth 100000
section
variable {prog:Program}{w:World}{A:Around}{E:Value→Shared→Prop}{s:Shared}
theorem of_pairs {l:Addr}{items:Array Value}{nl:Nat}{sl:Array (Option Value)}{kvs:List (Key×Value)}{Q:Value→Shared→Prop}(hh:A.handled=none)(hl:s.heap.get? l=some { cls:=.type "list",dict:=none,data:=.seq items nl,slots:=sl })
  (hnd:(kvs.map (·.1)).Nodup) (hlen:items.size=kvs.length) (hz:kvs.length≤sizeLine)
  (hit:∀(i:Nat) v,items[i]?=some v→∃ tp key k val,v=.ref tp∧s.heap.IsTuple tp #[key,val]∧(zaM prog w).is k key=true∧kvs[i]?=some (k,val))
  (q:∀ h' tk,h'.DictOf (zaM prog w) s.heap.objs.size kvs→(∀ b o,s.heap.get? b=some o→h'.get? b=some o)→Q (.ref s.heap.objs.size) { s with heap:=h',toks:=tk }) :
  wpAny (model prog w) A (call (.type "dict") [.ref l]) Q E s:=by
 refine callType_codes (Q₁:=fun obj s₁=>obj=.ref s.heap.objs.size∧s₁={ s with heap:=s.heap.push { cls:=.type "dict",data:=.dict #[] } }) F.kt_called_dict (F.kt_typeCall_dict_1 _) F.entry_dict_init (kt_code_dict_new _ ⟨rfl,rfl⟩) ?_;rintro obj s₁ ⟨rfl,rfl⟩;have hnew:(s.heap.push { cls:=.type "dict",data:=.dict #[] }).DictOf (zaM prog w) s.heap.objs.size []:=Heap.DictOf.new s.heap;have hl1:=yan { cls:=.type "dict",data:=.dict #[] } hl;have hkp:∀ b o,s.heap.get? b=some o→(s.heap.push { cls:=.type "dict",data:=.dict #[] }).get? b=some o:=fun b o e=>yan _ e;have hds:s.heap.objs.size < (s.heap.push { cls:=.type "dict",data:=.dict #[] }).objs.size:=by
  rw[ybZ];exact ycg _
 have hlS:l < s.heap.objs.size:=yag hl;refine ⟨hnew.typeIs,F.args_dict_init_2 _ _,?_⟩;generalize s.heap.push { cls:=.type "dict",data:=.dict #[] }=h1 at hnew hl1 hkp hds ⊢;unfold Builtin.«dict.__init__»;refine wpAny_bind ?_;unfold Builtin.Dict.selfAndRest;refine wpAny_bind (wpAny_notOrdered_dict hnew.typeIs ?_);show wpAny _ _ (pure (s.heap.objs.size,[Value.ref l])) _ _ _;refine wpAny_pure ?_;show wpAny _ _ (Builtin.Dict.updateFrom "dict.__init__" s.heap.objs.size (.ref l) [] .none) _ _ _;unfold Builtin.Dict.updateFrom;refine wpAny_bind (wpAny_typeOf (T := "list") ⟨_,hl1,rfl⟩ ?_);rw[if_pos (by decide)];refine wpAny_bind (zmy (A:=_) hh hl1 fun h2 t2 k2=>?_);rw[if_pos (show (none:Option Value).isNone=true from rfl)];refine wpAny_bind (wpAny_rule (wpAny_bind ?_));have hl2:=k2 _ _ hl1;have hL2:h2.IsList l items:=⟨_,hl2,rfl,nl,rfl⟩;refine wpAny_pyIter_list (s:=⟨h2,s.gens,s.drawn,t2,s.os⟩) hL2 ?_;refine wpAny_pure ⟨plainId_quiet ze5 _,?_⟩;have hd2:h2.DictOf (zaM prog w) s.heap.objs.size []:=by
  obtain ⟨o,es,ep,ho,r⟩:=hnew;exact ⟨o,es,ep,k2 _ _ ho,r⟩
 have hdlt:s.heap.objs.size < h2.objs.size:=by
  obtain ⟨o,es,ep,ho,r⟩:=hd2;exact yag ho
 have hne:l≠h2.objs.size:=yas (Nat.lt_trans hlS hdlt);have h3:A.in1.in1.handled=none:=by simp[hh]
 refine zkR (h0:=s.heap) ((Walks.list h3 _ l hne items).toS) s.heap.objs.size (fun z=>?_) .none kvs hlen hnd (fun i v hv=>?_) hz items.size 0 _ 0 (by omega) (yaF _) ⟨⟨_,yaK _ rfl,rfl,rfl⟩,hL2.push _⟩ (fun b o n1 n2 e=>yan _ (k2 _ _ (hkp _ _ e))) ?_ fun s' hm hd'=>?_
 ·simp only[yat,ybs,or_false]at z;rcases z with z | z
  ·exact absurd hdlt (by rw[← z];exact yaY _)
  ·exact absurd hlS (by rw[← z];exact yaY _)
 ·obtain ⟨tp,key,k,val,e1,e2,e3,e4⟩:=hit i v hv;have htp:tp < s.heap.objs.size:=by
   obtain ⟨ot,o1,_⟩:=e2;exact yag o1
  refine ⟨tp,key,k,val,e1,yas htp,fun z=>?_,e2,e3,e4⟩;rw[yam.mp z]at htp;exact absurd (Nat.lt_trans htp hdlt) (yaY _)
 ·rw[ybF];exact hd2.push _
 ·refine ⟨rfl,?_⟩;rw[Moved.eq_with hm];refine q s'.heap s'.toks hd' fun b o e=>hm.heap b o (fun z=>?_) (yan _ (k2 _ _ (hkp _ _ e)));have hb:=yag e;simp only[yat,ybs,or_false]at z;rcases z with z | z
  ·rw[z]at hb;exact absurd hb (yaY _)
  ·rw[z]at hb;exact absurd (Nat.lt_trans hb hdlt) (yaY _)
end
end DictP
namespace L2
open PySem PySem.Spec PyProof.Rows
def zqx (K:Frag):List V→Hp→VK→Prop:=fun xs H Q=>∃(p:Addr) (zs:List V) (kvs:List (Key×V)),xs=[.ref p]∧SqL K H p zs∧Paired (fun (z:V) (kv:Key×V)=>∃ b,z=.ref b∧H b=some (.tup [kV kv.1,kv.2])) zs kvs∧(kvs.map (·.1)).Nodup∧
 ∀ d,H d=none→Q (.ref d) (upd H d (.dK kvs))
section
variable {X:Cx}
theorem zjY {pins:List (Addr×Obj)}{σ:St}{H:Hp}{s:Shared}(I:Inv X pins σ H s):∀{zs:List V} {kvs:List (Key×V)} {us:List Value},Paired (fun (z:V) (kv:Key×V)=>∃ b,z=.ref b∧H b=some (.tup [kV kv.1,kv.2])) zs kvs→Vals zs us→
  ∃ ks:List (Key×Value),KV kvs ks∧∀(i:Nat) v,us[i]?=some v→∃ tp key k val,v=.ref tp∧s.heap.IsTuple tp #[key,val]∧(zaM X.prog X.w).is k key=true∧ks[i]?=some (k,val)
 | _,_,_,.nil,.nil=>⟨[],.nil,fun i v h=>by simp at h⟩
 | _::_,kv::_,_::_,.cons ⟨b,e1,e2⟩ t,.cons r q=>by
  subst e1;obtain ⟨ks,h1,h2⟩:=zjY I t q;cases r
  obtain ⟨its,rv,p,_⟩:=I.tuple (SqT.of e2);cases rv with
  | cons r1 rv=>
   cases rv with
   | cons r2 rv=>
    cases rv
    refine ⟨(kv.1,_)::ks,.cons ⟨rfl,r2⟩ h1,fun i v hv=>?_⟩;cases i with
    | zero=>
     simp only[List.getElem?_cons_zero,Option.some.injEq]at hv;subst hv;exact ⟨b,_,kv.1,_,rfl,p,zk8 r1,rfl⟩
    | succ i=>
     rw[ycc]at hv ⊢;exact h2 i v hv
theorem zmt:∀{kvs:List (Key×V)} {ks:List (Key×Value)},KV kvs ks→ks.map (·.1)=kvs.map (·.1)
 | _,_,.nil=>rfl
 | _,_,.cons r t=>by
  rw[yax,yax,zmt t,r.1]
theorem zlh (hc:X.calm=true):zey X (.type "dict") (zqx X.K):=by
 intro pins s σ H xs us Q I r h;obtain ⟨p,zs,kvs,rfl,hq,hp,hn,q⟩:=h;obtain ⟨u,rfl,rx⟩:=zgF r;cases rx
 obtain ⟨its,rv,pl,hz⟩:=I.list hq;obtain ⟨ks,hk,hit⟩:=zjY I hp rv;have l1:=Paired.length hp;have l2:=rv.length;have l3:=Paired.length hk;obtain ⟨⟨oc,od,oda,osl⟩,n,e,e1,e2,e3⟩:=pl;simp only at e1 e2 e3;subst e1 e2 e3;refine DictP.of_pairs (kvs:=ks) (I.ok.hd hc) e (by rw[zmt hk];exact hn) (by rw[yav];omega) (by omega) (fun i v hv=>hit i v (by simpa using hv)) fun h' tk hd k=>?_;exact ⟨.ref s.heap.objs.size,_,I.laid (a:=s.heap.objs.size) (o:=.dK kvs) (t':=tk) k (yaa _) ⟨by omega,beq_eq_false_iff_ne.mpr (Ne.symm (yas I.big)),ks,hk,hd⟩,rfl,q _ (I.hok.fresh (yaa _))⟩
end
end L2
namespace L2
open PySem PySem.Spec PyProof.Rows
theorem zm1 {K:Frag}{a b D:Addr}{xs ys:List V}{g:TG}{ts:TT}{te:TE}{σ:St}{H:Hp}{Q:Hp→Prop}(hlen:ys.length≤xs.length)(Pv:Nat→St→Hp→Prop)(h0:Pv 0 σ H)(hl:∀ i σ H,i≤ys.length→Pv i σ H→SqL K H a xs∧SqL K H b ys)
  (hs:∀ i m x y σ H r,xs[i]?=some x→ys[i]?=some y→i+m=ys.length→Pv i σ H→H r=none→g (.ref r) σ (upd H r (.tup [x,y])) fun σ2 H2=>ts σ2 H2 fun b H3=>if b=true then te σ2 H3 fun y H4=>∃ zs,H4 D=some (.lst zs)∧zs.length < sizeLine∧∃ m',m' < m∧(i+1+m'=ys.length∧Pv (i+1) σ2 (upd H4 D (.lst (zs++[y])))) else ∃ m',m' < m∧(i+1+m'=ys.length∧Pv (i+1) σ2 H3))
  (hd:∀ σ H,Pv ys.length σ H→Q H) :
  ∃ W:Nat→Nat→St→Hp→Prop,(∃ m,W 0 m σ H)∧∀ i m σ H,W i m σ H→((Itz K a b).stop i H∧Q H)∨((Itz K a b).go i H∧∀ x H',(Itz K a b).yld i H x H'→g x σ H' fun σ2 H2=>ts σ2 H2 fun b H3=>if b=true then te σ2 H3 fun y H4=>∃ xs,H4 D=some (.lst xs)∧xs.length < sizeLine∧∃ m',m' < m∧W (i+1) m' σ2 (upd H4 D (.lst (xs++[y]))) else ∃ m',m' < m∧W (i+1) m' σ2 H3):=by
 refine ⟨fun i m σ H=>i+m=ys.length∧Pv i σ H,⟨ys.length,by omega,h0⟩,fun i m σ H zq0=>?_⟩;obtain ⟨e,pv⟩:=zq0;obtain ⟨hS,hS'⟩:=hl i σ H (by omega) pv;by_cases hi:i < ys.length
 ·refine .inr ⟨⟨xs,ys,xs[i]'(by omega),ys[i],hS,hS',yac (by omega),yac hi⟩,fun x H' y=>?_⟩;obtain ⟨p,z,z',rfl,hp,hz,hz',rfl⟩:=y;exact hs i m z z' σ H p (hz xs hS) (hz' ys hS') e pv hp
 ·have:i=ys.length:=by omega
  subst this;exact .inl ⟨⟨xs,ys,hS,hS',.inr (yaa _)⟩,hd σ H pv⟩
end L2
namespace L2
open PySem PySem.Spec PyProof.Rows
section
variable {X:Cx}
def zqy (K:Frag):R2:=fun x y H Q=>∃ a b xs ys,x=.ref a∧y=.ref b∧SqT K H a xs∧SqT K H b ys∧xs.length+ys.length≤sizeLine∧
 (xs=[]→Q (.ref b) H)∧(xs≠[]→(ys=[]→Q (.ref a) H)∧(ys≠[]→∀ p,H p=none→Q (.ref p) (upd H p (.tup (xs++ys)))))
theorem zps:OpR X (binaryOp .Add) (zqy X.K):=by
 intro pins s σ H x y v u Q I rx ry h;obtain ⟨a,b,xs,ys,e1,e2,ha,hb,hz,q1,q2⟩:=h;by_cases hx:xs=[]
 ·subst e1 e2;cases rx
  cases ry
  obtain ⟨its,r1,p1,_⟩:=I.tuple ha;obtain ⟨its2,r2,p2,_⟩:=I.tuple hb;obtain ⟨⟨cls,dd,data,sl⟩,ho,hc,n,hd⟩:=id p1;obtain ⟨⟨cls2,dd2,data2,sl2⟩,ho2,hc2,n2,hd2⟩:=id p2;simp only at hc hd hc2 hd2;subst hc hd hc2 hd2;have hv:its=[]:=r1.nil_iff.mpr hx;exact concat_meets ⟨_,ho,rfl⟩ ⟨_,ho2,rfl⟩ noFill_tuple_add seq_tuple_add PySem.F.slot_tuple_add PySem.F.entry_tuple_add (PySem.F.args_tuple_add_2 _ _)
   (tuple_addW0 a b its.toArray its2.toArray n n2 dd dd2 sl sl2 (by simp[hv])) ⟨ho,ho2,.ref b,H,I,rfl,q1 hx⟩
 ·exact zl5 pins s σ H x y v u Q I rx ry ⟨a,b,xs,ys,e1,e2,ha,hb,hx,hz,fun z=>(q2 hx).1 z,fun z=>(q2 hx).2 z⟩
end
end L2
namespace L2
open PySem PySem.Spec PyProof.Rows PySem.SeqAt
def zk9:V→Bool
 | .non | .bl _ | .int _ | .str _ | .ref _=>true
 | _=>false
section
variable {X:Cx}
theorem zph {A:Around}{s:Shared}{x:V}{u v:Value}(g:zk9 x=true)(r1:RelV x u)(r2:RelV x v):EqAt A s u v true:=by
 cases x with
 | non=>cases r1;cases r2;exact EqAt.same _
 | bl b=>cases r1;cases r2;exact EqAt.same _
 | int i=>
  obtain ⟨t1,rfl⟩:=r1;obtain ⟨t2,rfl⟩:=r2;have:=EqAt.int_int (A:=A) (s:=s) i t1 i t2;simpa using this
 | str y=>
  obtain ⟨t1,rfl⟩:=r1;obtain ⟨t2,rfl⟩:=r2;have:=EqAt.str_str (A:=A) (s:=s) y t1 y t2;simpa using this
 | ref a=>cases r1;cases r2;exact EqAt.same _
 | byt b=>cases g
 | flt b=>cases g
 | ty n=>cases g
def rNeS (K:Frag):R2:=fun x y H Q=>∃(a b:Addr) (zs:List V),x=.ref a∧y=.ref b∧SqL K H a zs∧SqL K H b zs∧zs.all zk9=true∧Q (.bl false) H
theorem zqI (hu:X.A.units < cLine):OpR X (compareOp .NotEq) (rNeS X.K):=by
 intro pins s σ H x y v u Q I rx ry h;obtain ⟨a,b,zs,rfl,rfl,q1,q2,hg,q⟩:=h;cases rx
 cases ry
 obtain ⟨us,ru,pu,_⟩:=I.list q1;obtain ⟨vs,rv,pv,_⟩:=I.list q2;have l1:=ru.length;have l2:=rv.length;have it:∀ j (h1:j < us.toArray.size) (h2:j < vs.toArray.size),EqAt X.A.in1 s us.toArray[j] vs.toArray[j] ((fun _=>true) j):=by
  intro j h1 h2;have j1:j < us.length:=by simpa using h1
  have j2:j < vs.length:=by simpa using h2
  have hz:j < zs.length:=by omega
  obtain ⟨u,eu,r1⟩:=ru.get (i:=j) (yac hz);obtain ⟨v,ev,r2⟩:=rv.get (i:=j) (yac hz);have gu:us.toArray[j]=u:=by
   have:us[j]?=some us[j]:=yac j1;rw[eu]at this;simpa using (yae this).symm
  have gv:vs.toArray[j]=v:=by
   have:vs[j]?=some vs[j]:=yac j2;rw[ev]at this;simpa using (yae this).symm
  rw[gu,gv];exact zph (yaN.mp hg _ (yay hz)) r1 r2
 have R:=RcNeAt.lists (A:=X.A) (s:=s) (e:=fun _=>true) pu.isList pv.isList (by simp;omega) hu it;refine R X.prog X.w X.xe _ ⟨.bl _,H,I,rfl,?_⟩;have e:((List.range us.toArray.size).all fun _=>true)=true:=by simp
 rw[e];exact q
theorem huS {A:Around}{k:Nat}(hr:Room k A):A.units < cLine:=yba (Nat.le_add_right _ _) (huD (α:=Int) hr)
end
end L2
set_option maxHeartbeats 4000000
namespace My
open PySem PySem.Spec PyProof.Rows L2
local macro_rules | `(tactic| walk_at "sc") => `(tactic| exact ⟨rfl,rfl,rfl,by decide +kernel,rfl,by decide +kernel,by decide +kernel⟩)
local macro_rules | `(tactic| walk_at "side")=>`(tactic| first | omega | (dsimp only;omega) | (simp only[CDiv,zrP,CPow,CMul];omega) | decide)
local macro_rules | `(tactic| walk_at "rd")=>`(tactic| repeat (first | (refine ⟨_,rfl,?_⟩) | (refine ⟨_,_,rfl,rfl,?_⟩) | (refine ⟨rfl,?_⟩) | (refine ⟨(by walk_at "side"),?_⟩)))
def top (i:Nat):Stmt:=PySem.Challenge.pw_bridgefind_k35_papers_looked_at.main.body.getD i (.Pass ⟨0,0,0,0⟩)
abbrev zdQ:Stmt:=top 5
abbrev zjP:Stmt:=top 6
abbrev zc1:Stmt:=top 7
abbrev zbL:Stmt:=top 10
abbrev zfS:Stmt:=top 11
abbrev zfT:Stmt:=top 12
abbrev zcC:Stmt:=top 14
abbrev zcD:Stmt:=top 15
abbrev zeS:Stmt:=top 16
abbrev zhm:Stmt:=top 17
abbrev zf0:Stmt:=top 18
abbrev zbt:Stmt:=top 20
abbrev zdR:Stmt:=top 21
abbrev zeT:Stmt:=top 22
abbrev zfZ:Stmt:=top 23
abbrev zdO:Stmt:=top 24
abbrev zb6:Stmt:=top 26
abbrev zbf:Stmt:=top 27
abbrev zc2:Stmt:=top 28
abbrev zeF:Stmt:=top 30
abbrev zcZ:Stmt:=top 31
abbrev zcF:Stmt:=top 32
abbrev zdN:Stmt:=top 35
abbrev zeR:Stmt:=top 37
abbrev zb8:Stmt:=top 38
abbrev zbM:Stmt:=top 39
abbrev zeG:Stmt:=top 40
abbrev zeO:Stmt:=top 42
abbrev zeQ:Stmt:=top 43
abbrev zeL:Stmt:=top 44
abbrev zfV:Stmt:=top 45
abbrev zhp:Stmt:=top 46
abbrev zfU:Stmt:=top 47
abbrev zho:Stmt:=top 48
abbrev zfW:Stmt:=top 49
abbrev zcE:Stmt:=top 50
abbrev zhn:Stmt:=top 51
abbrev zfX:Stmt:=top 52
abbrev zdP:Stmt:=top 53
abbrev zc0:Stmt:=top 54
abbrev zeM:Stmt:=top 55
abbrev zeN:Stmt:=top 56
abbrev zeI:Stmt:=top 57
abbrev zb7:Stmt:=top 58
abbrev zeP:Stmt:=top 59
abbrev zeH:Stmt:=top 60
abbrev zeJ:Stmt:=top 61
abbrev zeK:Stmt:=top 62
abbrev zfY:Stmt:=top 63
abbrev zhq:Stmt:=top 64
abbrev zns:Stmt:=top 65
theorem qbZ:zas ["thing"] ["thing"] (zaj zdQ):=by walk_at "sc"
theorem qb0:zas ["entry","key","z"] ["entry"] (zaj zjP):=by walk_at "sc"
theorem qaz:zas ["lists","together","entries"] ["lists"] (zaj zc1):=by walk_at "sc"
theorem qax:zas ["one","other","unlike"] ["one","other"] (zaj zbL):=by walk_at "sc"
theorem qaA:zas ["numbers","told","at","number","figure"] ["numbers"] (zaj zfS):=by walk_at "sc"
theorem qaU:zas ["entries","numbers","turn"] ["entries"] (zaj zfT):=by walk_at "sc"
theorem qbF:zas ["things","at"] ["things","at"] (zaj zcC):=by walk_at "sc"
theorem qbG:zas ["taken"] ["taken"] (zaj zcD):=by walk_at "sc"
theorem qaH:zas ["numbers","told","label","at"] ["numbers"] (zaj zeS):=by walk_at "sc"
theorem qaV:zas ["entries","tints","told","colour","at"] ["entries"] (zaj zhm):=by walk_at "sc"
theorem qcq:zas ["entries"] ["entries"] (zaj zf0):=by walk_at "sc"
theorem qaW:zas ["many","thing"] ["many","thing"] (zaj zbt):=by walk_at "sc"
theorem qb1:zas ["tree","knot"] ["tree","knot"] (zaj zdR):=by walk_at "sc"
theorem qa1:zas ["tree","knot","told","other"] ["tree","knot"] (zaj zeT):=by walk_at "sc"
theorem qbh:zas ["tree","thing","knot","at"] ["tree","thing"] (zaj zfZ):=by walk_at "sc"
theorem qb2:zas ["tree","thing"] ["tree","thing"] (zaj zdO):=by walk_at "sc"
theorem qbB:zas ["stand","knot"] ["stand","knot"] (zaj zb6):=by walk_at "sc"
theorem qab:zas ["stand","knot","tree","told","at","parts"] ["stand","knot"] (zaj zbf):=by walk_at "sc"
theorem qbd:zas ["stand","told"] ["stand"] (zaj zc2):=by walk_at "sc"
theorem qa2:zas ["full","knot","told","entry"] ["full","knot"] (zaj zeF):=by walk_at "sc"
theorem qai:zas ["full","child_full","behind","at","entry","told"] ["full","child_full"] (zaj zcZ):=by walk_at "sc"
theorem qal:zas ["tree","fulls","told","knot","full","jumps"] ["tree","fulls"] (zaj zcF):=by walk_at "sc"
theorem qb3:zas ["bridges","knot","at","child"] ["bridges","knot","at","child"] (zaj zdN):=by walk_at "sc"
theorem qch:zas ["thing"] ["thing"] (zaj zeR):=by walk_at "sc"
theorem qbC:zas ["full","at","key"] ["full","at","key"] (zaj zb8):=by walk_at "sc"
theorem qay:zas ["bridges","line","below","start"] ["bridges","line","below"] (zaj zbM):=by walk_at "sc"
theorem qaI:zas ["stand","way","key","paper","fulls","bridges","line"] ["stand","way","key","paper"] (zaj zeG):=by walk_at "sc"
theorem qaJ:zas ["_law_rows_here","_law_found","_law_row_here"] ["_law_rows_here"] (zaj zeO):=by walk_at "sc"
theorem qci:zas ["_law_script"] ["_law_script"] (zaj zeQ):=by walk_at "sc"
theorem qa3:zas ["_law_cell","_law_k","_law_one","_law_two"] ["_law_cell","_law_k"] (zaj zeL):=by walk_at "sc"
theorem qas:zas ["_law_state","_law_most","_law_k","_law_script","_law_cell","_law_found"] ["_law_state","_law_most"] (zaj zfV):=by walk_at "sc"
theorem qcf:zas ["_law_state","_law_way_here"] ["_law_state"] (zaj zhp):=by walk_at "sc"
theorem qaX:zas ["_law_state","_law_most","_law_way_here","_law_parents","_law_k"] ["_law_state","_law_most"] (zaj zfU):=by walk_at "sc"
theorem qbH:zas ["_law_state","_law_most","_law_found","_law_k"] ["_law_state","_law_most"] (zaj zho):=by walk_at "sc"
theorem qat:zas ["_law_state","_law_many","_law_most","_law_rows_here","_law_k","_law_row_here"] ["_law_state","_law_many","_law_most"] (zaj zfW):=by walk_at "sc"
theorem qbI:zas ["_law_tree_here","_law_knot"] ["_law_tree_here","_law_knot"] (zaj zcE):=by walk_at "sc"
theorem qbf:zas ["_law_state","_law_tree_here","_law_way_here","_law_some"] ["_law_state","_law_tree_here"] (zaj zhn):=by walk_at "sc"
theorem qbi:zas ["_law_entry","_law_key_here","_law_knot"] ["_law_entry"] (zaj zfX):=by walk_at "sc"
theorem qae:zas ["_law_numbers","_law_found","_law_k","_law_one","_law_other_here","_law_b"] ["_law_numbers"] (zaj zdP):=by walk_at "sc"
theorem qaj:zas ["_law_numbers","_law_found","_law_high","_law_at","_law_k","_law_beside"] ["_law_numbers"] (zaj zc0):=by walk_at "sc"
theorem qak:zas ["_law_entries","_law_numbers","_law_k","_law_shades","_law_found","_law_shade"] ["_law_entries"] (zaj zeM):=by walk_at "sc"
theorem qao:zas ["_law_tree_here","_law_rows_here","_law_found","_law_k","_law_up","_law_entry","_law_is_on"] ["_law_tree_here","_law_rows_here"] (zaj zeN):=by walk_at "sc"
theorem qaK:zas ["_law_state","_law_most","_law_keys","_law_tree_here"] ["_law_state"] (zaj zeI):=by walk_at "sc"
theorem qar:zas ["_law_state","_law_stand_here","_law_every_here","_law_key_here"] ["_law_state","_law_stand_here"] (zaj zb7):=by walk_at "sc"
theorem qcj:zas ["_law_keys","_law_key_here"] ["_law_keys","_law_key_here"] (zaj zeP):=by walk_at "sc"
theorem qck:zas ["_law_thing"] ["_law_thing"] (zaj zeH):=by walk_at "sc"
theorem qaL:zas ["_law_stand_here","_law_fulls_here","_law_way_here","_law_key_here","_law_found","_law_knot","_law_spot"] ["_law_stand_here","_law_fulls_here","_law_way_here","_law_key_here"] (zaj zeJ):=by walk_at "sc"
theorem qa4:zas ["_law_state","_law_stand_here","_law_number","_law_some"] ["_law_state","_law_stand_here","_law_number"] (zaj zeK):=by walk_at "sc"
theorem qaf:zas ["_law_state","_law_stand_here","_law_paper_here","_law_at","_law_line","_law_spot","_law_way_here","_law_other_here","_law_some"] ["_law_state","_law_stand_here","_law_paper_here"] (zaj zfY):=by walk_at "sc"
theorem qcg:zas ["_law_paper_here","_law_due_here","_law_line"] ["_law_paper_here","_law_due_here"] (zaj zhq):=by walk_at "sc"
theorem qam:zas ["_law_script","_law_state","_law_stand_here","_law_fulls_here","_law_other_here","_law_others","_law_turn","_law_way_here","_law_key_here","_law_due_here","_law_paper_here","_law_given","_law_again","_law_found","_law_theirs"] ["_law_script"] (zaj zns):=by walk_at "sc"
abbrev zcr:List Str:=["thing"]
abbrev zhu:List Str:=["entry"]
abbrev zcI:List Str:=["lists"]
abbrev zbC:List Str:=["one","other"]
abbrev zeW:List Str:=["numbers"]
abbrev zeX:List Str:=["entries"]
abbrev zbN:List Str:=["things","at"]
abbrev zb9:List Str:=["taken"]
abbrev zd6:List Str:=["numbers"]
abbrev zf3:List Str:=["entries"]
abbrev ze4:List Str:=["entries"]
abbrev zbm:List Str:=["many","thing"]
abbrev zcs:List Str:=["tree","knot"]
abbrev zd7:List Str:=["tree","knot"]
abbrev ze3:List Str:=["tree","thing"]
abbrev zc4:List Str:=["tree","thing"]
abbrev zbU:List Str:=["stand","knot"]
abbrev za4:List Str:=["stand","knot"]
abbrev zcJ:List Str:=["stand"]
abbrev zdT:List Str:=["full","knot"]
abbrev zcG:List Str:=["full","child_full"]
abbrev zcb:List Str:=["tree","fulls"]
abbrev zc3:List Str:=["bridges","knot","at","child"]
abbrev zd5:List Str:=["thing"]
abbrev zbW:List Str:=["full","at","key"]
abbrev zbD:List Str:=["bridges","line","below"]
abbrev zdU:List Str:=["stand","way","key","paper"]
abbrev zd2:List Str:=["_law_rows_here"]
abbrev zd4:List Str:=["_law_script"]
abbrev zdZ:List Str:=["_law_cell","_law_k"]
abbrev za9:List Str:=["_law_state","_law_most"]
abbrev ze0:List Str:=["_law_state"]
abbrev zeY:List Str:=["_law_state","_law_most"]
abbrev zf5:List Str:=["_law_state","_law_most"]
abbrev zeZ:List Str:=["_law_state","_law_many","_law_most"]
abbrev zca:List Str:=["_law_tree_here","_law_knot"]
abbrev zf4:List Str:=["_law_state","_law_tree_here"]
abbrev ze1:List Str:=["_law_entry"]
abbrev zc5:List Str:=["_law_numbers"]
abbrev zcH:List Str:=["_law_numbers"]
abbrev zd0:List Str:=["_law_entries"]
abbrev zd1:List Str:=["_law_tree_here","_law_rows_here"]
abbrev zdW:List Str:=["_law_state"]
abbrev zbV:List Str:=["_law_state","_law_stand_here"]
abbrev zd3:List Str:=["_law_keys","_law_key_here"]
abbrev zdV:List Str:=["_law_thing"]
abbrev zdX:List Str:=["_law_stand_here","_law_fulls_here","_law_way_here","_law_key_here"]
abbrev zdY:List Str:=["_law_state","_law_stand_here","_law_number"]
abbrev ze2:List Str:=["_law_state","_law_stand_here","_law_paper_here"]
abbrev zf6:List Str:=["_law_paper_here","_law_due_here"]
abbrev zjU:List Str:=["_law_script"]
structure Txt (K:Frag)(mg:Str→Option Value):Prop where
 qcZ:mg "abs" = none
 qcP:mg "all" = none
 qcr:mg "bool" = none
 qc0:mg "dict" = none
 qaM:mg "enumerate" = none
 qc1:mg "int" = none
 qac:mg "isinstance" = none
 qag:mg "len" = none
 qaY:mg "list" = none
 qcF:mg "max" = none
 qc2:mg "min" = none
 qad:mg "range" = none
 qcl:mg "reversed" = none
 qbg:mg "sorted" = none
 qc7:mg "str" = none
 qbj:mg "tuple" = none
 qcQ:mg "zip" = none
 qbD:∃ t,mg "KNOT_NUMBERS" = some (.int 64 t)
 qcR:∃ t,mg "TURNS" = some (.int 5 t)
 qaN:∃ t,mg "MOST_BEHIND_START" = some (.int 2 t)
theorem zi5 (m n i j:Nat)(hi:i < 2)(hj:j < 2):(2*m+i) &&& (2*n+j)=2*(m &&& n)+(i &&& j):=by
 apply Nat.eq_of_testBit_eq;intro k;cases k with
 | zero=>
  have h1:i=0∨i=1:=by omega
  have h2:j=0∨j=1:=by omega
  rcases h1 with rfl | rfl <;> rcases h2 with rfl | rfl <;> simp[Nat.testBit_zero] <;> omega
 | succ k=>
  have h1:i=0∨i=1:=by omega
  have h2:j=0∨j=1:=by omega
  have e1:(2*m+i)/2=m:=by omega
  have e2:(2*n+j)/2=n:=by omega
  have e3:(2*(m &&& n)+(i &&& j))/2=m &&& n:=by
   rcases h1 with rfl | rfl <;> rcases h2 with rfl | rfl <;> simp <;> omega
  rw[Nat.testBit_and,ybL,ybL,ybL,e1,e2,e3,Nat.testBit_and]
theorem zqR (m n i j:Nat)(hi:i < 2)(hj:j < 2):(2*m+i) ||| (2*n+j)=2*(m ||| n)+(i ||| j):=by
 apply Nat.eq_of_testBit_eq;intro k;cases k with
 | zero=>
  have h1:i=0∨i=1:=by omega
  have h2:j=0∨j=1:=by omega
  rcases h1 with rfl | rfl <;> rcases h2 with rfl | rfl <;> simp[Nat.testBit_zero] <;> omega
 | succ k=>
  have h1:i=0∨i=1:=by omega
  have h2:j=0∨j=1:=by omega
  have e1:(2*m+i)/2=m:=by omega
  have e2:(2*n+j)/2=n:=by omega
  have e3:(2*(m ||| n)+(i ||| j))/2=m ||| n:=by
   rcases h1 with rfl | rfl <;> rcases h2 with rfl | rfl <;> simp <;> omega
  rw[Nat.testBit_or,ybL,ybL,ybL,e1,e2,e3,Nat.testBit_or]
def lu (a b:Nat):Nat:=if a=b then 0 else if a % 2=b % 2 then lu (a / 2) (b / 2)+1 else 0
termination_by a+b
decreasing_by omega
theorem zhK {a b:Nat}(hab:a≠b)(h:a % 2=b % 2):lu a b=lu (a / 2) (b / 2)+1:=by
 rw[lu,if_neg hab,if_pos h]
theorem zka {a b:Nat}(h:a % 2≠b % 2):lu a b=0:=by
 rw[lu];split
 ·rfl
 ·rfl
def xr (a b:Nat):Nat:=(a ||| b) - (a &&& b)
def zfH (n:Nat):Nat:=n - (n &&& (n - 1))
theorem ziJ (a b:Nat):a &&& b≤a ||| b:=yar Nat.and_le_left Nat.left_le_or
theorem zrn (m n i j:Nat)(hi:i < 2)(hj:j < 2):xr (2*m+i) (2*n+j)=2 * xr m n+(if i=j then 0 else 1):=by
 unfold xr;rw[zqR m n i j hi hj,zi5 m n i j hi hj];have q:=ziJ m n;have h1:i=0∨i=1:=by omega
 have h2:j=0∨j=1:=by omega
 rcases h1 with rfl | rfl <;> rcases h2 with rfl | rfl <;> simp <;> omega
theorem zll (a b:Nat):xr a b=2 * xr (a / 2) (b / 2)+(if a % 2=b % 2 then 0 else 1):=by
 have e1:2 * (a / 2)+a % 2=a:=by omega
 have e2:2 * (b / 2)+b % 2=b:=by omega
 have q:=zrn (a / 2) (b / 2) (a % 2) (b % 2) (by omega) (by omega);rw[e1,e2]at q;exact q
theorem zoo:∀(n a b:Nat),a+b≤n→a≠b→0 < xr a b:=by
 intro n
 induction n with
 | zero=>intro a b h1 h2;omega
 | succ n ih=>
  intro a b h1 h2;rw[zll];by_cases h:a % 2=b % 2
  ·have:=ih (a / 2) (b / 2) (by omega) (by omega);omega
  ·rw[if_neg h];omega
theorem zpJ (m:Nat):zfH (2 * m+1)=1:=by
 unfold zfH;have q:=zi5 m m 1 0 (by omega) (by omega);have e:2 * m+1 - 1=2 * m+0:=by omega
 rw[e,q];simp
theorem znX (m:Nat)(h:0 < m):zfH (2 * m)=2 * zfH m:=by
 unfold zfH;have q:=zi5 m (m - 1) 0 1 (by omega) (by omega);have e:2 * m - 1=2 * (m - 1)+1:=by omega
 have e':2 * m=2 * m+0:=by omega
 rw[e];have:(2 * m &&& 2 * (m - 1)+1)=2 * (m &&& m - 1)+(0 &&& 1):=q;rw[this];have z:m &&& (m - 1)≤m:=Nat.and_le_left;simp;omega
theorem zqP:∀(n a b:Nat),a+b≤n→a≠b→zfH (xr a b)=2 ^ lu a b:=by
 intro n
 induction n with
 | zero=>intro a b h1 h2;omega
 | succ n ih=>
  intro a b h1 h2;rw[zll];by_cases h:a % 2=b % 2
  ·rw[if_pos h,zhK h2 h,ybq,znX _ (zoo n _ _ (by omega) (by omega)),ih _ _ (by omega) (by omega),ybM];omega
  ·rw[if_neg h,zka h,zpJ,Nat.pow_zero]
theorem zpI:∀(n a b:Nat),a+b≤n→a≠b→a % 2 ^ lu a b=b % 2 ^ lu a b∧a % 2 ^ (lu a b+1)≠b % 2 ^ (lu a b+1):=by
 intro n
 induction n with
 | zero=>intro a b h1 h2;omega
 | succ n ih=>
  intro a b h1 h2;by_cases h:a % 2=b % 2
  ·rw[zhK h2 h];obtain ⟨q1,q2⟩:=ih (a / 2) (b / 2) (by omega) (by omega);have s:∀ x k:Nat,x % 2 ^ (k+1)=2 * (x / 2 % 2 ^ k)+x % 2:=by
    intro x k;rw[ybM,Nat.mul_comm,Nat.mod_mul];omega
   rw[s a,s b,s a,s b];constructor
   ·omega
   ·omega
  ·rw[zka h];simp[Nat.mod_one];omega
theorem zrC:∀(k a b:Nat),a≠b→a < 2 ^ k→b < 2 ^ k→lu a b < k:=by
 intro k
 induction k with
 | zero=>intro a b h1 h2 h3;simp at h2 h3;omega
 | succ k ih=>
  intro a b h1 h2 h3;by_cases h:a % 2=b % 2
  ·rw[zhK h1 h];have:=ih (a / 2) (b / 2) (by omega) (by rw[ybM]at h2;omega) (by rw[ybM]at h3;omega);omega
  ·rw[zka h];omega
def fig (a b:Nat):Nat:=2 * lu a b+b / 2 ^ lu a b % 2
theorem zhP (a b:Nat):fig a b / 2=lu a b:=by
 unfold fig;have:=Nat.mod_lt (b / 2 ^ lu a b) (by decide:0 < 2);omega
theorem zjf (a b:Nat):fig a b % 2=b / 2 ^ lu a b % 2:=by
 unfold fig;have:=Nat.mod_lt (b / 2 ^ lu a b) (by decide:0 < 2);omega
theorem zfE (x k:Nat):x % 2 ^ (k+1)=x % 2 ^ k+2 ^ k * (x / 2 ^ k % 2):=by
 rw[ybM,Nat.mod_mul]
theorem zoO {a b:Nat}(h:a≠b):a / 2 ^ lu a b % 2≠b / 2 ^ lu a b % 2:=by
 obtain ⟨h1,h2⟩:=zpI _ a b (yaa _) h;intro e;apply h2;rw[zfE,zfE,h1,e]
theorem zrd {a b c:Nat}(h2:b≠c):fig a b≠fig b c:=by
 intro e;have e1:lu a b=lu b c:=by rw[← zhP,e,zhP]
 have e2:b / 2 ^ lu a b % 2=c / 2 ^ lu b c % 2:=by rw[← zjf,e,zjf]
 rw[e1]at e2;exact zoO h2 e2
theorem zpX {a b:Nat}(h:a≠b):a % 2≠fig a b:=by
 intro e;have l:a % 2 < 2:=Nat.mod_lt _ (by decide);have e1:lu a b=0:=by
  have:=zhP a b;omega
 have e2:=zjf a b;have e3:=zoO h;rw[e1]at e2 e3;simp at e2 e3;omega
theorem zre {a b k:Nat}(h:a≠b)(ha:a < 2 ^ k)(hb:b < 2 ^ k):fig a b < 2 * k:=by
 have:=zrC k a b h ha hb;have:=Nat.mod_lt (b / 2 ^ lu a b) (by decide:0 < 2);unfold fig;omega
def zcQ (xs:List Nat)(i:Nat):Nat:=if i=0 then xs.getD 0 0 % 2 else fig (xs.getD (i - 1) 0) (xs.getD i 0)
def zco (xs:List Nat):List Nat:=(List.range xs.length).map (zcQ xs)
theorem zbd (xs:List Nat):(zco xs).length=xs.length:=by unfold zco;rw[yab,yaX]
theorem zh0 {xs:List Nat}{i:Nat}(h:i < xs.length):(zco xs)[i]?=some (zcQ xs i):=by
 unfold zco;rw[yal,ybt h];rfl
theorem zfn {xs:List Nat}{i:Nat}(h:i < xs.length):(zco xs).getD i 0=zcQ xs i:=by
 rw[yad,zh0 h];rfl
theorem zgN {xs:List Nat}{i:Nat}(h:i < xs.length):(zco xs).take (i+1)=(zco xs).take i++[zcQ xs i]:=by
 have h':i < (zco xs).length:=by rw[zbd];exact h
 rw[yaB h'];have:=zh0 h;rw[yac h']at this;rw[yae this]
def Unl (xs:List Nat):Prop:=∀ i,i+1 < xs.length→xs.getD i 0≠xs.getD (i+1) 0
theorem zlw {xs:List Nat}(h:Unl xs):Unl (zco xs):=by
 intro i hi;rw[zbd]at hi;rw[zfn (by omega),zfn hi];unfold zcQ;rw[if_neg (by omega:¬ i+1=0),ybN];by_cases h0:i=0
 ·subst h0;rw[if_pos rfl];exact zpX (h 0 hi)
 ·rw[if_neg h0];exact zrd (h i hi)
def zdo (m:Nat)(xs:List Nat):Prop:=∀ i,i < xs.length→xs.getD i 0 < m
theorem zcn {xs:List Nat}{k:Nat}(hk:1≤k)(h:Unl xs)(hb:zdo (2 ^ k) xs):zdo (2 * k) (zco xs):=by
 intro i hi;rw[zbd]at hi;rw[zfn hi];unfold zcQ;split
 ·have:xs.getD 0 0 % 2 < 2:=Nat.mod_lt _ (by decide);omega
 ·have:=h (i - 1) (by omega);rw[show i - 1+1=i by omega]at this;exact zre this (hb _ (by omega)) (hb _ hi)
theorem zoZ (a b:Nat):Builtin.bitXor (a:Int) (b:Int)=((xr a b:Nat):Int):=by
 have h1:Builtin.bitAnd (a:Int) (b:Int)=((a &&& b:Nat):Int):=by
  unfold Builtin.bitAnd;rw[yah (ybx a),yah (ybx b)];rfl
 have n1:¬ (0:Int)≤Builtin.bitNot (a:Int):=by unfold Builtin.bitNot;omega
 have n2:¬ (0:Int)≤Builtin.bitNot (b:Int):=by unfold Builtin.bitNot;omega
 have h2:Builtin.bitOr (a:Int) (b:Int)=((a ||| b:Nat):Int):=by
  unfold Builtin.bitOr Builtin.bitAnd;rw[yaq n1,yaq n2];have e:∀ x:Int,Builtin.bitNot (Builtin.bitNot x)=x:=fun x=>by unfold Builtin.bitNot;omega
  show Builtin.bitNot (Builtin.bitNot _)=_;rw[e,e,e];rfl
 unfold Builtin.bitXor xr;rw[h1,h2];have:=ziJ a b;omega
theorem zp7 (n:Nat)(h:0 < n):Builtin.bitAnd (n:Int) (-(n:Int))=((zfH n:Nat):Int):=by
 have n2:¬ (0:Int)≤-(n:Int):=by omega
 have e:(Builtin.bitNot (-(n:Int))).toNat=n - 1:=by unfold Builtin.bitNot;omega
 unfold Builtin.bitAnd zfH;rw[yah (ybx n),yaq n2];show (n:Int) - (((n:Int).toNat &&& (Builtin.bitNot (-(n:Int))).toNat:Nat):Int)=_;rw[e,ya9];have:n &&& (n - 1)≤n:=Nat.and_le_left;omega
theorem zqQ (a b:Nat)(h:a≠b):((Builtin.Int.intBits (Builtin.bitAnd (Builtin.bitXor (a:Int) (b:Int)) (-(Builtin.bitXor (a:Int) (b:Int)))):Nat):Int) - 1=((lu a b:Nat):Int):=by
 rw[zoZ,zp7 _ (zoo _ a b (yaa _) h),zqP _ a b (yaa _) h];unfold Builtin.Int.intBits;have p:0 < 2 ^ lu a b:=Nat.two_pow_pos _;rw[if_neg (by
  intro z;have z':=eq_of_beq z;omega),Int.natAbs_natCast,Nat.log2_two_pow]
 omega
def atZ {α:Type}(l:List α)(i:Int):Option α:=if 0≤i then l[i.toNat]? else none
theorem zdh {α:Type}(l:List α)(i:Nat):atZ l (i:Int)=l[i]?:=by
 unfold atZ;rw[if_pos (ybx i),ya9]
theorem zhU {α:Type}{l:List α}{i:Int}(h:i < 0):atZ l i=none:=by
 unfold atZ;rw[if_neg (by omega)]
theorem zhT {α:Type}{l:List α}{i:Int}{x:α}(h:atZ l i=some x):0≤i∧i < l.length:=by
 unfold atZ at h;split at h
 ·have:=(yaf.mp h).1;omega
 ·cases h
theorem zoX {α:Type}{l:List α}{i:Int}(h0:0≤i)(h:i < l.length):∃ x,atZ l i=some x:=by
 unfold atZ;rw[if_pos h0];exact ⟨_,yac (by omega)⟩
def zk5 {α β:Type}(f:Option α→α→Option α→β):Option α→List α→List β
 | _,[]=>[]
 | p,x::l=>f p x l.head? :: zk5 f (some x) l
def mapW {α β:Type}(f:Option α→α→Option α→β)(l:List α):List β:=zk5 f none l
theorem zdB {α β:Type}(f:Option α→α→Option α→β):∀(l:List α) (p:Option α) (k:Nat),(zk5 f p l)[k]?=l[k]?.map fun x=>f (if k=0 then p else l[k - 1]?) x l[k+1]?
 | [],_,_=>rfl
 | x::l,p,0=>by
  show some (f p x l.head?)=some (f p x l[0]?);rw[List.head?_eq_getElem?]
 | x::l,p,k+1=>by
  show (zk5 f (some x) l)[k]?=l[k]?.map fun y=>f (x::l)[k]? y l[k+1]?;rw[zdB f l (some x) k];cases k with
  | zero=>rfl
  | succ k=>rfl
theorem zfG {α β:Type}(f:Option α→α→Option α→β):∀(l:List α) (p:Option α),(zk5 f p l).length=l.length
 | [],_=>rfl
 | x::l,p=>by
  show (zk5 f (some x) l).length+1=l.length+1;rw[zfG f l]
theorem zcu {α β:Type}(f:Option α→α→Option α→β)(l:List α):(mapW f l).length=l.length:=zfG f l none
theorem zhJ {α β:Type}(f:Option α→α→Option α→β)(l:List α)(i:Int):atZ (mapW f l) i=(atZ l i).map fun x=>f (atZ l (i - 1)) x (atZ l (i+1)):=by
 by_cases h:0≤i
 ·obtain ⟨k,rfl⟩:∃ k:Nat,i=(k:Int):=⟨i.toNat,by omega⟩;rw[zdh,zdh,mapW,zdB,show ((k:Int)+1)=((k+1:Nat):Int) by omega,zdh];have e:atZ l ((k:Int) - 1)=if k=0 then none else l[k - 1]?:=by
   split
   ·rw[zhU (by omega)]
   ·rw[show ((k:Int) - 1)=((k - 1:Nat):Int) by omega,zdh]
  rw[e]
 ·rw[zhU (l:=mapW f l) (by omega),zhU (l:=l) (i:=i) (by omega)];rfl
def UnlZ (xs:List Nat):Prop:=∀(i:Int) (x y:Nat),atZ xs i=some x→atZ xs (i+1)=some y→x≠y
theorem unlZ {xs:List Nat}(h:Unl xs):UnlZ xs:=by
 intro i x y hx hy;obtain ⟨a,b⟩:=zhT hx;obtain ⟨_,c⟩:=zhT hy;obtain ⟨k,rfl⟩:∃ k:Nat,i=(k:Int):=⟨i.toNat,by omega⟩;rw[zdh]at hx;rw[show ((k:Int)+1)=((k+1:Nat):Int) by omega,zdh]at hy;have:=h k (by omega);rw[yad,yad,hx,hy]at this;exact this
theorem zlt {xs:List Nat}(h:UnlZ xs):Unl xs:=by
 intro k hk;have:=h k xs[k] xs[k+1] (by rw[zdh];exact yac (by omega)) (by rw[show ((k:Int)+1)=((k+1:Nat):Int) by omega,zdh];exact yac hk);rw[yad,yad,yac (show k < xs.length by omega),yac hk];exact this
def zfO (p n:Option Nat):Nat:=if p≠some 0∧n≠some 0 then 0 else if p≠some 1∧n≠some 1 then 1 else 2
theorem zkr (p n:Option Nat):zfO p n≤2:=by
 unfold zfO;split
 ·omega
 ·split <;> omega
theorem zfx {p n:Option Nat}{x:Nat}(h:p=some x):zfO p n≠x:=by
 subst h;unfold zfO;split
 ·rename_i c;intro z;exact c.1 (by rw[← z])
 ·split
  ·rename_i c;intro z;exact c.1 (by rw[← z])
  ·rename_i c d;intro z;subst z;have c1:n=some 0:=Decidable.byContradiction fun q=>c ⟨by decide,q⟩;have d1:n=some 1:=Decidable.byContradiction fun q=>d ⟨by decide,q⟩;rw[c1]at d1;cases d1
theorem zlc (p n:Option Nat):zfO p n=zfO n p:=by
 unfold zfO;simp only[And.comm]
theorem zg5 {p n:Option Nat}{x:Nat}(h:n=some x):zfO p n≠x:=by
 rw[zlc];exact zfx h
def recF (v:Nat)(p:Option Nat)(x:Nat)(n:Option Nat):Nat:=if x=v then zfO p n else x
def recL (v:Nat)(xs:List Nat):List Nat:=mapW (recF v) xs
theorem zbg (v:Nat)(xs:List Nat):(recL v xs).length=xs.length:=zcu _ _
theorem zf2 {v:Nat}{xs:List Nat}(h:UnlZ xs):UnlZ (recL v xs):=by
 intro i x y hx hy;unfold recL at hx hy;rw[zhJ]at hx hy;cases ex:atZ xs i with
 | none=>rw[ex]at hx;cases hx
 | some x0=>
  cases ey:atZ xs (i+1) with
  | none=>rw[ey]at hy;cases hy
  | some y0=>
   rw[ex]at hx;rw[ey]at hy;have hx:x=recF v (atZ xs (i - 1)) x0 (atZ xs (i+1)):=(yae hx).symm;have hy:y=recF v (atZ xs (i+1 - 1)) y0 (atZ xs (i+1+1)):=(yae hy).symm;have n0:=h i x0 y0 ex ey;have e1:i+1 - 1=i:=by omega
   unfold recF at hx hy;rw[e1,ex]at hy;rw[ey]at hx;split at hx
   ·rename_i c;split at hy
    ·rename_i c';omega
    ·rw[hx,hy];exact zg5 rfl
   ·split at hy
    ·rw[hx,hy];exact (zfx rfl).symm
    ·omega
theorem zhs {v:Nat}{P:Nat→Prop}{xs:List Nat}(hP:∀ x,x≤2→P x)(h:∀ i x,atZ xs i=some x→x=v∨P x):∀ i x,atZ (recL v xs) i=some x→P x:=by
 intro i x hx;unfold recL at hx;rw[zhJ]at hx;cases ex:atZ xs i with
 | none=>rw[ex]at hx;cases hx
 | some x0=>
  rw[ex]at hx;have hx:x=recF v (atZ xs (i - 1)) x0 (atZ xs (i+1)):=(yae hx).symm;unfold recF at hx;split at hx
  ·rw[hx];exact hP _ (zkr _ _)
  ·rw[hx];rcases h i x0 ex with q | q
   ·exact absurd q (by assumption)
   ·exact q
def colL (xs:List Nat):List Nat:=recL 5 (recL 4 (recL 3 xs))
theorem zew (xs:List Nat):(colL xs).length=xs.length:=by
 unfold colL;rw[zbg,zbg,zbg]
theorem zhS {xs:List Nat}(h:UnlZ xs):UnlZ (colL xs):=zf2 (zf2 (zf2 h))
theorem zp3 {xs:List Nat}(h:∀ i x,atZ xs i=some x→x≤5):∀ i x,atZ (colL xs) i=some x→x≤2:=by
 refine zhs (P:=fun x=>x≤2) (fun x h=>h) ?_;refine zhs (P:=fun x=>x=5∨x≤2) (fun x h=>.inr h) ?_;refine zhs (P:=fun x=>x=4∨x=5∨x≤2) (fun x h=>.inr (.inr h)) ?_;intro i x e;have:=h i x e;omega
def zpH (sh:Nat)(p:Option (Nat×Bool))(x:Nat×Bool)(n:Option (Nat×Bool)):Nat×Bool:=
 (x.1,x.2 || (decide (x.1=sh) && p.isSome && !(p.map (·.2)).getD false && !(n.map (·.2)).getD false))
def zcU (sh:Nat)(l:List (Nat×Bool)):List (Nat×Bool):=mapW (zpH sh) l
def zdm (c:List Nat):List (Nat×Bool):=c.map fun x=>(x,false)
def marked (c:List Nat):List (Nat×Bool):=zcU 0 (zcU 1 (zcU 2 (zdm c)))
def zfa (c:List Nat):List Bool:=(marked c).map (·.2)
theorem zhG (c:List Nat):(marked c).length=c.length:=by
 unfold marked zcU zdm;rw[zcu,zcu,zcu,yab]
theorem ze9 (c:List Nat):(zfa c).length=c.length:=by
 unfold zfa;rw[yab,zhG]
theorem zjB (c:List Nat)(i:Int):atZ (zdm c) i=(atZ c i).map fun x=>(x,false):=by
 unfold zdm atZ;split
 ·rw[yal]
 ·rfl
def mkZ (l:List (Nat×Bool))(i:Int):Bool:=((atZ l i).map (·.2)).getD false
def clZ (l:List (Nat×Bool))(i:Int):Option Nat:=(atZ l i).map (·.1)
theorem zpG (sh:Nat)(l:List (Nat×Bool))(i:Int):clZ (zcU sh l) i=clZ l i:=by
 unfold clZ zcU;rw[zhJ];cases atZ l i <;> rfl
theorem zhH (sh:Nat)(l:List (Nat×Bool))(i:Int):mkZ (zcU sh l) i=(mkZ l i || (decide (clZ l i=some sh) && (clZ l (i - 1)).isSome && !mkZ l (i - 1) && !mkZ l (i+1))):=by
 unfold mkZ clZ zcU;rw[zhJ];cases atZ l i with
 | none=>simp
 | some x=>
  unfold zpH;cases atZ l (i - 1) <;> cases atZ l (i+1) <;> simp
structure MkOk (c:List Nat)(l:List (Nat×Bool)):Prop where
 cl:∀ i,clZ l i=atZ c i
 ind:∀ i,mkZ l i=true→mkZ l (i+1)=true→False
 fst:∀ i,mkZ l i=true→(atZ c (i - 1)).isSome=true∧(atZ c i).isSome=true
theorem zfQ (c:List Nat):MkOk c (zdm c):=by
 have e:∀ i,mkZ (zdm c) i=false:=fun i=>by
  unfold mkZ;rw[zjB];cases atZ c i <;> rfl
 refine ⟨fun i=>?_,fun i h=>?_,fun i h=>?_⟩
 ·unfold clZ;rw[zjB];cases atZ c i <;> rfl
 ·rw[e]at h;cases h
 ·rw[e]at h;cases h
theorem zfu {c:List Nat}{l:List (Nat×Bool)}{sh:Nat}(hu:UnlZ c)(h:MkOk c l):MkOk c (zcU sh l):=by
 refine ⟨fun i=>by rw[zpG,h.cl],fun i h1 h2=>?_,fun i h1=>?_⟩
 ·rw[zhH]at h1 h2;simp only[ybY,ya1,decide_eq_true_eq,ybp]at h1 h2;rw[show i+1 - 1=i by omega]at h2;rcases h1 with h1 | h1 <;> rcases h2 with h2 | h2
  ·exact h.ind i h1 h2
  ·rw[h1]at h2;exact absurd h2.1.2 (by decide)
  ·rw[h2]at h1;exact absurd h1.2 (by decide)
  ·have a:=h1.1.1.1;have b:=h2.1.1.1;rw[h.cl]at a b;exact hu i sh sh a b rfl
 ·rw[zhH]at h1;simp only[ybY,ya1,decide_eq_true_eq,ybp]at h1;rcases h1 with h1 | h1
  ·exact h.fst i h1
  ·refine ⟨?_,?_⟩
   ·rw[← h.cl];exact h1.1.1.2
   ·rw[← h.cl,h1.1.1.1];rfl
theorem zbr {sh:Nat}{l:List (Nat×Bool)}{i:Int}(h:mkZ l i=true):mkZ (zcU sh l) i=true:=by
 rw[zhH,h];rfl
theorem zhI {c:List Nat}{l:List (Nat×Bool)}{sh:Nat}{i:Int}(h:MkOk c l)(hc:atZ c i=some sh)(hp:(atZ c (i - 1)).isSome=true):mkZ (zcU sh l) (i - 1)=true∨mkZ (zcU sh l) i=true∨mkZ (zcU sh l) (i+1)=true:=by
 by_cases a:mkZ l (i - 1)=true
 ·exact .inl (zbr a)
 ·by_cases b:mkZ l (i+1)=true
  ·exact .inr (.inr (zbr b))
  ·refine .inr (.inl ?_);rw[zhH,h.cl,h.cl,hc,hp,ybO.mpr a,ybO.mpr b];simp
theorem zik {c:List Nat}(hu:UnlZ c):MkOk c (marked c):=zfu hu (zfu hu (zfu hu (zfQ c)))
theorem zk4 {c:List Nat}(hu:UnlZ c)(hc:∀ i x,atZ c i=some x→x≤2){i:Int}(h1:(atZ c (i - 1)).isSome=true)(h2:(atZ c i).isSome=true):mkZ (marked c) (i - 1)=true∨mkZ (marked c) i=true∨mkZ (marked c) (i+1)=true:=by
 obtain ⟨x,hx⟩:=yct.mp h2;have hle:=hc i x hx;have z:x=2∨x=1∨x=0:=by omega
 rcases z with rfl | rfl | rfl
 ·rcases zhI (zfQ c) hx h1 with q | q | q
  ·exact .inl (zbr (zbr q))
  ·exact .inr (.inl (zbr (zbr q)))
  ·exact .inr (.inr (zbr (zbr q)))
 ·rcases zhI (zfu (sh:=2) hu (zfQ c)) hx h1 with q | q | q
  ·exact .inl (zbr q)
  ·exact .inr (.inl (zbr q))
  ·exact .inr (.inr (zbr q))
 ·exact zhI (zfu (sh:=1) hu (zfu (sh:=2) hu (zfQ c))) hx h1
structure zdK (ms:List Bool):Prop where
 fst:ms.getD 0 false=false
 ind:∀ i,ms.getD i false=true→ms.getD (i+1) false=true→False
 dom:∀ i,1≤i→i < ms.length→ms.getD (i - 1) false=true∨ms.getD i false=true∨ms.getD (i+1) false=true
theorem zct (c:List Nat)(i:Nat):(zfa c).getD i false=mkZ (marked c) (i:Int):=by
 unfold mkZ zfa;rw[zdh,yad,yal]
theorem zmn {c:List Nat}(hu:UnlZ c)(hc:∀ i x,atZ c i=some x→x≤2):zdK (zfa c):=by
 refine ⟨?_,fun i h1 h2=>?_,fun i h1 h2=>?_⟩
 ·rw[zct];cases e:mkZ (marked c) ((0:Nat):Int) with
  | false=>rfl
  | true=>
   have:=((zik hu).fst _ e).1;rw[zhU (by omega)]at this;cases this
 ·rw[zct]at h1 h2;exact (zik hu).ind i h1 h2
 ·rw[ze9]at h2;have a:(atZ c ((i:Int) - 1)).isSome=true:=by
   obtain ⟨x,hx⟩:=zoX (l:=c) (i:=(i:Int) - 1) (by omega) (by omega);rw[hx];rfl
  have b:(atZ c (i:Int)).isSome=true:=by
   obtain ⟨x,hx⟩:=zoX (l:=c) (i:=(i:Int)) (by omega) (by omega);rw[hx];rfl
  rcases zk4 hu hc a b with q | q | q
  ·refine .inl ?_;rw[zct,show ((i - 1:Nat):Int)=(i:Int) - 1 by omega];exact q
  ·refine .inr (.inl ?_);rw[zct];exact q
  ·refine .inr (.inr ?_);rw[zct];exact q
theorem zjc {p n:Option Nat}{y:Nat}(h:y < zfO p n):p=some y∨n=some y:=by
 unfold zfO at h;split at h
 ·omega
 ·rename_i c;have c0:p=some 0∨n=some 0:=Decidable.byContradiction fun q=>c ⟨fun z=>q (.inl z),fun z=>q (.inr z)⟩;split at h
  ·have:y=0:=by omega
   subst this;exact c0
  ·rename_i d;have d0:p=some 1∨n=some 1:=Decidable.byContradiction fun q=>d ⟨fun z=>q (.inl z),fun z=>q (.inr z)⟩;have:y=0∨y=1:=by omega
   rcases this with rfl | rfl
   ·exact c0
   ·exact d0
def zaK (xs:List Nat)(k:Nat):List Nat:=(if k=0 then none else xs[k - 1]?).toList++xs[k+1]?.toList
theorem zgz {xs:List Nat}{k y:Nat}:y∈zaK xs k↔(if k=0 then none else xs[k - 1]?)=some y∨xs[k+1]?=some y:=by
 unfold zaK;rw[yao,Option.mem_toList,Option.mem_toList]
def zcw (xs:List Nat)(k:Nat):Nat:=zfO (if k=0 then none else xs[k - 1]?) xs[k+1]?
theorem zg4 {xs:List Nat}{k:Nat}:zcw xs k∉zaK xs k:=fun h=>by
 rcases zgz.mp h with q | q
 ·exact zfx q rfl
 ·exact zg5 q rfl
theorem zfL {xs:List Nat}{k y:Nat}(h:y < zcw xs k):y∈zaK xs k:=zgz.mpr (zjc h)
theorem ziv (xs:List Nat)(k:Nat):zcw xs k≤2:=zkr _ _
theorem ziw {xs:List Nat}{k:Nat}:((List.range 3).filter fun c=>!decide (c∈zaK xs k)).head?=some (zcw xs k):=by
 have h1:=zg4 (xs:=xs) (k:=k);have h2:=fun y=>zfL (xs:=xs) (k:=k) (y:=y);have h3:=ziv xs k;rw[show List.range 3=[0,1,2] from rfl];generalize zcw xs k=f at h1 h2 h3 ⊢;have z:f=0∨f=1∨f=2:=by omega
 rcases z with rfl | rfl | rfl
 ·simp[List.filter,h1]
 ·simp[List.filter,h1,h2 0 (by omega)]
 ·simp[List.filter,h1,h2 0 (by omega),h2 1 (by omega)]
theorem zhr {v:Nat}{xs:List Nat}{k:Nat}(h:k < xs.length):(recL v xs)[k]?=some (if xs.getD k 0=v then zcw xs k else xs.getD k 0):=by
 unfold recL mapW;rw[zdB,yad,yac h];rfl
def mixL (v:Nat)(xs:List Nat)(k:Nat):List Nat:=(recL v xs).take k++xs.drop k
theorem zj7 {v:Nat}{xs:List Nat}{k:Nat}(h:xs.length≤k):mixL v xs k=recL v xs:=by
 unfold mixL;rw[yap (by rw[zbg];exact h),yaV h,yaG]
theorem zes (v:Nat)(xs:List Nat)(k:Nat):(mixL v xs k).length=xs.length:=by
 unfold mixL;rw[yak,yaj,yaP,zbg];omega
theorem zd8 (v:Nat)(xs:List Nat)(k j:Nat):(mixL v xs k)[j]?=if j < k then (recL v xs)[j]? else xs[j]?:=by
 unfold mixL;by_cases hk:k≤xs.length
 ·rw[List.getElem?_append,yaj,zbg,ybr hk];split
  ·rw[ybH];rw[if_pos (by assumption)]
  ·rw[ybV];congr 1;omega
 ·rw[yaV (by omega),yaG,yap (by rw[zbg];omega)];split
  ·rfl
  ·rw[yaU (by rw[zbg];omega),yaU (by omega)]
theorem zmm {v:Nat}{xs:List Nat}{k j:Nat}(h:k≤j):(mixL v xs k)[j]?=xs[j]?:=by
 rw[zd8,if_neg (by omega)]
theorem zih {v:Nat}{xs:List Nat}{k:Nat}(h:k < xs.length)(hv:xs.getD k 0≠v):mixL v xs (k+1)=mixL v xs k:=by
 apply ybi;intro j;rw[zd8,zd8];by_cases c:j < k
 ·rw[if_pos c,if_pos (by omega)]
 ·rw[if_neg c];split
  ·have:j=k:=by omega
   subst this;rw[zhr h,if_neg hv,yad,yac h];rfl
  ·rfl
theorem zgW {v:Nat}{xs:List Nat}{k m:Nat}(hkm:k≤m)(hm:m≤xs.length)(hv:∀ j,k≤j→j < m→xs.getD j 0≠v):mixL v xs m=mixL v xs k:=by
 induction m with
 | zero=>
  have:k=0:=by omega
  rw[this]
 | succ m ih=>
  by_cases c:k=m+1
  ·rw[c]
  ·rw[zih (by omega) (hv m (by omega) (by omega)),ih (by omega) (by omega) (fun j a b=>hv j a (by omega))]
theorem zml {v:Nat}{xs:List Nat}{k:Nat}(hu:Unl xs)(h:k < xs.length)(hv:xs.getD k 0=v):(if k=0 then none else (mixL v xs k)[k - 1]?)=if k=0 then none else xs[k - 1]?:=by
 cases k with
 | zero=>rfl
 | succ k=>
  show (mixL v xs (k+1))[k]?=xs[k]?;rw[zd8,if_pos (by omega),zhr (by omega)];have:=hu k h;rw[hv]at this;rw[if_neg this,yad,yac (show k < xs.length by omega)];rfl
theorem zgi {v:Nat}{xs:List Nat}{k:Nat}(hu:Unl xs)(h:k < xs.length)(hv:xs.getD k 0=v):zaK (mixL v xs k) k=zaK xs k:=by
 unfold zaK;rw[zml hu h hv,zmm (j:=k+1) (by omega)]
theorem zj6 {v:Nat}{xs:List Nat}{k:Nat}(h:k < xs.length)(hv:xs.getD k 0=v):mixL v xs (k+1)=(mixL v xs k).set k (zcw xs k):=by
 apply ybi;intro j;rw[yb0,zes,zd8,zd8];by_cases c:k=j
 ·subst c;rw[if_pos rfl,if_pos h,if_pos (by omega),zhr h,if_pos hv]
 ·rw[if_neg c];by_cases c2:j < k
  ·rw[if_pos c2,if_pos (by omega)]
  ·rw[if_neg c2,if_neg (by omega)]
def zb3 (sh:Nat)(cs:List Nat)(ms:List Bool):List Bool:=(zcU sh (cs.zip ms)).map (·.2)
theorem zaX {sh:Nat}{cs:List Nat}{ms:List Bool}(h:cs.length=ms.length):(zb3 sh cs ms).length=ms.length:=by
 unfold zb3 zcU;rw[yab,zcu,yci];omega
theorem ziN {cs:List Nat}:∀{ms:List Bool},cs.length=ms.length→(cs.zip ms).map (·.1)=cs:=by
 induction cs with
 | nil=>intro ms _;rfl
 | cons c cs ih=>
  intro ms h;cases ms with
  | nil=>cases h
  | cons m ms=>
   show c::(cs.zip ms).map (·.1)=c::cs;rw[ih (Nat.succ.inj h)]
theorem zju:∀(l:List (Nat×Bool)),(l.map (·.1)).zip (l.map (·.2))=l
 | []=>rfl
 | x::l=>by
  show x::(l.map (·.1)).zip (l.map (·.2))=x::l;rw[zju l]
theorem zmo (sh:Nat)(l:List (Nat×Bool)):(zcU sh l).map (·.1)=l.map (·.1):=by
 apply ybi;intro k;unfold zcU mapW;rw[yal,yal,zdB];cases l[k]? <;> rfl
theorem zil {sh:Nat}{cs:List Nat}{ms:List Bool}(h:cs.length=ms.length):zcU sh (cs.zip ms)=cs.zip (zb3 sh cs ms):=by
 have e:=zju (zcU sh (cs.zip ms));rw[zmo,ziN h]at e;exact e.symm
theorem zlG (cs:List Nat):zdm cs=cs.zip (cs.map fun _=>false):=by
 unfold zdm
 induction cs with
 | nil=>rfl
 | cons c cs ih=>
  show (c,false)::cs.map (fun x=>(x,false))=(c,false)::cs.zip (cs.map fun _=>false);rw[ih]
theorem zij (cs:List Nat):zfa cs=zb3 0 cs (zb3 1 cs (zb3 2 cs (cs.map fun _=>false))):=by
 have l1:cs.length=(cs.map fun _=>false).length:=by rw[yab]
 have l2:cs.length=(zb3 2 cs (cs.map fun _=>false)).length:=by rw[zaX l1,← l1]
 unfold zfa marked;rw[zlG,zil l1,zil l2];rfl
theorem zci {sh:Nat}{cs:List Nat}{ms:List Bool}(hl:cs.length=ms.length){k:Nat}(h:k < cs.length):(zb3 sh cs ms)[k]?=some (ms.getD k false || (decide (cs.getD k 0=sh) && decide (1≤k) && !ms.getD (k - 1) false && !ms.getD (k+1) false)):=by
 unfold zb3 zcU mapW;have gz:∀ j,(cs.zip ms)[j]?=if h:j < cs.length then some (cs[j],ms[j]'(by omega)) else none:=fun j=>by
  split
  ·rename_i q;rw[yac (by rw[yci];omega),List.getElem_zip]
  ·exact yaU (by rw[yci];omega)
 have gm:∀ j,ms.getD j false=(((cs.zip ms)[j]?).map (·.2)).getD false:=fun j=>by
  rw[gz];split
  ·rw[yad,yac (by omega)];rfl
  ·rw[yad,yaU (by omega)];rfl
 rw[yal,zdB,gm k,gm (k+1),gm (k - 1),yad,yac h];have e:=gz k;rw[dif_pos h]at e;rw[e];show some _=some _;unfold zpH;cases k with
 | zero=>simp
 | succ k=>
  have e2:=gz k;rw[dif_pos (by omega)]at e2;simp[e2]
def mixM (sh:Nat)(cs:List Nat)(ms:List Bool)(k:Nat):List Bool:=(zb3 sh cs ms).take k++ms.drop k
theorem zj5 {sh:Nat}{cs:List Nat}{ms:List Bool}(hl:cs.length=ms.length){k:Nat}(h:cs.length≤k):mixM sh cs ms k=zb3 sh cs ms:=by
 unfold mixM;rw[yap (by rw[zaX hl];omega),yaV (by omega),yaG]
theorem zc8 {sh:Nat}{cs:List Nat}{ms:List Bool}(hl:cs.length=ms.length)(k:Nat):(mixM sh cs ms k).length=cs.length:=by
 unfold mixM;rw[yak,yaj,yaP,zaX hl];omega
theorem zbE {sh:Nat}{cs:List Nat}{ms:List Bool}(hl:cs.length=ms.length)(k j:Nat):(mixM sh cs ms k)[j]?=if j < k then (zb3 sh cs ms)[j]? else ms[j]?:=by
 unfold mixM;by_cases hk:k≤ms.length
 ·rw[List.getElem?_append,yaj,zaX hl,ybr hk];split
  ·rw[ybH];rw[if_pos (by assumption)]
  ·rw[ybV];congr 1;omega
 ·rw[yaV (by omega),yaG,yap (by rw[zaX hl];omega)];split
  ·rfl
  ·rw[yaU (by rw[zaX hl];omega),yaU (by omega)]
def zdG (ms:List Bool)(k:Nat):Bool:=!ms.getD (k - 1) false && !ms.getD k false && !ms.getD (k+1) false
theorem zk1 {sh:Nat}{cs:List Nat}{ms:List Bool}(hu:Unl cs)(hl:cs.length=ms.length){k:Nat}(h:k < cs.length)(h1:1≤k)(hs:cs.getD k 0=sh):zdG (mixM sh cs ms k) k=zdG ms k:=by
 unfold zdG;have e:∀ j,k≤j→(mixM sh cs ms k).getD j false=ms.getD j false:=fun j hj=>by
  rw[yad,yad,zbE hl,if_neg (by omega)]
 rw[e k (by omega),e (k+1) (by omega)];have e2:(mixM sh cs ms k).getD (k - 1) false=ms.getD (k - 1) false:=by
  rw[yad,zbE hl,if_pos (by omega),zci hl (by omega)];have:=hu (k - 1) (by omega);rw[show k - 1+1=k by omega,hs]at this;rw[yaq this];simp
 rw[e2]
theorem zgh {sh:Nat}{cs:List Nat}{ms:List Bool}(hl:cs.length=ms.length){k:Nat}(h:k < cs.length)(hn:¬ (1≤k∧cs.getD k 0=sh∧zdG ms k=true)):mixM sh cs ms (k+1)=mixM sh cs ms k:=by
 apply ybi;intro j;rw[zbE hl,zbE hl];by_cases c:j < k
 ·rw[if_pos c,if_pos (by omega)]
 ·rw[if_neg c];split
  ·have:j=k:=by omega
   subst this;rw[zci hl h];unfold zdG at hn;rw[yac (by omega)];have e:ms.getD j false=ms[j]'(by omega):=by
    rw[yad,yac (by omega)];rfl
   rw[e]at hn ⊢;congr 1;generalize ms[j]=a at hn ⊢;generalize ms.getD (j - 1) false=b at hn ⊢;generalize ms.getD (j+1) false=d at hn ⊢;cases a <;> cases b <;> cases d <;> simp at hn ⊢
   intro q;omega
  ·rfl
theorem znW {sh:Nat}{cs:List Nat}{ms:List Bool}(hl:cs.length=ms.length){k:Nat}(h:k < cs.length)(hp:1≤k∧cs.getD k 0=sh∧zdG ms k=true):mixM sh cs ms (k+1)=(mixM sh cs ms k).set k true:=by
 apply ybi;intro j;rw[yb0,zc8 hl,zbE hl,zbE hl];by_cases c:k=j
 ·subst c;rw[if_pos rfl,if_pos h,if_pos (by omega),zci hl h];obtain ⟨p1,p2,p3⟩:=hp;unfold zdG at p3;simp only[ya1,ybp]at p3;rw[p2,p3.1.1,p3.1.2,p3.2,yah p1];simp
 ·rw[if_neg c];by_cases c2:j < k
  ·rw[if_pos c2,if_pos (by omega)]
  ·rw[if_neg c2,if_neg (by omega)]
structure zdJ (ms:List Bool)(sp:List Nat):Prop where
 up:sp.Pairwise (· < ·)
 iff:∀ j,j∈sp↔ms.getD j false=true
theorem znn (ms:List Bool):zdJ ms ((List.range ms.length).filter fun k=>ms.getD k false):=by
 refine ⟨List.Pairwise.filter _ ycj,fun j=>?_⟩;rw[ybd,ybe];constructor
 ·exact fun h=>h.2
 ·intro h;refine ⟨?_,h⟩;rw[yad]at h;cases e:ms[j]? with
  | none=>rw[e]at h;cases h
  | some x=>exact (yaf.mp e).1
theorem zdJ.lt {ms:List Bool}{sp:List Nat}(S:zdJ ms sp){j:Nat}(h:j∈sp):j < ms.length:=by
 have h:=(S.iff j).mp h;rw[yad]at h;cases e:ms[j]? with
 | none=>rw[e]at h;cases h
 | some x=>exact (yaf.mp e).1
theorem zdJ.step {ms:List Bool}{sp:List Nat}(S:zdJ ms sp)(M:zdK ms){t:Nat}(h:t+1 < sp.length):sp[t]+2≤sp[t+1]∧sp[t+1]≤sp[t]+3:=by
 have up:=yaQ.mp S.up;have lt:=up t (t+1) (by omega) h (by omega);have m0:=(S.iff _).mp (yay (show t < sp.length by omega));have m1:=(S.iff _).mp (yay h);have l1:=S.lt (yay h);have no:∀ j,sp[t] < j→j < sp[t+1]→ms.getD j false=false:=fun j a b=>by
  cases e:ms.getD j false with
  | false=>rfl
  | true=>
   obtain ⟨u,hu,q⟩:=yaW ((S.iff j).mpr e);have c1:¬ u≤t:=fun z=>by
    by_cases z':u=t
    ·subst z';omega
    ·have:=up u t hu (by omega) (by omega);omega
   have c2:¬ t+1≤u:=fun z=>by
    by_cases z':u=t+1
    ·subst z';omega
    ·have:=up (t+1) u h hu (by omega);omega
   omega
 refine ⟨?_,?_⟩
 ·by_cases c:sp[t+1]=sp[t]+1
  ·rw[c]at m1;exact (M.ind _ m0 m1).elim
  ·omega
 ·refine ybC fun c=>?_;rcases M.dom (sp[t]+2) (by omega) (by omega) with q | q | q
  ·rw[no (sp[t]+2 - 1) (by omega) (by omega)]at q;cases q
  ·rw[no (sp[t]+2) (by omega) (by omega)]at q;cases q
  ·rw[no (sp[t]+2+1) (by omega) (by omega)]at q;cases q
theorem zdJ.first {ms:List Bool}{sp:List Nat}(S:zdJ ms sp)(M:zdK ms)(h:2≤ms.length):∃ hp:0 < sp.length,1≤sp[0]∧sp[0]≤2:=by
 have ex:∃ j,j≤2∧ms.getD j false=true:=by
  rcases M.dom 1 (by omega) (by omega) with q | q | q
  ·exact ⟨0,by omega,q⟩
  ·exact ⟨1,by omega,q⟩
  ·exact ⟨2,by omega,q⟩
 obtain ⟨j,hj,e⟩:=ex;obtain ⟨u,hu,q⟩:=yaW ((S.iff j).mpr e);refine ⟨by omega,?_,?_⟩
 ·have m0:=(S.iff _).mp (yay (show 0 < sp.length by omega));refine Nat.pos_of_ne_zero fun z=>?_;rw[z,M.fst]at m0;cases m0
 ·by_cases c:u=0
  ·subst c;omega
  ·have:=yaQ.mp S.up 0 u (by omega) hu (by omega);omega
theorem zdJ.last {ms:List Bool}{sp:List Nat}(S:zdJ ms sp)(M:zdK ms)(h:2≤ms.length)(hp:0 < sp.length):ms.length≤sp[sp.length - 1]+2:=by
 have ex:∃ j,ms.length - 2≤j∧ms.getD j false=true:=by
  rcases M.dom (ms.length - 1) (by omega) (by omega) with q | q | q
  ·exact ⟨_,by omega,q⟩
  ·exact ⟨_,by omega,q⟩
  ·exact ⟨_,by omega,q⟩
 obtain ⟨j,hj,e⟩:=ex;obtain ⟨u,hu,q⟩:=yaW ((S.iff j).mpr e);by_cases c:u=sp.length - 1
 ·subst c;omega
 ·have:=yaQ.mp S.up u (sp.length - 1) hu (by omega) (by omega);omega
theorem zdJ.low {ms:List Bool}{sp:List Nat}(S:zdJ ms sp)(M:zdK ms):∀(t:Nat) (h:t < sp.length),2 * t+1≤sp[t]
 | 0,h=>by
  have m0:=(S.iff _).mp (yay h);refine Nat.pos_of_ne_zero fun z=>?_;rw[z,M.fst]at m0;cases m0
 | t+1,h=>by
  have a:=zdJ.low S M t (by omega);have b:=(S.step M h).1;omega
theorem zdJ.half {ms:List Bool}{sp:List Nat}(S:zdJ ms sp)(M:zdK ms):2 * sp.length≤ms.length:=by
 by_cases c:sp.length=0
 ·omega
 ·have a:=S.low M (sp.length - 1) (by omega);have b:=S.lt (yay (show sp.length - 1 < sp.length by omega));omega
theorem zdJ.none {ms:List Bool}{sp:List Nat}(S:zdJ ms sp)(M:zdK ms)(h:ms.length < 2):sp=[]:=by
 have:=S.half M;exact ybJ (by omega)
def zcc {α:Type}(es:List α)(ms:List Bool):List α:=((es.zip ms).filter (·.2)).map (·.1)
structure Ats (P:Nat→Bool)(n:Nat)(l:List Nat):Prop where
 up:l.Pairwise (· < ·)
 iff:∀ j,j∈l↔j < n∧P j=true
theorem zrj (P:Nat→Bool)(n:Nat):Ats P n ((List.range n).filter P):=⟨List.Pairwise.filter _ ycj,fun j=>by rw[ybd,ybe]⟩
theorem Ats.get {P:Nat→Bool}{n:Nat}{l:List Nat}(A:Ats P n l){j:Nat}(h:j < l.length):l[j] < n∧P l[j]=true:=(A.iff _).mp (yay h)
theorem Ats.first {P:Nat→Bool}{n:Nat}{l:List Nat}(A:Ats P n l){i:Nat}(h:i < l.getD 0 n)(hn:i < n):P i=false:=by
 cases e:P i with
 | false=>rfl
 | true=>
  obtain ⟨u,hu,q⟩:=yaW ((A.iff i).mpr ⟨hn,e⟩);have h0:l.getD 0 n=l[0]'(by omega):=by
   rw[yad,yac (by omega)];rfl
  rw[h0]at h;by_cases c:u=0
  ·subst c;omega
  ·have:=yaQ.mp A.up 0 u (by omega) hu (by omega);omega
theorem Ats.next {P:Nat→Bool}{n:Nat}{l:List Nat}(A:Ats P n l){j:Nat}(hj:j < l.length){i:Nat}(h1:l[j] < i)(h:i < l.getD (j+1) n)(hn:i < n):P i=false:=by
 cases e:P i with
 | false=>rfl
 | true=>
  obtain ⟨u,hu,q⟩:=yaW ((A.iff i).mpr ⟨hn,e⟩);have up:=yaQ.mp A.up;have c1:j < u:=by
   refine yck fun z=>?_;by_cases c:u=j
   ·subst c;omega
   ·have:=up u j hu hj (by omega);omega
  have h0:l.getD (j+1) n=l[j+1]'(by omega):=by
   rw[yad,yac (by omega)];rfl
  rw[h0]at h;by_cases c:u=j+1
  ·subst c;omega
  ·have:=up (j+1) u (by omega) hu (by omega);omega
theorem Ats.le {P:Nat→Bool}{n:Nat}{l:List Nat}(A:Ats P n l)(j:Nat):l.getD j n≤n:=by
 rw[yad];by_cases h:j < l.length
 ·rw[yac h];exact ybw (A.get h).1
 ·rw[yaU (by omega)];exact yaa _
theorem Ats.step_le {P:Nat→Bool}{n:Nat}{l:List Nat}(A:Ats P n l){j:Nat}(hj:j < l.length):l[j]+1≤l.getD (j+1) n:=by
 rw[yad];by_cases h:j+1 < l.length
 ·rw[yac h];exact yaQ.mp A.up j (j+1) hj h (by omega)
 ·rw[yaU (by omega)];exact (A.get hj).1
def atsL (v:Nat)(xs:List Nat):List Nat:=(List.range xs.length).filter fun k=>decide (xs.getD k 0=v)
theorem zgA (v:Nat)(xs:List Nat):Ats (fun k=>decide (xs.getD k 0=v)) xs.length (atsL v xs):=zrj _ _
theorem zmj {v:Nat}{xs:List Nat}:mixL v xs ((atsL v xs).getD 0 xs.length)=xs:=by
 rw[zgW (k:=0) (yaF _) ((zgA v xs).le 0) (fun j _ h=>ycl ((zgA v xs).first h (yaw h ((zgA v xs).le 0))))];rfl
theorem znU {v:Nat}{xs:List Nat}{j:Nat}(hj:j < (atsL v xs).length):mixL v xs ((atsL v xs).getD (j+1) xs.length)=(mixL v xs (atsL v xs)[j]).set (atsL v xs)[j] (zcw xs (atsL v xs)[j]):=by
 have A:=zgA v xs;have g:=A.get hj;rw[zgW (k:=(atsL v xs)[j]+1) (A.step_le hj) (A.le _) (fun i a b=>ycl (A.next hj (by omega) b (yaw b (A.le _)))),zj6 g.1 (yaE g.2)]
theorem znV {v:Nat}{xs:List Nat}:mixL v xs ((atsL v xs).getD (atsL v xs).length xs.length)=recL v xs:=by
 rw[yad,yaU (yaa _)];exact zj7 (yaa _)
def colN (xs:List Nat):Nat→List Nat
 | 0=>xs
 | i+1=>recL (3+i) (colN xs i)
theorem zgs (xs:List Nat)(i:Nat):(colN xs i).length=xs.length:=by
 induction i with
 | zero=>rfl
 | succ i ih=>rw[colN,zbg,ih]
theorem zkw {xs:List Nat}(h:Unl xs)(i:Nat):Unl (colN xs i):=by
 induction i with
 | zero=>exact h
 | succ i ih=>exact zlt (zf2 (unlZ ih))
def mkN (cs:List Nat):Nat→List Bool
 | 0=>cs.map fun _=>false
 | i+1=>zb3 (2 - i) cs (mkN cs i)
theorem zig (cs:List Nat):mkN cs 3=zfa cs:=(zij cs).symm
theorem zgU (cs:List Nat)(i:Nat):cs.length=(mkN cs i).length:=by
 induction i with
 | zero=>rw[mkN,yab]
 | succ i ih=>rw[mkN,zaX ih,ih]
theorem zj4 {sh:Nat}{cs:List Nat}{ms:List Bool}(hl:cs.length=ms.length):mixM sh cs ms 1=ms:=by
 by_cases h:0 < cs.length
 ·rw[zgh hl h (fun z=>by omega)];rfl
 ·have:ms=[]:=ybJ (by omega);subst this;unfold mixM;rw[ybJ (show (zb3 sh cs []).length=0 by rw[zaX hl];rfl)];rfl
def zaC (ps:List Nat):Prop:=∀ i (h:i < ps.length),ps[i]≤i
def par (ps:List Nat):Nat→Option Nat
 | 0=>none
 | k+1=>ps[k]?
theorem zaP {ps:List Nat}(T:zaC ps){k p:Nat}(h:par ps k=some p):p < k∧k < ps.length+1:=by
 cases k with
 | zero=>cases h
 | succ k=>
  obtain ⟨h1,rfl⟩:=yaf.mp (show ps[k]?=some p from h);have:=T k h1;omega
theorem zhy {ps:List Nat}{k:Nat}(h1:1≤k)(h2:k < ps.length+1):∃ p,par ps k=some p:=by
 cases k with
 | zero=>omega
 | succ k=>exact ⟨_,yac (show k < ps.length by omega)⟩
theorem znz {ps:List Nat}{k:Nat}(h2:k < ps.length+1)(h:par ps k=none):k=0:=by
 cases k with
 | zero=>rfl
 | succ k=>
  have:=List.getElem?_eq_none_iff.mp (show ps[k]?=none from h);omega
def wayF (ps:List Nat)(one:Nat):Nat→Nat→Option (List Nat)
 | 0,_=>none
 | f+1,o=>if o=one then some [o] else match par ps o with
  | none=>none
  | some p=>(wayF ps one f p).map (· ++ [o])
theorem zhW {ps:List Nat}(T:zaC ps){one:Nat}:∀ f g o,o < f→o < g→wayF ps one f o=wayF ps one g o
 | 0,_,_,h,_=>absurd h (ych _)
 | _,0,_,_,h=>absurd h (ych _)
 | f+1,g+1,o,hf,hg=>by
  unfold wayF;split
  ·rfl
  ·cases e:par ps o with
   | none=>rfl
   | some p=>
    have:=(zaP T e).1;show (wayF ps one f p).map _=(wayF ps one g p).map _;rw[zhW T f g p (by omega) (by omega)]
def wayL (ps:List Nat)(one o:Nat):Option (List Nat):=wayF ps one (o+1) o
theorem zlq {ps:List Nat}{o:Nat}:wayL ps o o=some [o]:=by
 unfold wayL wayF;rw[if_pos rfl]
theorem zez {ps:List Nat}(T:zaC ps){one o:Nat}(h:o≠one):wayL ps one o=match par ps o with
  | none=>none
  | some p=>(wayL ps one p).map (· ++ [o]):=by
 unfold wayL;rw[wayF,if_neg h];cases e:par ps o with
 | none=>rfl
 | some p=>
  show (wayF ps one o p).map _=(wayF ps one (p+1) p).map _;rw[zhW T o (p+1) p (zaP T e).1 (by omega)]
theorem zlr {ps:List Nat}(T:zaC ps){one:Nat}:∀ n o,o≤n→o < one→wayL ps one o=none
 | n,o,hn,h=>by
  rw[zez T (by omega)];cases e:par ps o with
  | none=>rfl
  | some p=>
   have hp:=(zaP T e).1;show (wayL ps one p).map _=none;cases n with
   | zero=>omega
   | succ n=>rw[zlr T n p (by omega) (by omega)];rfl
def zjs (ps:List Nat)(w:List Nat):Prop:=∀ t,t+1 < w.length→par ps (w.getD (t+1) 0)=some (w.getD t 0)
theorem zlf {ps:List Nat}{w:List Nat}{x:Nat}(h:zjs ps w)(hx:w≠[]→par ps x=some (w.getD (w.length - 1) 0)):zjs ps (w++[x]):=by
 intro t ht;rw[yak,yaL]at ht;have e0:(w++[x]).getD t 0=w.getD t 0:=by
  rw[yad,yad,ybm (by omega)]
 rw[e0];by_cases c:t+1 < w.length
 ·have e1:(w++[x]).getD (t+1) 0=w.getD (t+1) 0:=by
   rw[yad,yad,ybm c]
  rw[e1];exact h t c
 ·have et:t+1=w.length:=by omega
  have e1:(w++[x]).getD (t+1) 0=x:=by
   rw[yad,et,ya7 (yaa _),yb1];rfl
  rw[e1];have:=hx (fun z=>by rw[z]at et;simp at et);rw[← et,ybN]at this;exact this
def isB (ps:List Nat)(k j:Nat):Bool:=(wayL ps k j).isSome
def benL (ps:List Nat)(k n:Nat):List Nat:=(List.range n).filter (isB ps k)
theorem zdc {ps:List Nat}{k:Nat}:isB ps k k=true:=by
 unfold isB;rw[zlq];rfl
theorem zfe {ps:List Nat}(T:zaC ps){k j:Nat}(h:j < k):isB ps k j=false:=by
 unfold isB;rw[zlr T j j (yaa _) h];rfl
theorem zbY {ps:List Nat}(T:zaC ps){k j p:Nat}(h:j≠k)(e:par ps j=some p):isB ps k j=isB ps k p:=by
 unfold isB;rw[zez T h,e];show ((wayL ps k p).map _).isSome=_;cases wayL ps k p <;> rfl
theorem zom {ps:List Nat}(T:zaC ps)(k:Nat):benL ps k (k+1)=[k]:=by
 unfold benL;rw[ybu,ya6];have e1:(List.range k).filter (isB ps k)=[]:=by
  rw[ycB];intro j hj z;rw[zfe T (ybe.mp hj)]at z;cases z
 rw[e1,ybD,ya5 zdc];rfl
theorem zce {ps:List Nat}{k n j:Nat}:j∈benL ps k n↔j < n∧isB ps k j=true:=by
 unfold benL;rw[ybd,ybe]
theorem ziH {ps:List Nat}{k n:Nat}:benL ps k (n+1)=benL ps k n++(if isB ps k n=true then [n] else []):=by
 unfold benL;rw[ybu,ya6];congr 1;by_cases h:isB ps k n=true
 ·rw[if_pos h,ya5 h];rfl
 ·rw[if_neg h,ybj h];rfl
theorem zkA (ps:List Nat)(k n:Nat):(benL ps k n).length≤n:=by
 have:=ybk (isB ps k) (List.range n);rw[yaX]at this;exact this
theorem zjl (ps:List Nat)(k n:Nat):(benL ps k n).Pairwise (· < ·):=List.Pairwise.filter _ ycj
theorem zkk {ps:List Nat}(T:zaC ps):∀ n j,j≤n→j < ps.length+1→isB ps 0 j=true
 | n,j,hn,h=>by
  by_cases c:j=0
  ·rw[c];exact zdc
  ·obtain ⟨p,e⟩:=zhy (by omega) h;have:=(zaP T e).1;rw[zbY T c e];cases n with
   | zero=>omega
   | succ n=>exact zkk T n p (by omega) (by omega)
theorem zna {ps:List Nat}(T:zaC ps):benL ps 0 (ps.length+1)=List.range (ps.length+1):=by
 unfold benL;rw[List.filter_eq_self];exact fun j hj=>zkk T j j (yaa _) (ybe.mp hj)
def zaS (ps:List Nat)(k n:Nat):List Nat:=(List.range n).filter fun j=>decide (par ps j=some k)
theorem zaE {ps:List Nat}{k n j:Nat}:j∈zaS ps k n↔j < n∧par ps j=some k:=by
 unfold zaS;rw[ybd,ybe,decide_eq_true_eq]
theorem zdf {ps:List Nat}{k n:Nat}:zaS ps k (n+1)=zaS ps k n++(if par ps n=some k then [n] else []):=by
 unfold zaS;rw[ybu,ya6];congr 1;by_cases h:par ps n=some k
 ·rw[if_pos h,ya5 (by exact yah h)];rfl
 ·rw[if_neg h,ybj (by rw[yaq h];decide)];rfl
theorem zcX (ps:List Nat)(k n:Nat):(zaS ps k n).length≤n:=by
 have:=ybk (fun j=>decide (par ps j=some k)) (List.range n);rw[yaX]at this;exact this
theorem ziC (ps:List Nat)(k n:Nat):(zaS ps k n).Pairwise (· < ·):=List.Pairwise.filter _ ycj
theorem zff {ps:List Nat}(T:zaC ps){k:Nat}:∀ n j,j≤n→j < ps.length+1→(isB ps k j=true↔j=k∨∃ c,par ps c=some k∧isB ps c j=true)
 | n,j,hn,h=>by
  by_cases c:j=k
  ·constructor
   ·exact fun _=>.inl c
   ·intro _;rw[c];exact zdc
  ·cases e:par ps j with
   | none=>
    have j0:=znz h e;have no:∀ m,j≠m→isB ps m j=false:=fun m hm=>by
     unfold isB;rw[zez T hm,e];rfl
    constructor
    ·intro z;rw[no k c]at z;cases z
    ·rintro (z | ⟨d,hd,z⟩)
     ·exact absurd z c
     ·by_cases y:j=d
      ·rw[← y,e]at hd;cases hd
      ·rw[no d y]at z;cases z
   | some p=>
    have hp:=(zaP T e).1;cases n with
    | zero=>omega
    | succ n=>
     have ih:=zff T (k:=k) n p (by omega) (by omega);rw[zbY T c e,ih];constructor
     ·rintro (z | ⟨d,hd,z⟩)
      ·refine .inr ⟨j,?_,zdc⟩;rw[e,z]
      ·by_cases y:j=d
       ·rw[← y]at z;rw[zfe T hp]at z;cases z
       ·exact .inr ⟨d,hd,by rw[zbY T y e];exact z⟩
     ·rintro (z | ⟨d,hd,z⟩)
      ·exact absurd z c
      ·by_cases y:j=d
       ·subst y;rw[e]at hd;exact .inl (yae hd)
       ·rw[zbY T y e]at z;exact .inr ⟨d,hd,z⟩
theorem zdD {ps:List Nat}(T:zaC ps){k c d:Nat}(hc:par ps c=some k)(hd:par ps d=some k)(hcd:c≠d):∀ n j,j≤n→isB ps c j=true→isB ps d j=true→False
 | n,j,hn,h1,h2=>by
  by_cases e1:j=c
  ·subst e1;rw[zbY T hcd hc,zfe T (zaP T hd).1]at h2;cases h2
  ·by_cases e2:j=d
   ·subst e2;rw[zbY T e1 hd,zfe T (zaP T hc).1]at h1;cases h1
   ·cases e:par ps j with
    | none=>
     unfold isB at h1;rw[zez T e1,e]at h1;cases h1
    | some p=>
     have hp:=(zaP T e).1;rw[zbY T e1 e]at h1;rw[zbY T e2 e]at h2;cases n with
     | zero=>omega
     | succ n=>exact zdD T hc hd hcd n p (by omega) h1 h2
theorem zkQ {ps:List Nat}(T:zaC ps){k:Nat}(hk:k < ps.length+1):(k::((zaS ps k (ps.length+1)).map fun c=>benL ps c (ps.length+1)).flatten).Perm (benL ps k (ps.length+1)):=by
 have lt:∀{l:List Nat},l.Pairwise (· < ·)→l.Nodup:=fun h=>List.Pairwise.imp (fun {a b} (q:a < b)=>yas q) h;refine (List.perm_ext_iff_of_nodup ?_ (lt (zjl ps k _))).mpr fun j=>?_
 ·rw[ya0];refine ⟨fun h=>?_,?_⟩
  ·obtain ⟨l,hl,hj⟩:=ycm.mp h;obtain ⟨c,hc,rfl⟩:=yaH.mp hl;have h1:=(zaE.mp hc).2;have h2:=(zce.mp hj).2;rw[zfe T (zaP T h1).1]at h2;cases h2
  ·show List.Pairwise _ _;rw[List.pairwise_flatten];refine ⟨fun l hl=>?_,?_⟩
   ·obtain ⟨c,hc,rfl⟩:=yaH.mp hl;exact lt (zjl ps c _)
   ·rw[ybX];refine List.Pairwise.imp_of_mem (fun {c d} hc hd hcd=>?_) (ziC ps k _);intro x hx y hy z;subst z;exact zdD T (zaE.mp hc).2 (zaE.mp hd).2 (yas hcd) x x (yaa _) (zce.mp hx).2 (zce.mp hy).2
 ·rw[yat,ycm,zce];constructor
  ·rintro (rfl | ⟨l,hl,hj⟩)
   ·exact ⟨hk,zdc⟩
   ·obtain ⟨c,hc,rfl⟩:=yaH.mp hl;obtain ⟨h1,h2⟩:=zce.mp hj;exact ⟨h1,(zff T j j (yaa _) h1).mpr (.inr ⟨c,(zaE.mp hc).2,h2⟩)⟩
  ·rintro ⟨h1,h2⟩;rcases (zff T j j (yaa _) h1).mp h2 with q | ⟨c,hc,q⟩
   ·exact .inl q
   ·exact .inr ⟨_,yaH.mpr ⟨c,zaE.mpr ⟨(zaP T hc).2,hc⟩,rfl⟩,zce.mpr ⟨h1,q⟩⟩
def zrq (t u:TS):TS:=fun D σ H=>∀ N:L2.St→Hp→Prop,(∀ σ' H',u D σ' H'→N σ' H')→t { D with nx:=N } σ H
theorem zav {X:Cx}{st:Stmt}{rest:List Stmt}{t u:TS}(h1:PS X st t)(h2:PSs X rest u):PSs X (st::rest) (zrq t u):=fun pins s σ H D I h=>zah h1 h2 pins s σ H D I (h (u D) fun _ _ z=>z)
def zro (t u:TS):TS:=fun D σ H=>∃ M:L2.St→Hp→Prop,(∀ N:L2.St→Hp→Prop,(∀ σ' H',M σ' H'→N σ' H')→t { D with nx:=N } σ H)∧∀ σ' H',M σ' H'→u D σ' H'
theorem zb0 {X:Cx}{st:Stmt}{rest:List Stmt}{t u:TS}(h1:PS X st t)(h2:PSs X rest u):PSs X (st::rest) (zro t u):=fun pins s σ H D I h=>by
 obtain ⟨M,h3,h4⟩:=h;exact za3 h1 h2 pins s σ H D I ⟨M,h3 M fun _ _ z=>z,h4⟩
theorem zn6 {tb:TS}{D:Ends}{Pn:L2.St→Hp→Prop}{i:Nat}{x:V}{σ:L2.St}{H:Hp}(h:∀(N B:L2.St→Hp→Prop) (R:VK),(∀ σ H,Pn σ H→N σ H)→(∀ σ H,D.nx σ H→B σ H)→(∀ v H,D.rt v H→R v H)→tb { nx:=N,rt:=R,bk:=B,ct:=N } (σ.set i (some x)) H):zhN i x σ H fun σ2 H2=>tb { D with nx:=Pn,ct:=Pn,bk:=D.nx } σ2 H2:=h Pn D.nx D.rt (fun _ _ z=>z) (fun _ _ z=>z) (fun _ _ z=>z)
theorem zrK {tb:TS}{D:Ends}{Pn:L2.St→Hp→Prop}{σ:L2.St}{H:Hp}(h:∀(N B:L2.St→Hp→Prop) (R:VK),(∀ σ H,Pn σ H→N σ H)→(∀ σ H,D.nx σ H→B σ H)→(∀ v H,D.rt v H→R v H)→tb { nx:=N,rt:=R,bk:=B,ct:=N } σ H):tb { D with nx:=Pn,ct:=Pn,bk:=D.nx } σ H:=h Pn D.nx D.rt (fun _ _ z=>z) (fun _ _ z=>z) (fun _ _ z=>z)
seal PSs PS PE PT PW PA PI PG PO
section
variable {P:Program}{w:World}{K:Frag}{mg:Str→Option Value}{base:Heap}
theorem znJ (T:Txt K mg)(qbk:DF K mg "_law_mixed" zeL zdZ):FC P w K mg base 1 "_law_mixed" zdZ zlK:=by
 refine qbk.ok qa3 (fun vs H Q E h=>?_) (fun f cdv A outer s H vs Q E hr h=>?_)
 ·obtain ⟨c,k,rfl,_⟩:=h;rfl
 obtain ⟨c,k,rfl,q⟩:=h;refine ⟨_,(zah (zap (i:=2) qa3.nd rfl (Or.inl rfl) (zao zdl (zao zb1 (zao zaO (zao zaO (zao zdl (pv 0) zae) (zao zb1 zae (pv 1))) zae) zae) zae))
   (zah (zap (i:=3) qa3.nd rfl (Or.inl rfl) (zao zdl (zao zaO (zao zaO (zao zb1 (pv 2) (pv 2)) (zao zb1 zae (pv 2))) (pv 1)) zae))
   (zaf (zat (zao zhC (zao zdl (zao zaO (zao zaO (zao zb1 (pv 3) (pv 3)) (zao zb1 zae (pv 3))) (zao zb1 zae (pv 1))) zae) zae))))),?_⟩
 walk_at "rd"
 exact q _
theorem znR (T:Txt K mg)(qbl:DF K mg "_law_begin" zeQ zd4):FC P w K mg base 1 "_law_begin" zd4 (zlO K):=by
 refine qbl.ok qci (fun vs H Q E h=>?_) (fun f cdv A outer s H vs Q E hr h=>?_)
 ·obtain ⟨L,ns,rfl,_⟩:=h;rfl
 obtain ⟨L,ns,rfl,hS,q⟩:=h;refine ⟨_,(zaf (zat (zpq (zhv zdk (pv 0) (zhv zdk zae (zhv zdk zae zpn))) rfl rfl (by simp) (by decide)))),?_⟩;intro p hp;refine ⟨_,rfl,zac,[(.inr "script",.ref L),(.inr "at",.int 0),(.inr "left",.int 0)],rfl,(by show 3≤15;decide),?_⟩;have e:upd (upd H p (.dK [])) p (.dK (zfF [] [(.inr "script",.ref L),(.inr "at",.int 0),(.inr "left",.int 0)]))=upd H p (zda L 0 0):=by
  rw[zo3];have:zfF [] [((.inr "script" : Key),V.ref L),(.inr "at",.int 0),(.inr "left",.int 0)]=[(.inr "script",.ref L),(.inr "at",.int 0),(.inr "left",.int 0)]:=by
   have a1:putK [] (.inr "script" : Key) (V.ref L)=[(.inr "script",.ref L)]:=zeV (kvs:=[]) _ rfl;have a2:putK [((.inr "script" : Key),V.ref L)] (.inr "at") (.int 0)=[(.inr "script",.ref L),(.inr "at",.int 0)]:=by
    rw[zeV _ (by rw[zbB (zej (show ("script" : Str) ≠ "at" by decide +kernel))];rfl)];rfl
   have a3:putK [((.inr "script" : Key),V.ref L),(.inr "at",.int 0)] (.inr "left") (.int 0)=[(.inr "script",.ref L),(.inr "at",.int 0),(.inr "left",.int 0)]:=by
    rw[zeV _ (by rw[zbB (zej (show ("script" : Str) ≠ "left" by decide +kernel)),zbB (zej (show ("at" : Str) ≠ "left" by decide +kernel))];rfl)];rfl
   unfold zfF;simp only[List.foldl_cons,List.foldl_nil];rw[a1,a2,a3]
  rw[this];rfl
 rw[e];exact q p _ hp (zag hp _) ⟨ns,0,0,zac,(zag hp _).seq hS⟩
theorem zpt (T:Txt K mg)(qbJ:DF K mg "_law_take" zfV za9)(qcs:FC P w K mg base 1 "_law_mixed" zdZ zlK):FC P w K mg base 2 "_law_take" za9 (zdr K):=by
 refine qbJ.ok qas (fun vs H Q E h=>?_) (fun f cdv A outer s H vs Q E hr h=>?_)
 ·obtain ⟨d,L,m,rfl,_⟩:=h;rfl
 obtain ⟨d,L,m,rfl,⟨hm,hm'⟩,⟨ns,a,l,hd,hS⟩,q⟩:=h;refine ⟨_,(zah (zap (i:=2) qas.nd rfl (Or.inl rfl) (zdy (zet hr) (pv 0) zdk (fun _ _=>rfl)))
   (zah (zap (i:=3) qas.nd rfl (Or.inl rfl) (zdy (zet hr) (pv 0) zdk (fun _ _=>rfl)))
   (za3 (zbk (zau zcO (zdy (zet hr) (pv 0) zdk (fun _ _=>rfl)) zae (zaA _)) (zah (zft (zet hr) (pv 0) zdk (zao zaO (pv 2) zae) rfl)
   (zah (zap (i:=4) qas.nd rfl (Or.inl rfl) zae)
   (za3 (zbk (zau znD (zam zal rfl T.qag boot_len (zaa (pv 3) zad)) zae (zaA _)) (zaf (zap (i:=4) qas.nd rfl (Or.inl rfl) (zay zaz (pv 3) (zao zdl (pv 2) (zam zal rfl T.qag boot_len (zaa (pv 3) zad))) (fun _ _=>rfl)))) zaB)
   (za3 (zbk (PW.pt (zgc (zau znE (pv 2) (zam zal rfl T.qag boot_len (zaa (pv 3) zad)) (zaA _)) (zeU (zau ziX (zam zkz rfl T.qcZ boot_abs (zaa (pv 4) zad)) (zao ze6 zae zae) (zaA _))))) (zaf (zat (zao zdl (zax qcs hr (zaa (pv 4) (zaa (pv 2) zad))) (pv 1)))) zaB)
   (zaf (zft (zet hr) (pv 0) zdk (zam zkz rfl T.qcZ boot_abs (zaa (pv 4) zad)) rfl)))))) zaB)
   (zah (zap (i:=5) qas.nd rfl (Or.inl rfl) (zao zdl (zdy (zet hr) (pv 0) zdk (fun _ _=>rfl)) (pv 1)))
   (zah (zft (zet hr) (pv 0) zdk (zao zhC (zdy (zet hr) (pv 0) zdk (fun _ _=>rfl)) (pv 1)) rfl)
   (zaf (zat (pv 5)))))))),?_⟩
 refine ⟨_,rfl,_,_,rfl,zrc hd,_,rfl,_,_,rfl,zla hd,?_⟩;refine ⟨fun σ' H'=>∃(x2 x3 x4 x5:Option V) (a' l':Int),σ'=[some (.ref d),some (.int m),x2,x3,x4,x5]∧H' d=some (zda L a' l')∧Keep d H H',?_,?_⟩
 ·refine ⟨_,rfl,_,_,rfl,zhM hd,rfl,_,rfl,?_⟩;refine ite2 (fun _=>?_) (fun _=>?_)
  ·refine ⟨_,rfl,_,_,rfl,rfl,_,rfl,_,_,rfl,zqz hd,?_⟩;have hd1:upd H d (zda L (a+1) l) d=some (zda L (a+1) l):=zac;obtain ⟨-,k1⟩:=LS.set (a':=a+1) (l':=l) hd hS;have hS1:=zhj hd k1 hS;generalize upd H d (zda L (a+1) l)=H1 at hd1 k1 hS1 ⊢;refine ⟨fun σ' H'=>∃ c:Int,σ'=[some (.ref d),some (.int m),some (.int a),some (.ref L),some (.int c),none]∧H1=H',?_,?_⟩
   ·refine ⟨_,rfl,_,_,rfl,.inl hS1,_,_,rfl,rfl,_,rfl,?_⟩;refine ite2 (fun c=>?_) (fun c=>?_)
    ·have c':(0:Int) < (((ns.map V.int).length:Nat):Int):=yaE c;obtain ⟨v,hv⟩:=zrk (ns:=ns) (k:=a) (by rw[yab]at c';omega);refine ⟨_,rfl,_,rfl,_,rfl,_,_,rfl,.inl hS1,_,_,rfl,rfl,c',_,_,_,_,rfl,rfl,hS1,hv,?_⟩;exact ⟨v,rfl,rfl⟩
    ·exact ⟨0,rfl,rfl⟩
   rintro σ' H' ⟨c,rfl,rfl⟩;refine ⟨fun σ' H'=>σ'=[some (.ref d),some (.int m),some (.int a),some (.ref L),some (.int c),none]∧H1=H',?_,?_⟩
   ·refine ⟨_,rfl,_,rfl,_,_,rfl,.inl hS1,_,_,rfl,rfl,_,rfl,?_⟩;refine ite2 (fun _=>?_) (fun _=>?_)
    ·refine iteT ?_;refine ⟨_,rfl,_,rfl,c,a,rfl,fun v=>⟨_,rfl,_,_,rfl,rfl,hm,?_⟩⟩;exact q _ _ (ycd _ (by omega)) (yce _ hm) k1 ⟨ns,a+1,l,hd1,hS1⟩
    ·refine ⟨_,rfl,_,rfl,_,_,rfl,rfl,⟨by decide,by decide,by decide⟩,_,_,rfl,rfl,_,rfl,?_⟩;refine ite2 (fun _=>?_) (fun _=>?_)
     ·refine ⟨_,rfl,_,rfl,c,a,rfl,fun v=>⟨_,rfl,_,_,rfl,rfl,hm,?_⟩⟩;exact q _ _ (ycd _ (by omega)) (yce _ hm) k1 ⟨ns,a+1,l,hd1,hS1⟩
     ·exact ⟨rfl,rfl⟩
   rintro σ' H' ⟨rfl,rfl⟩;refine ⟨_,rfl,_,rfl,_,rfl,_,_,rfl,zjS hd1,?_⟩;obtain ⟨-,k2⟩:=LS.set (a':=a+1) (l':=if c < 0 then -c else c) hd1 hS1
   exact ⟨_,_,_,_,_,_,rfl,zac,k1.trans k2⟩
  ·exact ⟨_,_,_,_,a,l,rfl,hd,Keep.refl _ _⟩
 rintro σ' H' ⟨x2,x3,x4,x5,a',l',rfl,hd',k'⟩;have hS':=zhj hd k' hS;refine ⟨_,rfl,_,_,rfl,zhM hd',_,rfl,_,_,rfl,rfl,hm,?_⟩;refine ⟨_,rfl,_,_,rfl,zhM hd',_,rfl,_,_,rfl,rfl,⟨hm,hm'⟩,_,rfl,_,_,rfl,zjS hd',?_⟩;obtain ⟨s1,k1⟩:=LS.set (a':=a') (l':=l' / m) hd' hS';refine ⟨_,rfl,?_⟩;exact q _ _ (ycd _ (by omega)) (yce _ hm) (k'.trans k1) s1
inductive za1 (K:Frag)(H:Hp):V→Bool→Prop where
 | int (i:Int):za1 K H (.int i) true
 | bl (b:Bool):za1 K H (.bl b) false
 | oth (x:V) (t:String) (ty:TyOf K H x (.type t)) (h2:kitO t "int" = some false):za1 K H x false
def ziS (K:Frag):Sp:=fun vs H Q _=>∃(x:V) (b:Bool),vs=[x]∧za1 K H x b∧Q (.bl b) H
theorem znF (T:Txt K mg)(qa5:DF K mg "is_whole" zdQ zcr):FC P w K mg base 1 "is_whole" zcr (ziS K):=by
 refine qa5.ok qbZ (fun vs H Q E h=>?_) (fun f cdv A outer s H vs Q E hr h=>?_)
 ·obtain ⟨x,b,rfl,_⟩:=h;rfl
 obtain ⟨x,b,rfl,hk,q⟩:=h;refine ⟨_,(zaf (zat (zl1 (zam zcd rfl T.qac boot_isinstance (zaa (pv 0) (zaa (zc6 (v:=.ty "int") rfl T.qc1 boot_int rfl) zad))) (zjV (zoK (zam zcd rfl T.qac boot_isinstance (zaa (pv 0) (zaa (zc6 (v:=.ty "bool") rfl T.qcr boot_bool rfl) zad)))))))),?_⟩;cases hk with
 | int i=>
  refine ⟨_,rfl,_,_,_,_,rfl,.int _,zoQ,_,rfl,?_⟩;refine iteT ?_;refine ⟨_,rfl,_,_,_,_,rfl,.int _,zoR,_,rfl,?_⟩;exact q
 | bl c=>
  refine ⟨_,rfl,_,_,_,_,rfl,.bl _,(show kitO "bool" "int" = some true by decide +kernel),_,rfl,?_⟩;refine iteT ?_;refine ⟨_,rfl,_,_,_,_,rfl,.bl _,zmw,_,rfl,?_⟩;exact q
 | oth x t ty h2=>
  refine ⟨_,rfl,_,_,_,_,rfl,ty,h2,_,rfl,?_⟩;refine iteF ?_;exact q
def zqo:Sp:=fun vs H Q _=>∃ a b:Nat,vs=[.int a,.int b]∧a≠b∧Q (.int (lu a b:Nat)) H
theorem zqK (T:Txt K mg)(qap:DF K mg "lowest_unlike" zbL zbC):FC P w K mg base 1 "lowest_unlike" zbC zqo:=by
 refine qap.ok qax (fun vs H Q E h=>?_) (fun f cdv A outer s H vs Q E hr h=>?_)
 ·obtain ⟨a,b,rfl,_⟩:=h;rfl
 obtain ⟨a,b,rfl,hab,q⟩:=h;refine ⟨_,(zah (zap (i:=2) qax.nd rfl (Or.inl rfl) (zao zqG (pv 0) (pv 1)))
   (zaf (zat (zao zbb (zqC F.plainAttrs_int F.slot_int_bit_length F.type_int_bit_length zhF (zao zoM (pv 2) (zgG zeg (pv 2)))) zae)))),?_⟩
 refine ⟨_,rfl,_,rfl,_,_,rfl,rfl,_,rfl,_,rfl,_,rfl,_,_,rfl,rfl,rfl,_,rfl,rfl,_,_,rfl,rfl,?_⟩;rw[← zqQ a b hab]at q;exact q
def zno (K:Frag):Sp:=fun vs H Q _=>∃ d L:Addr,vs=[.ref d]∧LS K L d H∧∀(v:Int) (H':Hp),-(10 ^ 60) < v→v < 10 ^ 60→Keep d H H'→LS K L d H'→Q (.int v) H'
theorem zn0 {x m:Int}(h1:-999≤x)(h2:x≤999)(h3:0 < m)(h4:m≤10 ^ 57):-(10 ^ 60) < x * m∧x * m < 10 ^ 60:=by
 have a:=Int.mul_le_mul_of_nonneg_right h2 (Int.le_of_lt h3);have b:=Int.mul_le_mul_of_nonneg_right h1 (Int.le_of_lt h3);omega
theorem zqM (T:Txt K mg)(qb4:DF K mg "_law_key" zhp ze0)(qaa:FC P w K mg base 2 "_law_take" za9 (zdr K)):FC P w K mg base 3 "_law_key" ze0 (zno K):=by
 refine qb4.ok qcf (fun vs H Q E h=>?_) (fun f cdv A outer s H vs Q E hr h=>?_)
 ·obtain ⟨d,L,rfl,_⟩:=h;rfl
 obtain ⟨d,L,rfl,hs,q⟩:=h;refine ⟨_,(zah (zap (i:=1) qcf.nd rfl (Or.inl rfl) (zax qaa hr (zaa (pv 0) (zaa zae zad))))
   (za3 (zbk (zau ziX (pv 1) zae (zaA _)) (zaf (zat (zax qaa hr (zaa (pv 0) (zaa zae zad))))) zaB)
   (za3 (zbk (zau ziX (pv 1) zae (zaA _)) (zaf (zat (zao zbb (zax qaa hr (zaa (pv 0) (zaa zae zad))) zae))) zaB)
   (za3 (zbk (zau zcO (pv 1) zae (zaA _)) (zaf (zat (zao zb1 (zao zbb (zax qaa hr (zaa (pv 0) (zaa zae zad))) zae) (zay zaz (zaG (zaa zae (zaa (zao ze6 zae zae) (zaa (zao ze6 zae zae) (zaa (zao ze6 zae zae) zad))))) (zax qaa hr (zaa (pv 0) (zaa zae zad))) (fun _ _=>rfl))))) zaB)
   (zaf (zat (zao zb1 (zay zaz (zaG (zaa zae (zaa (zgG zeg zae) zad))) (zax qaa hr (zaa (pv 0) (zaa zae zad))) (fun _ _=>rfl)) (zao zbb (zao zbb (zao ze6 zae zae) zae) (zax qaa hr (zaa (pv 0) (zaa zae zad))))))))))),?_⟩
 refine ⟨_,rfl,d,L,8,rfl,by decide,hs,fun w1 H1 w0 w8 k1 s1=>?_⟩;have nd:∀{H':Hp} {p:Addr},LS K L d H'→H' p=none→p≠d:=fun s hp z=>by
  obtain ⟨_,_,_,e,_⟩:=s.ex;rw[← z,hp]at e;cases e
 refine ⟨fun σ' H'=>σ'=[some (.ref d),some (.int w1)]∧H1=H',?_,?_⟩
 ·refine ⟨_,rfl,_,_,rfl,rfl,_,rfl,?_⟩;refine ite2 (fun c=>?_) (fun c=>?_)
  ·refine ⟨_,rfl,d,L,10,rfl,by decide,s1,fun u H2 u0 u1 k2 s2=>?_⟩;exact q u H2 (by omega) (by omega) (k1.trans k2) s2
  ·exact ⟨rfl,rfl⟩
 rintro σ' H' ⟨rfl,rfl⟩;refine ⟨fun σ' H'=>σ'=[some (.ref d),some (.int w1)]∧H1=H',?_,?_⟩
 ·refine ⟨_,rfl,_,_,rfl,rfl,_,rfl,?_⟩;refine ite2 (fun c=>?_) (fun c=>?_)
  ·refine ⟨_,rfl,d,L,60,rfl,by decide,s1,fun u H2 u0 u1 k2 s2=>⟨_,_,rfl,rfl,?_⟩⟩;exact q (u - 30) H2 (by omega) (by omega) (k1.trans k2) s2
  ·exact ⟨rfl,rfl⟩
 rintro σ' H' ⟨rfl,rfl⟩;refine ⟨fun σ' H'=>σ'=[some (.ref d),some (.int w1)]∧H1=H',?_,?_⟩
 ·refine ⟨_,rfl,rfl,_,rfl,?_⟩;refine ite2 (fun c=>?_) (fun c=>?_)
  ·refine ⟨_,rfl,d,L,1999,rfl,by decide,s1,fun u H2 u0 u1 k2 s2=>⟨_,_,rfl,rfl,?_⟩⟩;refine ⟨_,_,rfl,rfl,⟨by decide,by decide,by decide⟩,_,_,rfl,rfl,⟨by decide,by decide,by decide⟩,_,_,rfl,rfl,⟨by decide,by decide,by decide⟩,(by show 4≤sizeLine;decide),fun p hp=>?_⟩;refine ⟨_,rfl,d,L,4,rfl,by decide,s2.of_new hp _,fun b H3 b0 b1 k3 s3=>?_⟩;obtain ⟨m,hat,m0,m1⟩:∃ m:Int,atI [V.int 1,V.int (10 ^ (19:Int).toNat),V.int (10 ^ (38:Int).toNat),V.int (10 ^ (57:Int).toNat)] b=some (.int m)∧0 < m∧m≤10 ^ 57:=by
    have z:b=0∨b=1∨b=2∨b=3:=by omega
    rcases z with rfl | rfl | rfl | rfl
    ·exact ⟨_,rfl,by decide +kernel,by decide +kernel⟩
    ·exact ⟨_,rfl,by decide +kernel,by decide +kernel⟩
    ·exact ⟨_,rfl,by decide +kernel,by decide +kernel⟩
    ·exact ⟨_,rfl,by decide +kernel,by decide +kernel⟩
   refine ⟨_,_,_,_,rfl,rfl,SqL.of (k3 p _ (nd s2 hp) zac),hat,_,_,rfl,rfl,.inl ⟨by omega,by omega⟩,?_⟩;obtain ⟨f1,f2⟩:=zn0 (x:=u - 999) (m:=m) (by omega) (by omega) m0 m1;exact q _ H3 f1 f2 ((k1.trans k2).trans ((zag hp _).keep.trans k3)) s3
  ·exact ⟨rfl,rfl⟩
 rintro σ' H' ⟨rfl,rfl⟩;refine ⟨_,rfl,(by show 2≤sizeLine;decide),fun p hp=>?_⟩;refine ⟨_,rfl,d,L,2,rfl,by decide,s1.of_new hp _,fun b H2 b0 b1 k2 s2=>?_⟩;obtain ⟨m,hat,hm⟩:∃ m:Int,atI [V.int 1,V.int (-1)] b=some (.int m)∧(m=1∨m = -1):=by
  have z:b=0∨b=1:=by omega
  rcases z with rfl | rfl
  ·exact ⟨_,rfl,.inl rfl⟩
  ·exact ⟨_,rfl,.inr rfl⟩
 refine ⟨_,_,_,_,rfl,rfl,SqL.of (k2 p _ (nd s1 hp) zac),hat,_,_,rfl,rfl,⟨by decide,by decide,by decide⟩,_,_,rfl,rfl,_,rfl,d,L,3,rfl,by decide,s2,fun u H3 u0 u1 k3 s3=>⟨_,_,rfl,rfl,_,_,rfl,rfl,.inl ⟨by omega,by omega⟩,?_⟩⟩;have e60:(10:Int) ^ (60:Int).toNat=10 ^ 60:=rfl;rw[e60];have kk:=k1.trans ((zag hp _).keep.trans (k2.trans k3));rcases hm with rfl | rfl
 ·exact q _ H3 (by omega) (by omega) kk s3
 ·exact q _ H3 (by omega) (by omega) kk s3
def Rise (es:List (Int×Int)):Prop:=es.Pairwise fun a b=>pLt a b=true
def zex (k:Int)(e:Int×Int):Prop:=-(10 ^ 60) < e.1∧e.1 < 10 ^ 60∧0≤e.2∧e.2 < k
theorem zlV {κ:Type}[DecidableEq κ](kvs:List (κ×V))(k:κ)(v:V):(putK kvs k v).map (·.1)=if (kvs.any fun kv=>decide (kv.1=k))=true then kvs.map (·.1) else kvs.map (·.1)++[k]:=by
 unfold putK;split
 ·rw[ybf];apply ycC;intro a ha;show (if a.1=k then (a.1,v) else a).1=a.1
  split <;> rfl
 ·rw[yai];rfl
def zgJ (e:Int×Int):Int:=64 * (if 0≤e.1 then 2 * e.1 else -2 * e.1 - 1)+e.2
def zgI (e:Int×Int):Nat:=(zgJ e).toNat
theorem zfk {e:Int×Int}(h:zex 64 e):((zgI e:Nat):Int)=zgJ e:=by
 obtain ⟨h1,h2,h3,h4⟩:=h;unfold zgI zgJ;split <;> omega
theorem zoj {e:Int×Int}(h:zex 64 e):zgI e < 2 ^ 207:=by
 have z:=zfk h;obtain ⟨h1,h2,h3,h4⟩:=h;unfold zgJ at z;split at z <;> omega
theorem zm3 {e f:Int×Int}(h:zex 64 e)(g:zex 64 f)(z:zgI e=zgI f):e=f:=by
 have z1:=zfk h;have z2:=zfk g;obtain ⟨h1,h2,h3,h4⟩:=h;obtain ⟨g1,g2,g3,g4⟩:=g;obtain ⟨a,b⟩:=e;obtain ⟨c,d⟩:=f;rw[z,z2]at z1;unfold zgJ at z1;dsimp only at *;have:a=c∧b=d:=by
  split at z1 <;> split at z1 <;> omega
 rw[this.1,this.2]
def zjM (K:Frag):Sp:=fun vs H Q _=>∃(v:V) (e:Int×Int),vs=[v]∧Rep.has K H e v∧Q (.int (zgJ e)) H
theorem zpB (T:Txt K mg)(qct:DF K mg "code" zjP zhu):FC P w K mg base 1 "code" zhu (zjM K):=by
 refine qct.ok qb0 (fun vs H Q E h=>?_) (fun f cdv A outer s H vs Q E hr h=>?_)
 ·obtain ⟨v,e,rfl,_⟩:=h;rfl
 obtain ⟨v,e,rfl,he,q⟩:=h;obtain ⟨p,x1,x2,rfl,hT,e1,e2⟩:=(show hasP K H e v from he);have hT:=SqT.of (K:=K) hT;have e1:x1=.int e.1:=e1;have e2:x2=.int e.2:=e2;subst e1 e2;refine ⟨_,(zah (zap (i:=1) qb0.nd rfl (Or.inl rfl) (zay zaN (pv 0) zae (fun _ _=>rfl)))
   (zah (zap (i:=2) qb0.nd rfl (Or.inl rfl) (zjW (zau znE (pv 1) zae (zaA _)) (zao zb1 zae (pv 1)) (zao zbb (zao zb1 (zgG zeg zae) (pv 1)) zae)))
   (zaf (zat (zao zaO (zao zb1 (zhw rfl T.qbD) (pv 2)) (zay zaN (pv 0) zae (fun _ _=>rfl))))))),?_⟩
 refine ⟨_,rfl,_,_,_,_,rfl,rfl,hT,rfl,?_⟩;refine ⟨_,rfl,_,_,rfl,rfl,_,rfl,?_⟩;refine ite2 (fun c=>?_) (fun c=>?_)
 ·have c':0≤e.1:=yaE c;refine ⟨_,rfl,_,_,rfl,rfl,.inl ⟨by decide,by decide⟩,?_⟩;refine ⟨_,rfl,_,_,rfl,rfl,.inl ⟨by decide,by decide⟩,_,rfl,_,_,_,_,rfl,rfl,hT,rfl,_,_,rfl,rfl,?_⟩;unfold zgJ at q;rw[if_pos c']at q;exact q
 ·have c':¬ 0≤e.1:=ycl (ybO.mpr c);refine ⟨_,rfl,_,rfl,_,_,rfl,rfl,.inl ⟨by decide,by decide⟩,_,_,rfl,rfl,?_⟩;refine ⟨_,rfl,_,_,rfl,rfl,.inl ⟨by decide,by decide⟩,_,rfl,_,_,_,_,rfl,rfl,hT,rfl,_,_,rfl,rfl,?_⟩;unfold zgJ at q;rw[if_neg c']at q;exact q
abbrev nV (n:Nat):V:=.int (n:Int)
theorem zj3 {v:Int}(h:0≤v):∃ n:Nat,v=(n:Int):=⟨v.toNat,by omega⟩
theorem zel {xs:List Nat}{i:Nat}(h:i < xs.length):atI (xs.map nV) (i:Int)=some (nV (xs.getD i 0)):=
 zbI (by rw[yal,yac h,yad,yac h];rfl)
theorem znd {xs:List Nat}{i:Nat}(h0:i≠0)(h:i < xs.length):atI (xs.map nV) ((i:Int) - 1)=some (nV (xs.getD (i - 1) 0)):=by
 have e:(i:Int) - 1=((i - 1:Nat):Int):=by omega
 rw[e];exact zel (by omega)
theorem zg1 {xs:List Nat}{i:Nat}{x:V}(h:(xs.map nV)[i]?=some x):i < xs.length∧x=nV (xs.getD i 0):=by
 rw[yal]at h;cases e:xs[i]? with
 | none=>rw[e]at h;cases h
 | some y=>
  rw[e]at h;refine ⟨(yaf.mp e).1,?_⟩;rw[yad,e];exact (yae h).symm
theorem zp6 (n:Nat):Builtin.bitAnd (n:Int) 1=((n % 2:Nat):Int):=by
 unfold Builtin.bitAnd;rw[yah (ybx n),yah (by decide:(0:Int)≤1)];show ((n &&& 1:Nat):Int)=_;rw[Nat.and_one_is_mod]
theorem zrf (a b:Nat):2 * ((lu a b:Nat):Int)+Builtin.bitAnd ((b:Int) / 2 ^ ((lu a b:Nat):Int).toNat) 1=((fig a b:Nat):Int):=by
 have e:(b:Int) / 2 ^ ((lu a b:Nat):Int).toNat=((b / 2 ^ lu a b:Nat):Int):=by
  rw[ya9,Int.natCast_ediv,Int.natCast_pow];rfl
 rw[e,zp6];unfold fig;omega
theorem zj2 {K:Frag}{H:Hp}{xs:List Nat}:zar K H (xs.map fun n:Nat=>(n:Int)) (xs.map nV):=by
 have e:xs.map nV=(xs.map fun n:Nat=>(n:Int)).map V.int:=by rw[ybf];rfl
 rw[e];exact zar.ints
def But (p:Addr)(H H':Hp):Prop:=∀ b o,b≠p→H b=some o→H' b=some o
theorem But.sq {K:Frag}{p:Addr}{H H':Hp}{a:Addr}{xs:List V}(k:But p H H')(h:SqL K H a xs)(n:H p=none):SqL K H' a xs:=by
 rcases h with (h | ⟨o,h⟩) | h
 ·exact .inl (.inl (k _ _ (zab h n) h))
 ·exact .inl (.inr ⟨o,k _ _ (zab h n) h⟩)
 ·exact .inr h
theorem zjd (xs:List Nat):(xs.map nV).all zgH=true:=by
 rw[yaN];intro x hx;obtain ⟨n,_,rfl⟩:=yaH.mp hx;rfl
theorem zmH (n:Nat)(xs:List Nat):inV (.int (n:Int)) (xs.map nV)=decide (n∈xs):=by
 unfold inV
 induction xs with
 | nil=>rfl
 | cons x xs ih=>
  rw[yax,ybn,ih];show ((x:Int) == (n:Int) || decide (n∈xs))=decide (n∈x::xs);by_cases h:x=n
  ·subst h;simp
  ·have:((x:Int) == (n:Int))=false:=by
    rw[beq_eq_false_iff_ne];omega
   rw[this,Bool.false_or];have e:(n∈x::xs)=(n∈xs):=propext (by simp[Ne.symm h]);simp[Ne.symm h]
def zfR (K:Frag):Sp:=fun vs H Q _=>∃(a:Addr) (xs:List Nat),vs=[.ref a]∧SqL K H a (xs.map nV)∧Unl xs∧xs.length≤1000∧
 ∀(p:Addr) (H':Hp),H p=none→Same H H'→H' p=some (.lst ((zco xs).map nV))→Q (.ref p) H'
theorem zl6 (T:Txt K mg)(qbK:DF K mg "turned" zfS zeW)(qbm:FC P w K mg base 1 "lowest_unlike" zbC zqo):FC P w K mg base 2 "turned" zeW (zfR K):=by
 refine qbK.ok qaA (fun vs H Q E h=>?_) (fun f cdv A outer s H vs Q E hr h=>?_)
 ·obtain ⟨a,xs,rfl,_⟩:=h;rfl
 obtain ⟨a,xs,rfl,hS,hu,hz,q⟩:=h;refine ⟨_,(zah (zap (i:=1) qaA.nd rfl (Or.inl rfl) (zaG zad))
   (zah (zaR PassesOwn.never rfl (zdw rfl T.qaM (zaa (pv 0) zad)) (zge rfl (za5 (zan (i:=2) qaA.nd rfl (Or.inl rfl)) (za5 (zan (i:=3) qaA.nd rfl (Or.inl rfl)) zdx))) (zaf (zbk (zau zcO (pv 2) zae (zaA _)) (zaf (zbv (zep F.plainAttrs_list F.slot_list_append F.type_list_append zaQ (pv 1) (zaa (zao zdl (pv 3) zae) zad)))) (zah (zap (i:=4) qaA.nd rfl (Or.inl rfl) (zax qbm hr (zaa (zay zaz (pv 0) (zao zbb (pv 2) zae) (fun _ _=>rfl)) (zaa (pv 3) zad))))
   (zaf (zbv (zep F.plainAttrs_list F.slot_list_append F.type_list_append zaQ (pv 1) (zaa (zao zaO (zao zb1 zae (pv 4)) (zao zoM (zao zqH (pv 3) (pv 4)) zae)) zad))))))))
   (zaf (zat (pv 1))))),?_⟩
 refine ⟨(by show 0≤sizeLine;decide),fun p hp=>?_⟩;have k0:But p H (upd H p (.lst [])):=fun b o n e=>by rw[zai n];exact e
 refine ⟨_,rfl,a,rfl,⟨_,k0.sq hS hp⟩,?_⟩;refine zhO (xs:=xs.map nV) (fun i σ H2=>∃ x2 x3 x4:Option V,σ=[some (.ref a),some (.ref p),x2,x3,x4]∧H2 p=some (.lst (((zco xs).take i).map nV))∧But p H H2) ?_ ?_ ?_ ?_
 ·exact ⟨_,_,_,rfl,zac,k0⟩
 ·rintro i σ H2 _ ⟨x2,x3,x4,rfl,_,k2⟩;exact k2.sq hS hp
 ·rintro i x σ H2 r hx ⟨x2,x3,x4,rfl,h2,k2⟩ hr;obtain ⟨hi,rfl⟩:=zg1 hx;have hS2:=k2.sq hS hp;have np:p≠r:=zab h2 hr;have h3:upd H2 r (.tup [.int i,nV (xs.getD i 0)]) p=some (.lst (((zco xs).take i).map nV)):=by rw[zai np];exact h2
  have k3:But p H (upd H2 r (.tup [.int i,nV (xs.getD i 0)])):=fun b o n e=>(zag hr _) b o (k2 b o n e);have hS3:=k3.sq hS hp;have hlen:(((zco xs).take i).map nV).length < sizeLine:=zaq (by rw[yab,yaj,zbd];omega);refine ⟨r,_,rfl,SqT.of zac,rfl,_,_,rfl,_,_,rfl,rfl,?_⟩;generalize upd H2 r (.tup [.int i,nV (xs.getD i 0)])=H3 at h3 k3 hS3 ⊢;have fin:∀ v:V,v=nV (zcQ xs i)→∃ y2 y3 y4:Option V,[some (V.ref a),some (V.ref p),y2,y3,y4]=[some (V.ref a),some (V.ref p),y2,y3,y4]∧upd H3 p (.lst (((zco xs).take i).map nV++[v])) p=some (.lst (((zco xs).take (i+1)).map nV))∧But p H (upd H3 p (.lst (((zco xs).take i).map nV++[v]))):=by
   rintro v rfl;refine ⟨none,none,none,rfl,?_,fun b o n e=>by rw[zai n];exact k3 b o n e⟩;rw[zac,zgN hi,yai];rfl
  refine ⟨_,rfl,rfl,_,rfl,?_⟩;refine ite2 (fun c=>?_) (fun c=>?_)
  ·have c':i=0:=by
    have:=V.int.inj (yaE c);omega
   refine ⟨_,rfl,.inl ⟨rfl,_,SqL.of h3⟩,_,rfl,_,_,rfl,rfl,(by show (0:Int) < 2;decide),_,_,_,rfl,rfl,h3,hlen,?_⟩;obtain ⟨_,_,_,_,g2,g3⟩:=fin (.int (((xs.getD i 0:Nat):Int) % 2)) (by
    unfold zcQ;rw[if_pos c',c'];show V.int _=V.int _;rw[Int.natCast_emod];rfl)
   exact ⟨_,_,_,rfl,g2,g3⟩
  ·have c':i≠0:=fun z=>c (by subst z;decide);have hne:xs.getD (i - 1) 0≠xs.getD i 0:=by
    have:=hu (i - 1) (by omega);rw[show i - 1+1=i by omega]at this;exact this
   refine ⟨_,rfl,_,rfl,_,_,rfl,rfl,_,_,_,_,rfl,rfl,hS3,znd c' hi,_,rfl,_,_,rfl,hne,?_⟩;refine ⟨_,rfl,.inl ⟨rfl,_,SqL.of h3⟩,_,rfl,_,_,rfl,rfl,.inl ⟨by decide,by decide⟩,_,rfl,_,rfl,_,_,rfl,rfl,ybx _,_,_,rfl,rfl,_,_,rfl,rfl,_,_,_,rfl,rfl,h3,hlen,?_⟩;obtain ⟨_,_,_,_,g2,g3⟩:=fin (.int (2 * ((lu (xs.getD (i - 1) 0) (xs.getD i 0):Nat):Int)+Builtin.bitAnd (((xs.getD i 0:Nat):Int) / 2 ^ ((lu (xs.getD (i - 1) 0) (xs.getD i 0):Nat):Int).toNat) 1)) (by
    unfold zcQ;rw[if_neg c',zrf])
   exact ⟨_,_,_,rfl,g2,g3⟩
 ·rintro σ H2 ⟨x2,x3,x4,rfl,h2,k2⟩;refine ⟨_,rfl,?_⟩;refine q p H2 hp (fun b o e=>k2 b o (zab e hp) e) ?_;rw[h2,yap (by rw[zbd,yab];exact yaa _)]
def zcm:Nat→List Nat→List Nat
 | 0,xs=>xs
 | n+1,xs=>zco (zcm n xs)
theorem zbp (n:Nat)(xs:List Nat):(zcm n xs).length=xs.length:=by
 induction n with
 | zero=>rfl
 | succ n ih=>rw[zcm,zbd,ih]
theorem zcl {xs:List Nat}(h:Unl xs)(n:Nat):Unl (zcm n xs):=by
 induction n with
 | zero=>exact h
 | succ n ih=>exact zlw ih
theorem zef {m k:Nat}{xs:List Nat}(h:zdo m xs)(hk:m≤k):zdo k xs:=fun i hi=>yaw (h i hi) hk
theorem zo8 {xs:List Nat}(h:Unl xs)(hb:zdo (2 ^ 207) xs):zdo 414 (zcm 1 xs):=zcn (k:=207) (by decide) h hb
theorem zo7 {xs:List Nat}(h:Unl xs)(hb:zdo (2 ^ 207) xs):zdo 18 (zcm 2 xs):=zcn (k:=9) (by decide) (zcl h 1) (zef (zo8 h hb) (by decide))
theorem zo6 {xs:List Nat}(h:Unl xs)(hb:zdo (2 ^ 207) xs):zdo 10 (zcm 3 xs):=zcn (k:=5) (by decide) (zcl h 2) (zef (zo7 h hb) (by decide))
theorem zo5 {xs:List Nat}(h:Unl xs)(hb:zdo (2 ^ 207) xs):zdo 8 (zcm 4 xs):=zcn (k:=4) (by decide) (zcl h 3) (zef (zo6 h hb) (by decide))
theorem zo4 {xs:List Nat}(h:Unl xs)(hb:zdo (2 ^ 207) xs):zdo 6 (zcm 5 xs):=zcn (k:=3) (by decide) (zcl h 4) (zef (zo5 h hb) (by decide))
def zbT (es:List (Int×Int)):List Nat:=es.map zgI
theorem zaH (es:List (Int×Int)):(zbT es).length=es.length:=yab _
theorem zfA {es:List (Int×Int)}{i:Nat}(h:i < es.length):(zbT es).getD i 0=zgI es[i]:=by
 unfold zbT;rw[yad,yal,yac h];rfl
theorem zji {es:List (Int×Int)}(h:∀ e∈es,zex 64 e):zdo (2 ^ 207) (zbT es):=fun i hi=>by
 rw[zaH]at hi;rw[zfA hi];exact zoj (h _ (yay hi))
theorem zfj {es:List (Int×Int)}(h:∀ e∈es,zex 64 e)(hr:Rise es):Unl (zbT es):=fun i hi=>by
 rw[zaH]at hi;rw[zfA (by omega),zfA hi];intro z;have e:=zm3 (h _ (yay (by omega))) (h _ (yay hi)) z;have:=yaQ.mp hr i (i+1) (by omega) hi (by omega);rw[e]at this;have q:=zcN.mp this;omega
theorem zg7 {es:List (Int×Int)}{i:Nat}(h:i < es.length):(zbT es).take (i+1)=(zbT es).take i++[zgI es[i]]:=by
 have h':i < (zbT es).length:=by rw[zaH];exact h
 have z:(zbT es)[i]'h'=zgI es[i]:=List.getElem_map zgI;rw[yaB h',z]
def zjE (K:Frag):Sp:=fun vs H Q _=>∃(a:Addr) (ws:List V) (es:List (Int×Int)),vs=[.ref a]∧SqL K H a ws∧zar K H es ws∧es.length≤1000∧(∀ e∈es,zex 64 e)∧Rise es∧
 ∀(p:Addr) (H':Hp),H p=none→Same H H'→H' p=some (.lst ((zcm 5 (zbT es)).map nV))→Q (.ref p) H'
theorem zg8 {K:Frag}{H0 H2:Hp}{D:Addr}{es:List (Int×Int)}{ws:List V}{i:Nat}{x:V}(hD:H0 D=none)(hw:zar K H0 es ws)(hx:ws[i]?=some x)(k:But D H0 H2):∃ h:i < es.length,Rep.has K H2 es[i] x:=by
 obtain ⟨e,h1,h2⟩:=hw.get hx;have hi:=(yaf.mp h1).1;refine ⟨hi,?_⟩;have z:es[i]=e:=(yaf.mp h1).2;rw[z];obtain ⟨a,x1,x2,rfl,q,e1,e2⟩:=(show hasP K H0 e x from h2);exact ⟨a,x1,x2,rfl,k _ _ (zab q hD) q,e1,e2⟩
theorem zmc (T:Txt K mg)(qbL:DF K mg "labels" zfT zeX)(qc3:FC P w K mg base 1 "code" zhu (zjM K))(qcG:FC P w K mg base 2 "turned" zeW (zfR K)):FC P w K mg base 3 "labels" zeX (zjE K):=by
 refine qbL.ok qaU (fun vs H Q E h=>?_) (fun f cdv A outer s H vs Q E hr h=>?_)
 ·obtain ⟨a,ws,es,rfl,_⟩:=h;rfl
 obtain ⟨a,ws,es,rfl,hS,hw,hz,he,hri,q⟩:=h;have hlen:=hw.length;refine ⟨_,(zah (zeo (i:=1) (N:=["entry"]) (own:=1) (cap:=[]) qaU.nd rfl rfl rfl (zbq (pv 0)) ⟨rfl,rfl,rfl,rfl,rfl,rfl⟩ (fun _ _ _ _ _=>(zan (i:=0) (show List.Nodup (["entry"]:List Str) by decide +kernel) rfl (Or.inl rfl))) (fun _ _ _ _ _=>zbF) (fun _ _ _ _ _=>(zax qc3 hr (zaa (pv 0) zad))))
   (zah (zaR PassesOwn.never rfl (zaW rfl T.qad (zaa (zhw rfl T.qcR) zad)) (zan (i:=2) qaU.nd rfl (Or.inl rfl)) (zaf (zap (i:=1) qaU.nd rfl (Or.inl rfl) (zax qcG hr (zaa (pv 1) zad)))))
   (zaf (zat (pv 1))))),?_⟩
 refine ⟨_,rfl,a,rfl,⟨_,hS⟩,fun D hD=>?_⟩;have k0:But D H (upd H D (.lst [])):=fun b o n e=>by rw[zai n];exact e
 refine zbz (xs:=ws) (fun i σ H2=>∃ x0:Option V,σ=[x0]∧H2 D=some (.lst (((zbT es).take i).map nV))∧But D H H2) ?_ ?_ ?_ ?_
 ·exact ⟨_,rfl,zac,k0⟩
 ·rintro i σ H2 _ ⟨x0,rfl,_,k2⟩;exact k2.sq hS hD
 ·rintro i m x σ H2 hx hm ⟨x0,rfl,h2,k2⟩;obtain ⟨hi,hhas⟩:=zg8 hD hw hx k2;refine zcK ?_;refine ⟨_,rfl,x,es[i],rfl,hhas,?_⟩;refine ⟨_,h2,zaq (by rw[yab,yaj,zaH];omega),m - 1,by omega,by omega,_,rfl,?_,fun b o n e=>by rw[zai n];exact k2 b o n e⟩;rw[zac,zg7 hi,yai,← zfk (he _ (yay hi))];rfl
 ·rintro σ H2 ⟨x0,rfl,h2,k2⟩;have e0:H2 D=some (.lst ((zbT es).map nV)):=by
   rw[h2,yap (by rw[zaH];omega)]
  have same0:Same H H2:=fun b o e=>k2 b o (zab e hD) e;refine ⟨5,rfl,by decide,by decide,?_⟩;refine zbc (n:=5) (fun i σ H3=>∃(p:Addr) (x2 x3:Option V),σ=[some (.ref a),some (.ref p),x2]∧H p=none∧Same H H3∧H3 p=some (.lst ((zcm i (zbT es)).map nV))) ?_ ?_ ?_
  ·exact ⟨D,_,none,rfl,hD,same0,e0⟩
  ·rintro i σ H3 hi ⟨p,x2,x3,rfl,hp,s3,h3⟩;refine ⟨_,rfl,p,_,rfl,SqL.of h3,zcl (zfj he hri) i,by rw[zbp,zaH];exact hz,fun p4 H4 hp4 s4 h4=>?_⟩;exact ⟨p4,_,none,rfl,s3.free hp4,s3.trans s4,h4⟩
  ·rintro σ H3 ⟨p,x2,x3,rfl,hp,s3,h3⟩;refine ⟨_,rfl,?_⟩;exact q p H3 hp s3 h3
theorem znN (T:Txt K mg)(qbM:DF K mg "_law_code" zfX ze1):FC P w K mg base 1 "_law_code" ze1 (zjM K):=by
 refine qbM.ok qbi (fun vs H Q E h=>?_) (fun f cdv A outer s H vs Q E hr h=>?_)
 ·obtain ⟨v,e,rfl,_⟩:=h;rfl
 obtain ⟨v,e,rfl,he,q⟩:=h;obtain ⟨p,x1,x2,rfl,hT,e1,e2⟩:=(show hasP K H e v from he);have hT:=SqT.of (K:=K) hT;have e1:x1=.int e.1:=e1;have e2:x2=.int e.2:=e2;subst e1 e2;refine ⟨_,(zah (zfD (pv 0) (zge rfl (za5 (zan (i:=1) qbi.nd rfl (Or.inl rfl)) (za5 (zan (i:=2) qbi.nd rfl (Or.inl rfl)) zdx))))
   (za3 (zbk (zau ziX (pv 1) zae (zaA _)) (zaf (zat (zao zaO (zao zb1 zae (zao zbb (zao zb1 (zgG zeg zae) (pv 1)) zae)) (pv 2)))) zaB)
   (zaf (zat (zao zaO (zao zb1 zae (pv 1)) (pv 2)))))),?_⟩
 refine ⟨_,rfl,p,_,rfl,hT,rfl,_,_,rfl,_,_,rfl,rfl,?_⟩;refine ⟨fun σ' H'=>σ'=[some (.ref p),some (.int e.1),some (.int e.2)]∧H=H'∧0≤e.1,?_,?_⟩
 ·refine ⟨_,rfl,_,_,rfl,rfl,_,rfl,?_⟩;refine ite2 (fun c=>?_) (fun c=>?_)
  ·have c':e.1 < 0:=yaE c;refine ⟨_,rfl,_,rfl,_,_,rfl,rfl,.inl ⟨by decide,by decide⟩,_,_,rfl,rfl,_,_,rfl,rfl,.inl ⟨by decide,by decide⟩,_,rfl,_,_,rfl,rfl,?_⟩;unfold zgJ at q;rw[if_neg (by omega)]at q;exact q
  ·exact ⟨rfl,rfl,by have:=ycl (ybO.mpr c);omega⟩
 rintro σ' H' ⟨rfl,rfl,c⟩;refine ⟨_,rfl,_,_,rfl,rfl,.inl ⟨by decide,by decide⟩,_,rfl,_,_,rfl,rfl,?_⟩;unfold zgJ at q;rw[if_pos c]at q;have z:64 * (2 * e.1)+e.2=128 * e.1+e.2:=by omega
 rw[z]at q;exact q
def wMes:L2.St→Hp→Nat:=fun σ _=>match σ with
 | [_,_,_,some (.int x),some (.int y),_]=>x.toNat+y.toNat
 | _=>0
theorem zkW (T:Txt K mg)(qa6:DF K mg "_law_turned" zdP zc5):FC P w K mg base 1 "_law_turned" zc5 (zfR K):=by
 refine qa6.ok qae (fun vs H Q E h=>?_) (fun f cdv A outer s H vs Q E hr h=>?_)
 ·obtain ⟨a,xs,rfl,_⟩:=h;rfl
 obtain ⟨a,xs,rfl,hS,hu,hz,q⟩:=h;refine ⟨_,(zah (zap (i:=1) qae.nd rfl (Or.inl rfl) (zaG zad))
   (zah (zaR PassesOwn.never rfl (zaW rfl T.qad (zaa (zam zal rfl T.qag boot_len (zaa (pv 0) zad)) zad)) (zan (i:=2) qae.nd rfl (Or.inl rfl)) (zaf (zbk (zau zcO (pv 2) zae (zaA _)) (zaf (zbv (zep F.plainAttrs_list F.slot_list_append F.type_list_append zaQ (pv 1) (zaa (zao zdl (zay zaz (pv 0) zae (fun _ _=>rfl)) zae) zad)))) (zah (zap (i:=3) qae.nd rfl (Or.inl rfl) (zay zaz (pv 0) (pv 2) (fun _ _=>rfl)))
   (zah (zap (i:=4) qae.nd rfl (Or.inl rfl) (zay zaz (pv 0) (zao zbb (pv 2) zae) (fun _ _=>rfl)))
   (zah (zap (i:=5) qae.nd rfl (Or.inl rfl) zae)
   (zah (zjT PassesOwn.never (zau zcO (zao zdl (pv 3) zae) (zao zdl (pv 4) zae) (zaA _)) (zah (zap (i:=3) qae.nd rfl (Or.inl rfl) (zao zhC (pv 3) zae))
   (zah (zap (i:=4) qae.nd rfl (Or.inl rfl) (zao zhC (pv 4) zae))
   (zaf (zap (i:=5) qae.nd rfl (Or.inl rfl) (zao zaO (pv 5) zae))))))
   (zaf (zbv (zep F.plainAttrs_list F.slot_list_append F.type_list_append zaQ (pv 1) (zaa (zao zaO (zao zb1 zae (pv 5)) (zao zdl (pv 3) zae)) zad)))))))))))
   (zaf (zat (pv 1))))),?_⟩
 refine ⟨(by show 0≤sizeLine;decide),fun p hp=>?_⟩;have k0:But p H (upd H p (.lst [])):=fun b o n e=>by rw[zai n];exact e
 refine ⟨_,rfl,_,_,rfl,.inl (k0.sq hS hp),_,rfl,by rw[yab];omega,by rw[yab];omega,?_⟩;have el:((((xs.map nV).length:Nat):Int)).toNat=xs.length:=by rw[yab,ya9]
 rw[el];refine zbc (n:=xs.length) (fun i σ H2=>∃ x2 x3 x4 x5:Option V,σ=[some (.ref a),some (.ref p),x2,x3,x4,x5]∧H2 p=some (.lst (((zco xs).take i).map nV))∧But p H H2) ?_ ?_ ?_
 ·exact ⟨_,_,_,_,rfl,zac,k0⟩
 ·rintro i σ H2 hi ⟨x2,x3,x4,x5,rfl,h2,k2⟩;have hS2:=k2.sq hS hp;have hlen:(((zco xs).take i).map nV).length < sizeLine:=zaq (by rw[yab,yaj,zbd];omega);have fin:∀ v:V,v=nV (zcQ xs i)→upd H2 p (.lst (((zco xs).take i).map nV++[v])) p=some (.lst (((zco xs).take (i+1)).map nV))∧But p H (upd H2 p (.lst (((zco xs).take i).map nV++[v]))):=by
   rintro v rfl;refine ⟨?_,fun b o n e=>by rw[zai n];exact k2 b o n e⟩;rw[zac,zgN hi,yai];rfl
  refine ⟨_,rfl,rfl,_,rfl,?_⟩;refine ite2 (fun c=>?_) (fun c=>?_)
  ·have c':i=0:=by
    have:=V.int.inj (yaE c);omega
   have hat:atI (xs.map nV) 0=some (nV (xs.getD 0 0)):=zel (i:=0) (by omega);refine ⟨_,rfl,.inl ⟨rfl,_,SqL.of h2⟩,_,rfl,_,_,_,_,rfl,rfl,hS2,hat,_,_,rfl,rfl,(by show (0:Int) < 2;decide),_,_,_,rfl,rfl,h2,hlen,?_⟩;obtain ⟨g2,g3⟩:=fin (.int (((xs.getD 0 0:Nat):Int) % 2)) (by
    unfold zcQ;rw[if_pos c'];show V.int _=V.int _;rw[Int.natCast_emod];rfl)
   exact ⟨_,_,_,_,rfl,g2,g3⟩
  ·have c':i≠0:=fun z=>c (by subst z;decide);have hne:xs.getD (i - 1) 0≠xs.getD i 0:=by
    have:=hu (i - 1) (by omega);rw[show i - 1+1=i by omega]at this;exact this
   have hat:atI (xs.map nV) (0+(i:Int))=some (nV (xs.getD i 0)):=by rw[ybg];exact zel hi
   have hatp:atI (xs.map nV) (0+(i:Int) - 1)=some (nV (xs.getD (i - 1) 0)):=by rw[ybg];exact znd c' hi
   refine ⟨_,rfl,_,rfl,_,_,_,_,rfl,rfl,hS2,hat,?_⟩;refine ⟨_,rfl,_,rfl,_,_,rfl,rfl,_,_,_,_,rfl,rfl,hS2,hatp,?_⟩;have et:zcQ xs i=fig (xs.getD (i - 1) 0) (xs.getD i 0):=by unfold zcQ;rw[if_neg c']
   rw[et]at fin;generalize xs.getD (i - 1) 0=Y at *;generalize xs.getD i 0=X at *;refine zjx (fun σ H'=>∃ x y j:Nat,σ=[some (.ref a),some (.ref p),some (.int (0+i)),some (.int x),some (.int y),some (.int j)]∧H'=H2∧x≠y∧lu Y X=j+lu y x∧x=X / 2 ^ j) wMes ?_ ?_ ?_
   ·exact ⟨X,Y,0,rfl,rfl,Ne.symm hne,by omega,by rw[Nat.pow_zero,Nat.div_one]⟩
   ·rintro σ H' ⟨x,y,j,rfl,rfl,hxy,hl,hx⟩;refine ⟨_,rfl,_,_,rfl,rfl,(by show (0:Int) < 2;decide),_,rfl,_,_,rfl,rfl,(by show (0:Int) < 2;decide),rfl,_,rfl,?_⟩;refine ite2 (fun e=>?_) (fun e=>?_)
    ·have e':x % 2=y % 2:=by
      have:=V.int.inj (yaE e);omega
     refine ⟨_,rfl,_,_,rfl,rfl,⟨by decide,by decide⟩,_,rfl,_,_,rfl,rfl,⟨by decide,by decide⟩,_,rfl,_,_,rfl,rfl,?_⟩;refine ⟨⟨x / 2,y / 2,j+1,?_,rfl,by omega,?_,?_⟩,?_⟩
     ·rw[Int.natCast_ediv,Int.natCast_ediv,Int.natCast_add];rfl
     ·rw[hl,zhK (Ne.symm hxy) e'.symm];omega
     ·rw[hx,ybM,Nat.div_div_eq_div_mul]
     ·show ((x:Int) / 2).toNat+((y:Int) / 2).toNat < (x:Int).toNat+(y:Int).toNat;omega
    ·have e':x % 2≠y % 2:=fun z=>e (by
      apply yah;show V.int _=V.int _;have z':(x:Int) % 2=(y:Int) % 2:=by omega
      rw[z'])
     rw[zka (Ne.symm e')]at hl;refine ⟨_,rfl,.inl ⟨rfl,_,SqL.of h2⟩,_,rfl,_,_,rfl,rfl,.inl ⟨by decide,by decide⟩,_,rfl,_,_,rfl,rfl,(by show (0:Int) < 2;decide),_,_,rfl,rfl,_,_,_,rfl,rfl,h2,hlen,?_⟩;obtain ⟨g2,g3⟩:=fin (.int (2 * (j:Int)+(x:Int) % 2)) (by
      show V.int _=V.int _;unfold fig;rw[hl,ybq,← hx,Int.natCast_add,Int.natCast_mul,Int.natCast_emod];rfl)
     exact ⟨_,_,_,_,rfl,g2,g3⟩
   ·intro σ H Q Q' m h;obtain ⟨x1,e1,i1,j1,f1,g1,c1,x2,e2,i2,j2,f2,g2,c2,r1,b,e,q⟩:=h;exact ⟨x1,e1,i1,j1,f1,g1,c1,x2,e2,i2,j2,f2,g2,c2,r1,b,e,m _ _ q⟩
 ·rintro σ H2 ⟨x2,x3,x4,x5,rfl,h2,k2⟩;refine ⟨_,rfl,?_⟩;refine q p H2 hp (fun b o e=>k2 b o (zab e hp) e) ?_;rw[h2,yap (by rw[zbd];exact yaa _)]
theorem zem {n d i:Nat}:HT.sIx n d (some (i:Int))=min i n:=by
 unfold HT.sIx;simp
 try omega
theorem zhR (xs:List V)(a b:Nat):cutV xs (some (a:Int)) (some (b:Int))=(xs.drop a).take (b - a):=by
 unfold cutV;rw[zem,zem];by_cases h:a≤xs.length
 ·rw[ybr h];by_cases h2:b≤xs.length
  ·rw[ybr h2]
  ·rw[ycn (by omega),yap (by rw[yaP];exact yaa _),yap (by rw[yaP];omega)]
 ·rw[ycn (show xs.length≤a by omega),yaV (yaa _),yaV (show xs.length≤a by omega)];simp
theorem zgO {α:Type}(xs:List α)(k:Nat):(xs.drop k).take 1=xs[k]?.toList:=by
 by_cases h:k < xs.length
 ·rw[ybS h,yac h];rfl
 ·rw[yaV (by omega),yaU (by omega)];rfl
theorem ziz {xs:List V}{k:Nat}{i j:Int}(hi:i=if (k:Int) - 1 > 0 then (k:Int) - 1 else 0)(hj:j=(k:Int)):cutV xs (some i) (some j)=(if k=0 then none else xs[k - 1]?).toList:=by
 subst hj;have e:i=((k - 1:Nat):Int):=by
  rw[hi];split <;> omega
 subst e;rw[zhR];split
 ·rename_i h;subst h;simp
 ·rw[show k - (k - 1)=1 by omega,zgO]
theorem zg6 {xs:List V}{k:Nat}{i j:Int}(hi:i=(k:Int)+1)(hj:j=(k:Int)+2):cutV xs (some i) (some j)=xs[k+1]?.toList:=by
 subst hi hj;rw[show (k:Int)+1=((k+1:Nat):Int) by omega,show (k:Int)+2=((k+2:Nat):Int) by omega,zhR,show k+2 - (k+1)=1 by omega,zgO]
theorem zgy (xs:List Nat)(k:Nat):(if k=0 then none else (xs.map nV)[k - 1]?).toList++(xs.map nV)[k+1]?.toList=(zaK xs k).map nV:=by
 unfold zaK;rw[yai,yal,yal];congr 1
 ·split
  ·rfl
  ·cases xs[k - 1]? <;> rfl
 ·cases xs[k+1]? <;> rfl
theorem zgK (xs:List Nat)(k:Nat):(zaK xs k).length≤2:=by
 have e:∀ o:Option Nat,o.toList.length≤1:=fun o=>by cases o <;> simp
 unfold zaK;rw[yak];have:=e (if k=0 then none else xs[k - 1]?)
 have:=e xs[k+1]?;omega
theorem But.new {p b:Addr}{H H2:Hp}(k:But p H H2)(hb:H2 b=none)(o:HO):But p H (upd H2 b o):=fun x o' n e=>(zag hb o) x o' (k x o' n e)
theorem zpc {K:Frag}{i j:Nat}{σ:L2.St}{H2:Hp}{Q:VK}{a:Addr}{xs:List Nat}{k:Nat}{z:Int}(ez:z=(k:Int))(e1:σ[i]?=some (some (.ref a)))(e2:σ[j]?=some (some (.int z)))(h2a:H2 a=some (.lst (xs.map nV)))
  (q:∀ g H5,H2 g=none→Same H2 H5→H5 g=some (.lst ((zaK xs k).map nV))→Q (.ref g) H5) :
  tOp rCat (tSl (rSlL K) (tVar i) (ziQ (tCB (fun xs H Q=>∃ i j,xs=[V.int i,V.int j]∧Q (V.int (if j > i then j else i)) H) (zlD (tC (V.int 0)) (zlD (tOp (rI0 fun i j=>V.int (i - j)) (tVar j) (tC (V.int 1))) tNil)))) (ziQ (tVar j)))
   (tSl (rSlL K) (tVar i) (ziQ (tOp (rI0 fun i j=>V.int (i+j)) (tVar j) (tC (V.int 1)))) (ziQ (tOp (rI0 fun i j=>V.int (i+j)) (tVar j) (tC (V.int 2))))) σ H2 Q:=by
 subst ez;refine ⟨_,e1,_,e2,_,_,rfl,rfl,_,_,rfl,_,rfl,_,e2,_,rfl,_,_,rfl,SqL.of h2a,fun b hb=>?_⟩;have kb:=zag hb (.lst (cutV (xs.map nV) (some (if (k:Int) - 1 > 0 then (k:Int) - 1 else 0)) (some (k:Int))))
 have hbb:upd H2 b (.lst (cutV (xs.map nV) (some (if (k:Int) - 1 > 0 then (k:Int) - 1 else 0)) (some (k:Int)))) b=some (.lst (if k=0 then none else (xs.map nV)[k - 1]?).toList):=by
  rw[zac,ziz (k:=k) rfl rfl]
 generalize upd H2 b (.lst (cutV (xs.map nV) (some (if (k:Int) - 1 > 0 then (k:Int) - 1 else 0)) (some (k:Int))))=H3 at kb hbb ⊢
 refine ⟨_,e1,_,e2,_,_,rfl,rfl,_,rfl,_,e2,_,_,rfl,rfl,_,rfl,_,_,rfl,SqL.of (kb _ _ h2a),fun c hc=>?_⟩;have kc:=zag hc (.lst (cutV (xs.map nV) (some ((k:Int)+1)) (some ((k:Int)+2))));have hcb:=kc _ _ hbb;have hcc:upd H3 c (.lst (cutV (xs.map nV) (some ((k:Int)+1)) (some ((k:Int)+2)))) c=some (.lst (xs.map nV)[k+1]?.toList):=by
  rw[zac,zg6 (k:=k) rfl rfl]
 generalize upd H3 c (.lst (cutV (xs.map nV) (some ((k:Int)+1)) (some ((k:Int)+2))))=H4 at kc hcb hcc ⊢;refine ⟨b,c,_,_,rfl,rfl,hcb,hcc,?_,fun g hg=>?_⟩
 ·rw[← yak,zgy,yab];exact yar (zgK _ _) (by decide)
 rw[zgy];exact q g _ (kb.free (kc.free hg)) (kb.trans (kc.trans (zag hg _))) zac
def zeD (K:Frag):Sp:=fun vs H Q _=>∃(a:Addr) (xs:List Nat),vs=[.ref a]∧SqL K H a (xs.map nV)∧Unl xs∧zdo 6 xs∧xs.length≤1000∧
 ∀(p:Addr) (H':Hp),H p=none→Same H H'→H' p=some (.lst ((colL xs).map nV))→Q (.ref p) H'
def zbe (es:List (Int×Int)):List Bool:=zfa (colL (zcm 5 (zbT es)))
theorem zbh (es:List (Int×Int)):(zbe es).length=es.length:=by
 unfold zbe;rw[ze9,zew,zbp,zaH]
theorem zgj {es:List (Int×Int)}(he:∀ e∈es,zex 64 e)(hri:Rise es):Unl (zcm 5 (zbT es)):=zcl (zfj he hri) 5
theorem zgk {es:List (Int×Int)}(he:∀ e∈es,zex 64 e)(hri:Rise es):zdo 6 (zcm 5 (zbT es)):=zo4 (zfj he hri) (zji he)
theorem znb {xs:List Nat}(h:zdo 6 xs):∀ i x,atZ xs i=some x→x≤5:=fun i x e=>by
 obtain ⟨h0,h1⟩:=zhT e;have:=h i.toNat (by omega);unfold atZ at e;rw[if_pos h0]at e;rw[yad,e]at this;exact Nat.lt_succ_iff.mp this
theorem zii {es:List (Int×Int)}(he:∀ e∈es,zex 64 e)(hri:Rise es):zdK (zbe es):=zmn (zhS (unlZ (zgj he hri))) (zp3 (znb (zgk he hri)))
def zhh (K:Frag):Sp:=fun vs H Q _=>∃(a:Addr) (ws:List V) (es:List (Int×Int)),vs=[.ref a]∧H a=some (.lst ws)∧zar K H es ws∧es.length≤1000∧(∀ e∈es,zex 64 e)∧Rise es∧
 ∀(p:Addr) (H':Hp),H p=none→Same H H'→H' p=some (.lst ((zbe es).map V.bl))→Q (.ref p) H'
def zjL (K:Frag):Sp:=fun vs H Q _=>∃(a:Addr) (ws:List V) (es:List (Int×Int)),vs=[.ref a]∧H a=some (.lst ws)∧zar K H es ws∧es.length≤1000∧(∀ e∈es,zex 64 e)∧Rise es∧
 ∀(p:Addr) (H':Hp),H p=none→Same H H'→H' p=some (.lst (zcc ws (zbe es)))→Q (.ref p) H'
theorem zfq {α:Type}(xs:List α)(m j:Nat):(xs.drop m).take (j+1)=xs[m]?.toList++(xs.drop (m+1)).take j:=by
 by_cases h:m < xs.length
 ·rw[ybS h,yac h];rfl
 ·rw[yaV (by omega),yaU (by omega),yaV (by omega)];simp
theorem zcR (o:Option Bool):o.toList.any id=o.getD false:=by
 cases o with
 | none=>rfl
 | some b=>cases b <;> rfl
theorem any3 (ms:List Bool){k:Nat}(h:1≤k):((ms.drop (k - 1)).take 3).any id=!zdG ms k:=by
 rw[zfq,zfq,zfq,yco,yco,yco,zcR,zcR,zcR,show k - 1+1=k by omega,ybF];unfold zdG;rw[yad,yad,yad];generalize ms[k - 1]?.getD false=x;generalize ms[k]?.getD false=y;generalize ms[k+1]?.getD false=z;cases x <;> cases y <;> cases z <;> rfl
theorem zkl (ms:List Bool):inV (.bl true) (ms.map V.bl)=ms.any id:=by
 unfold inV
 induction ms with
 | nil=>rfl
 | cons m ms ih=>
  rw[yax,ybn,ih,ybn];cases m <;> rfl
theorem zmP (ms:List Bool):(ms.map V.bl).all zgH=true:=by
 rw[yaN];intro x hx;obtain ⟨n,_,rfl⟩:=yaH.mp hx;rfl
theorem zp1 {ms:List Bool}{k:Nat}{i j:Int}(h:1≤k)(hi:i=(k:Int) - 1)(hj:j=(k:Int)+2):cutV (ms.map V.bl) (some i) (some j)=((ms.drop (k - 1)).take 3).map V.bl:=by
 subst hi hj;rw[show (k:Int) - 1=((k - 1:Nat):Int) by omega,show (k:Int)+2=((k+2:Nat):Int) by omega,zhR,show k+2 - (k - 1)=3 by omega,ybK,List.map_drop]
theorem zgn {α:Type}{as:List α}{bs:List Bool}{a:α}{b:Bool}(h:as.length=bs.length):zcc (as++[a]) (bs++[b])=zcc as bs++(if b=true then [a] else []):=by
 unfold zcc;rw[List.zip_append h,ya6,yai];congr 1;cases b <;> rfl
theorem zgo {α:Type}(as:List α)(bs:List Bool):(zcc as bs).length≤as.length:=by
 unfold zcc;rw[yab];refine yar (ybk _ _) ?_;rw[yci];omega
theorem zko {α:Type}[Rep α]{K:Frag}{H:Hp}:∀{es:List α} {ws:List V} {ms:List Bool},zar K H es ws→zar K H (zcc es ms) (zcc ws ms)
 | _,_,_,.nil=>by
  unfold zcc;exact .nil
 | e::es,w::ws,[],.cons h t=>by
  unfold zcc;exact .nil
 | e::es,w::ws,m::ms,.cons h t=>by
  have:=zko (ms:=ms) t;unfold zcc at this ⊢;cases m with
  | false=>exact this
  | true=>exact .cons h this
theorem zbZ (bs:List Nat)(c:Nat):((List.range (c+1)).filter fun c=>!decide (c∈bs))=((List.range c).filter fun c=>!decide (c∈bs))++(if c∈bs then [] else [c]):=by
 rw[ybu,ya6];congr 1;by_cases h:c∈bs
 ·rw[if_pos h];simp[List.filter,h]
 ·rw[if_neg h];simp[List.filter,h]
theorem zbX {H:Hp}{p t:Addr}{xs ys:List V}(h1:H p=some (.lst xs))(h2:H t=some (.tup ys)):p≠t:=fun z=>by
 rw[z,h2]at h1;cases h1
theorem zfw {n k:Nat}(h:k < n):ixN n (k:Int)=some k:=by
 unfold ixN;simp;omega
def besV (xs:List V)(k:Nat):List V:=(if k=0 then none else xs[k - 1]?).toList++xs[k+1]?.toList
theorem zjj (xs:List V)(k:Nat):(besV xs k).length≤2:=by
 have e:∀ o:Option V,o.toList.length≤1:=fun o=>by cases o <;> simp
 unfold besV;rw[yak];have:=e (if k=0 then none else xs[k - 1]?)
 have:=e xs[k+1]?;omega
def spNb (K:Frag):Sp:=fun vs H Q _=>∃(a:Addr) (xs:List V) (k:Nat),vs=[.ref a,.int k]∧H a=some (.lst xs)∧
 ∀(g:Addr) (H':Hp),H g=none→Same H H'→H' g=some (.lst (besV xs k))→Q (.ref g) H'
theorem zhD (T:Txt K mg)(qaB:DF K mg "neighbours" zcC zbN):FC P w K mg base 1 "neighbours" zbN (spNb K):=by
 refine qaB.ok qbF (fun vs H Q E h=>?_) (fun f cdv A outer s H vs Q E hr h=>?_)
 ·obtain ⟨a,xs,k,rfl,_⟩:=h;rfl
 obtain ⟨a,xs,k,rfl,ha,q⟩:=h;refine ⟨_,(zaf (zat (zao zbO (zaI za8 (pv 0) (zaL (zam (zfl rfl) rfl T.qcF boot_max (zaa (zao zbb (pv 1) zae) (zaa zae zad)))) (zaL (pv 1))) (zaI za8 (pv 0) (zaL (zao zaO (pv 1) zae)) (zaL (zao zaO (pv 1) zae)))))),?_⟩;refine ⟨_,rfl,_,rfl,_,_,rfl,rfl,_,_,rfl,_,rfl,_,rfl,_,rfl,_,_,rfl,SqL.of ha,fun b hb=>?_⟩;have kb:=zag hb (.lst (cutV xs (some (if 0 > (k:Int) - 1 then 0 else (k:Int) - 1)) (some (k:Int))))
 have hbb:upd H b (.lst (cutV xs (some (if 0 > (k:Int) - 1 then 0 else (k:Int) - 1)) (some (k:Int)))) b=some (.lst (if k=0 then none else xs[k - 1]?).toList):=by
  rw[zac,ziz (k:=k) (by split <;> split <;> omega) rfl]
 generalize upd H b (.lst (cutV xs (some (if 0 > (k:Int) - 1 then 0 else (k:Int) - 1)) (some (k:Int))))=H3 at kb hbb ⊢
 refine ⟨_,rfl,_,rfl,_,_,rfl,rfl,_,rfl,_,rfl,_,_,rfl,rfl,_,rfl,_,_,rfl,SqL.of (kb _ _ ha),fun c hc=>?_⟩;have kc:=zag hc (.lst (cutV xs (some ((k:Int)+1)) (some ((k:Int)+2))));have hcb:=kc _ _ hbb;have hcc:upd H3 c (.lst (cutV xs (some ((k:Int)+1)) (some ((k:Int)+2)))) c=some (.lst xs[k+1]?.toList):=by
  rw[zac,zg6 (k:=k) rfl rfl]
 generalize upd H3 c (.lst (cutV xs (some ((k:Int)+1)) (some ((k:Int)+2))))=H4 at kc hcb hcc ⊢;refine ⟨b,c,_,_,rfl,rfl,hcb,hcc,?_,fun g hg=>?_⟩
 ·rw[← yak];exact yar (zjj xs k) (by decide)
 exact q g _ (kb.free (kc.free hg)) (kb.trans (kc.trans (zag hg _))) zac
def zoD (K:Frag):Sp:=fun vs H Q _=>∃(a:Addr) (xs:List Nat) (k:Nat),vs=[.ref a]∧H a=some (.lst ((zaK xs k).map nV))∧
 ∀ H':Hp,Same H H'→Q (.int (zcw xs k:Nat)) H'
theorem zhE (T:Txt K mg)(qaC:DF K mg "least_free" zcD zb9):FC P w K mg base 1 "least_free" zb9 (zoD K):=by
 refine qaC.ok qbG (fun vs H Q E h=>?_) (fun f cdv A outer s H vs Q E hr h=>?_)
 ·obtain ⟨a,xs,k,rfl,_⟩:=h;rfl
 obtain ⟨a,xs,k,rfl,ha,q⟩:=h;refine ⟨_,(zaf (zat (zam (zm7 rfl) rfl T.qc2 boot_min (zaa (zbG (N:=["colour","taken"]) (own:=1) (cap:=[0]) rfl (zeh (zbu (zaa zae (zaa zae (zaa zae zad))))) ⟨rfl,rfl,rfl,rfl,rfl,rfl⟩ (fun _ _ _ _ _=>(zan (i:=0) (show List.Nodup (["colour","taken"]:List Str) by decide +kernel) rfl (Or.inl rfl))) (fun _ _ _ _ _=>(zdt (zau (ze7 (K:=K)) (pv 0) (pv 1) (by with_unfolding_all rfl)))) (fun _ _ _ _ _=>(pv 0))) zad)))),?_⟩
 refine ⟨(by show 3≤sizeLine;decide),fun t ht=>?_⟩;have st:=zag ht (.tup [V.int 0,V.int 1,V.int 2]);have ht1:upd H t (.tup [V.int 0,V.int 1,V.int 2]) t=some (.tup [V.int 0,V.int 1,V.int 2]):=zac;generalize upd H t (.tup [V.int 0,V.int 1,V.int 2])=H1 at st ht1 ⊢;have h1a:=st _ _ ha;refine ⟨t,rfl,⟨_,SqT.of ht1⟩,fun D hD=>?_⟩;refine zed (xs:=[V.int 0,V.int 1,V.int 2]) (fun c σ H6=>∃ x0:Option V,σ=[x0,some (.ref a)]∧H6 D=some (.lst (((List.range c).filter fun c=>!decide (c∈zaK xs k)).map nV))∧But D H1 H6) ?_ ?_ ?_ ?_
 ·exact ⟨_,rfl,zac,fun b o n e=>by rw[zai n];exact e⟩
 ·rintro i σ H6 _ ⟨x0,rfl,_,k6⟩;exact SqT.of (k6 _ _ (zab ht1 hD) ht1)
 ·rintro c m x σ H6 hx hm ⟨x0,rfl,h6,k6⟩;obtain ⟨hi,rfl⟩:c < 3∧x=V.int (c:Int):=by
   rcases c with _ | _ | _ | c
   ·exact ⟨by decide,(yae hx).symm⟩
   ·exact ⟨by decide,(yae hx).symm⟩
   ·exact ⟨by decide,(yae hx).symm⟩
   ·cases hx
  have h6g:=k6 _ _ (zab h1a hD) h1a;have hlen:=ybk (fun c=>!decide (c∈zaK xs k)) (List.range c);rw[yaX]at hlen;refine ⟨_,rfl,_,rfl,_,_,rfl,.inl (SqL.of h6g),rfl,zjd _,_,rfl,?_⟩;show if (!inV (.int (c:Int)) ((zaK xs k).map nV))=true then _ else _
  rw[zmH];have hm3:c+m=3:=hm;refine ite2 (fun e=>?_) (fun e=>?_)
  ·have e':c∉zaK xs k:=fun z=>by
    rw[yah z]at e;cases e
   refine ⟨_,rfl,_,h6,zaq (by rw[yab];omega),m - 1,by omega,(by show c+1+(m - 1)=3;omega),_,rfl,?_,fun b o n e=>by rw[zai n];exact k6 b o n e⟩;rw[zac,zbZ,if_neg e',yai];rfl
  ·have e':c∈zaK xs k:=Decidable.byContradiction fun z=>e (by rw[yaq z];rfl);refine ⟨m - 1,by omega,(by show c+1+(m - 1)=3;omega),_,rfl,?_,k6⟩;rw[h6,zbZ,if_pos e',yaG]
 ·rintro σ H6 ⟨x0,rfl,h6,k6⟩;have h6:H6 D=some (.lst (((List.range 3).filter fun c=>!decide (c∈zaK xs k)).map nV)):=h6;have s6:Same H1 H6:=fun b o e=>k6 b o (zab e hD) e;have mem:∀ c,c∈((List.range 3).filter fun c=>!decide (c∈zaK xs k))↔c < 3∧c∉zaK xs k:=fun c=>by
   rw[ybd,ybe];constructor
   ·rintro ⟨h1,h2⟩;refine ⟨h1,fun z=>?_⟩;rw[yah z]at h2;cases h2
   ·rintro ⟨h1,h2⟩;exact ⟨h1,by rw[yaq h2];rfl⟩
  have hf:zcw xs k∈((List.range 3).filter fun c=>!decide (c∈zaK xs k)):=(mem _).mpr ⟨Nat.lt_succ_of_le (ziv xs k),zg4⟩;refine ⟨D,((List.range 3).filter fun c=>!decide (c∈zaK xs k)).map fun n:Nat=>(n:Int),rfl,?_,?_,fun M hM hL=>?_⟩
  ·rw[ybf];exact SqL.of h6
  ·rw[yab];exact List.length_pos_of_mem hf
  have eM:M=(zcw xs k:Int):=by
   have h1:=hL _ (yaH.mpr ⟨_,hf,rfl⟩);obtain ⟨c,hc,rfl⟩:=yaH.mp hM;have h2:¬ c < zcw xs k:=fun z=>((mem c).mp hc).2 (zfL z);omega
  rw[eM];exact q _ (st.trans s6)
theorem zp4 (xs:List Nat)(k:Nat):besV (xs.map nV) k=(zaK xs k).map nV:=zgy xs k
theorem zkY (T:Txt K mg)(qbn:DF K mg "colours" zeS zd6)(qaD:FC P w K mg base 1 "neighbours" zbN (spNb K))(qbU:FC P w K mg base 1 "least_free" zb9 (zoD K)):FC P w K mg base 3 "colours" zd6 (zeD K):=by
 refine qbn.ok qaH (fun vs H Q E h=>?_) (fun f cdv A outer s H vs Q E hr h=>?_)
 ·obtain ⟨a,xs,rfl,_⟩:=h;rfl
 obtain ⟨a,xs,rfl,hS,hu,hb,hz,q⟩:=h;refine ⟨_,(zah (zap (i:=1) qaH.nd rfl (Or.inl rfl) (zbi zbJ rfl T.qaY boot_list (zaa (pv 0) zad)))
   (zah (zaR PassesOwn.never rfl (zeh (zbu (zaa zae (zaa zae (zaa zae zad))))) (zan (i:=2) qaH.nd rfl (Or.inl rfl)) (zaf (zaR PassesOwn.never rfl (zaW rfl T.qad (zaa (zam zal rfl T.qag boot_len (zaa (pv 0) zad)) zad)) (zan (i:=3) qaH.nd rfl (Or.inl rfl)) (zaf (zbk (zau zcO (zay zaz (pv 1) (pv 3) (fun _ _=>rfl)) (pv 2) (zaA _)) (zaf (zfD (zax qbU hr (zaa (zax qaD hr (zaa (pv 1) (zaa (pv 3) zad))) zad)) (zgT (pv 1) (pv 3) zdM))) zaB)))))
   (zaf (zat (pv 1))))),?_⟩
 refine ⟨_,rfl,a,_,rfl,.inl hS,fun p hp=>?_⟩;have k0:But p H (upd H p (.lst (xs.map nV))):=fun b o n e=>by rw[zai n];exact e
 refine ⟨(by show 3≤sizeLine;decide),fun t ht=>?_⟩;have npt:p≠t:=zab zac ht;refine ⟨t,rfl,⟨_,SqT.of zac⟩,?_⟩;refine zgp (xs:=[V.int 3,V.int 4,V.int 5]) (fun i σ H2=>∃ x2 x3:Option V,σ=[some (.ref a),some (.ref p),x2,x3]∧H2 p=some (.lst ((colN xs i).map nV))∧H2 t=some (.tup [V.int 3,V.int 4,V.int 5])∧But p H H2) ?_ ?_ ?_ ?_
 ·exact ⟨_,_,rfl,by rw[zai npt];exact zac,zac,k0.new ht _⟩
 ·rintro i σ H2 _ ⟨x2,x3,rfl,_,h2t,_⟩;exact SqT.of h2t
 ·rintro i x σ H2 hx ⟨x2,x3,rfl,h2,h2t,k2⟩;obtain ⟨hi,rfl⟩:i < 3∧x=V.int ((3+i:Nat):Int):=by
   rcases i with _ | _ | _ | i
   ·exact ⟨by decide,(yae hx).symm⟩
   ·exact ⟨by decide,(yae hx).symm⟩
   ·exact ⟨by decide,(yae hx).symm⟩
   ·cases hx
  have hyl:=zgs xs i;have hyu:=zkw hu i;have hnx:colN xs (i+1)=recL (3+i) (colN xs i):=rfl;rw[hnx];generalize colN xs i=ys at h2 hyl hyu ⊢;generalize 3+i=v;have hSa:SqL K H2 a (xs.map nV):=k2.sq hS hp;refine ⟨_,rfl,_,_,rfl,.inl hSa,_,rfl,by rw[yab];omega,by rw[yab];omega,?_⟩;have el:((((xs.map nV).length:Nat):Int)).toNat=ys.length:=by rw[yab,ya9,hyl]
  rw[el];refine zbc (n:=ys.length) (fun k σ H3=>∃ x3:Option V,σ=[some (.ref a),some (.ref p),some (.int v),x3]∧H3 p=some (.lst ((mixL v ys k).map nV))∧H3 t=some (.tup [V.int 3,V.int 4,V.int 5])∧But p H H3) ?_ ?_ ?_
  ·exact ⟨_,rfl,h2,h2t,k2⟩
  ·rintro k σ H3 hk ⟨x3,rfl,h3,h3t,k3⟩;rw[ybg];have ml:=zes v ys k;have eg:(mixL v ys k).getD k 0=ys.getD k 0:=by
    rw[yad,zmm (yaa k),← yad]
   have hat:atI ((mixL v ys k).map nV) (k:Int)=some (nV (ys.getD k 0)):=by
    rw[← eg];exact zel (by omega)
   refine ⟨_,rfl,_,rfl,_,_,_,_,rfl,rfl,SqL.of h3,hat,_,rfl,rfl,_,rfl,?_⟩;refine ite2 (fun c=>?_) (fun c=>?_)
   ·have c':ys.getD k 0=v:=by
     have:=V.int.inj (yaE c);omega
    refine ⟨_,rfl,_,rfl,p,_,k,rfl,h3,fun g H4 hg s4 h4=>?_⟩;rw[zp4,zgi hyu hk c']at h4;refine ⟨g,ys,k,rfl,h4,fun H5 s5=>?_⟩;have s35:=s4.trans s5;have same:∀ b o,b≠p→H3 b=some o→upd H5 p (.lst (((mixL v ys k).map nV).set k (nV (zcw ys k)))) b=some o:=fun b o n e=>by
     rw[zai n];exact s35 _ _ e
    refine ⟨_,rfl,_,rfl,_,_,_,k,rfl,rfl,s35 _ _ h3,zfw (by rw[yab,ml];exact hk),?_⟩;refine ⟨_,rfl,?_,same _ _ (Ne.symm (zbX h3 h3t)) h3t,fun b o n e=>same _ _ n (k3 b o n e)⟩;rw[zac,zj6 hk c',yb2]
   ·have c':ys.getD k 0≠v:=fun z=>c (by rw[z];exact yah rfl);exact ⟨_,rfl,by rw[zih hk c'];exact h3,h3t,k3⟩
  ·rintro σ H3 ⟨x3,rfl,h3,h3t,k3⟩;rw[zj7 (yaa _)]at h3;exact ⟨_,_,rfl,h3,h3t,k3⟩
 ·rintro σ H2 ⟨x2,x3,rfl,h2,_,k2⟩;refine ⟨_,rfl,?_⟩;exact q p H2 hp (fun b o e=>k2 b o (zab e hp) e) h2
def zdH (ms:List Bool)(k:Nat):Bool:=!ms.getD (k - 1) false && !ms.getD (k+1) false
def besB (ms:List Bool)(k:Nat):List Bool:=(if k=0 then none else ms[k - 1]?).toList++ms[k+1]?.toList
theorem zp5 (ms:List Bool)(k:Nat):besV (ms.map V.bl) k=(besB ms k).map V.bl:=by
 unfold besV besB;rw[yai,yal,yal];congr 1
 ·split
  ·rfl
  ·cases ms[k - 1]? <;> rfl
 ·cases ms[k+1]? <;> rfl
theorem zol {ms:List Bool}{k:Nat}(h:1≤k):(besB ms k).any id=!zdH ms k:=by
 unfold besB zdH;rw[if_neg (by omega),yco,zcR,zcR,yad,yad];generalize ms[k - 1]?.getD false=x;generalize ms[k+1]?.getD false=z;cases x <;> cases z <;> rfl
theorem zi1 {sh:Nat}{cs:List Nat}{ms:List Bool}(hu:Unl cs)(hl:cs.length=ms.length){k:Nat}(h:k < cs.length)(h1:1≤k)(hs:cs.getD k 0=sh):zdH (mixM sh cs ms k) k=zdH ms k:=by
 unfold zdH;have e:∀ j,k≤j→(mixM sh cs ms k).getD j false=ms.getD j false:=fun j hj=>by
  rw[yad,yad,zbE hl,if_neg (by omega)]
 rw[e (k+1) (by omega)];have e2:(mixM sh cs ms k).getD (k - 1) false=ms.getD (k - 1) false:=by
  rw[yad,zbE hl,if_pos (by omega),zci hl (by omega)];have:=hu (k - 1) (by omega);rw[show k - 1+1=k by omega,hs]at this;rw[yaq this];simp
 rw[e2]
theorem zgV {sh:Nat}{cs:List Nat}{ms:List Bool}(hl:cs.length=ms.length){k:Nat}(h:k < cs.length)(hn:¬ (cs.getD k 0=sh∧zdH ms k=true)):mixM sh cs ms (k+1)=mixM sh cs ms k:=by
 apply ybi;intro j;rw[zbE hl,zbE hl];by_cases c:j < k
 ·rw[if_pos c,if_pos (by omega)]
 ·rw[if_neg c];split
  ·have:j=k:=by omega
   subst this;rw[zci hl h];unfold zdH at hn;rw[yac (by omega)];have e:ms.getD j false=ms[j]'(by omega):=by
    rw[yad,yac (by omega)];rfl
   rw[e];congr 1;generalize ms[j]=a;generalize ms.getD (j - 1) false=b at hn ⊢;generalize ms.getD (j+1) false=d at hn ⊢;by_cases z:cs.getD j 0=sh
   ·have hn':¬ ((!b && !d)=true):=fun y=>hn ⟨z,y⟩;cases b with
    | true=>simp
    | false=>
     cases d with
     | true=>simp
     | false=>exact absurd rfl hn'
   ·rw[yaq z];simp
  ·rfl
theorem zmk {sh:Nat}{cs:List Nat}{ms:List Bool}(hl:cs.length=ms.length){k:Nat}(h:k < cs.length)(hp:1≤k∧cs.getD k 0=sh∧zdH ms k=true):mixM sh cs ms (k+1)=(mixM sh cs ms k).set k true:=by
 apply ybi;intro j;rw[yb0,zc8 hl,zbE hl,zbE hl];by_cases c:k=j
 ·subst c;rw[if_pos rfl,if_pos h,if_pos (by omega),zci hl h];obtain ⟨p1,p2,p3⟩:=hp;unfold zdH at p3;simp only[ya1,ybp]at p3;rw[p2,p3.1,p3.2,yah p1];simp
 ·rw[if_neg c];by_cases c2:j < k
  ·rw[if_pos c2,if_pos (by omega)]
  ·rw[if_neg c2,if_neg (by omega)]
theorem znK (T:Txt K mg)(qb5:DF K mg "marks" zhm zf3)(qcH:FC P w K mg base 3 "labels" zeX (zjE K))(qcu:FC P w K mg base 3 "colours" zd6 (zeD K))(qaD:FC P w K mg base 1 "neighbours" zbN (spNb K)):FC P w K mg base 5 "marks" zf3 (zhh K):=by
 refine qb5.ok qaV (fun vs H Q E h=>?_) (fun f cdv A outer s H vs Q E hr h=>?_)
 ·obtain ⟨a,ws,es,rfl,_⟩:=h;rfl
 obtain ⟨a,ws,es,rfl,ha,hw,hz,he,hri,q⟩:=h;refine ⟨_,(zah (zap (i:=1) qaV.nd rfl (Or.inl rfl) (zax qcu hr (zaa (zax qcH hr (zaa (pv 0) zad)) zad)))
   (zah (zeo (i:=2) (N:=["tint"]) (own:=1) (cap:=[]) qaV.nd rfl rfl rfl (zbq (pv 1)) ⟨rfl,rfl,rfl,rfl,rfl,rfl⟩ (fun _ _ _ _ _=>(zan (i:=0) (show List.Nodup (["tint"]:List Str) by decide +kernel) rfl (Or.inl rfl))) (fun _ _ _ _ _=>zbF) (fun _ _ _ _ _=>zbR))
   (zah (zaR PassesOwn.never rfl (zeh (zbu (zaa zae (zaa zae (zaa zae zad))))) (zan (i:=3) qaV.nd rfl (Or.inl rfl)) (zaf (zaR PassesOwn.never rfl (zdv rfl T.qad (zaa zae (zaa (zam zal rfl T.qag boot_len (zaa (pv 1) zad)) zad))) (zan (i:=4) qaV.nd rfl (Or.inl rfl)) (zaf (zbk (PW.pt (zh9 (zau zcO (zay zaz (pv 1) (pv 4) (fun _ _=>rfl)) (pv 3) (zaA _)) (zgd (zau zdA zbR (zax qaD hr (zaa (pv 2) (zaa (pv 4) zad))) (by with_unfolding_all rfl))))) (zaf (zfD zbR (zgT (pv 2) (pv 4) zdM))) zaB)))))
   (zaf (zat (pv 2)))))),?_⟩
 refine ⟨_,rfl,a,ws,es,rfl,SqL.of ha,hw,hz,he,hri,fun p H3 hp s3 h3=>?_⟩;refine ⟨p,_,rfl,SqL.of h3,zgj he hri,zgk he hri,by rw[zbp,zaH];exact hz,fun c H4 hc s4 h4=>?_⟩;have cu:Unl (colL (zcm 5 (zbT es))):=zlt (zhS (unlZ (zgj he hri)));have cl:(colL (zcm 5 (zbT es))).length=es.length:=by rw[zew,zbp,zaH]
 have fin:zbe es=mkN (colL (zcm 5 (zbT es))) 3:=(zig _).symm;generalize colL (zcm 5 (zbT es))=cs at h4 cu cl fin;have s04:=s3.trans s4;refine ⟨_,rfl,c,rfl,⟨_,SqL.of h4⟩,fun F hF=>?_⟩;refine zbz (xs:=cs.map nV) (fun i σ H5=>∃ x0:Option V,σ=[x0]∧H5 F=some (.lst ((List.replicate i false).map V.bl))∧But F H4 H5) ?_ ?_ ?_ ?_
 ·exact ⟨_,rfl,zac,fun b o n e=>by rw[zai n];exact e⟩
 ·rintro i σ H5 _ ⟨x0,rfl,_,k5⟩;exact k5.sq (SqL.of h4) hF
 ·rintro i m x σ H5 hx hm ⟨x0,rfl,h5,k5⟩;have hi:=(yaf.mp hx).1;rw[yab]at hi hm;refine zcK ?_;refine ⟨_,h5,zaq (by rw[yab,ya8];omega),m - 1,by omega,by rw[yab];omega,_,rfl,?_,fun b o n e=>by rw[zai n];exact k5 b o n e⟩;rw[zac,ycD,yai];rfl
 rintro σ H5 ⟨x0,rfl,h5,k5⟩;have s45:Same H4 H5:=fun b o e=>k5 b o (zab e hF) e;have h5c:=s45 _ _ h4;have nFc:c≠F:=zab h4 hF;have hF0:H F=none:=s04.free hF;have k05:But F H H5:=fun b o _ e=>s45 _ _ (s04 _ _ e);have e5:H5 F=some (.lst ((mkN cs 0).map V.bl)):=by
  rw[h5,mkN,yab,show List.replicate cs.length false=cs.map (fun _=>false) from by rw[List.map_const']]
 refine ⟨(by show 3≤sizeLine;decide),fun t ht=>?_⟩;have st:=zag ht (.tup [V.int 2,V.int 1,V.int 0]);refine ⟨t,rfl,⟨_,SqT.of zac⟩,?_⟩;refine zgp (xs:=[V.int 2,V.int 1,V.int 0]) (fun i σ H6=>∃(x3 x4:Option V),σ=[some (.ref a),some (.ref c),some (.ref F),x3,x4]∧H6 F=some (.lst ((mkN cs i).map V.bl))∧H6 c=some (.lst (cs.map nV))∧H6 t=some (.tup [V.int 2,V.int 1,V.int 0])∧But F H H6) ?_ ?_ ?_ ?_
 ·exact ⟨_,_,rfl,st _ _ e5,st _ _ h5c,zac,k05.new ht _⟩
 ·rintro i σ H6 _ ⟨x3,x4,rfl,_,_,h6t,_⟩;exact SqT.of h6t
 ·rintro i x σ H6 hx ⟨x3,x4,rfl,h6,h6c,h6t,k6⟩;obtain ⟨hi,rfl⟩:i < 3∧x=V.int ((2 - i:Nat):Int):=by
   rcases i with _ | _ | _ | i
   ·exact ⟨by decide,(yae hx).symm⟩
   ·exact ⟨by decide,(yae hx).symm⟩
   ·exact ⟨by decide,(yae hx).symm⟩
   ·cases hx
  have hml:=zgU cs i;have hnx:mkN cs (i+1)=zb3 (2 - i) cs (mkN cs i):=rfl;rw[hnx];generalize mkN cs i=ms at h6 hml ⊢;generalize 2 - i=sh;refine ⟨_,rfl,_,_,rfl,.inl (SqL.of h6c),1,_,rfl,⟨by omega,by omega,by rw[yab];omega,by rw[yab];omega⟩,?_⟩;have en:((((cs.map nV).length:Nat):Int) - 1).toNat=cs.length - 1:=by rw[yab];omega
  rw[en];have km:∀ k,(mixM sh cs ms k).length=cs.length:=zc8 hml;refine zbc (n:=cs.length - 1) (fun j σ H7=>∃(x4:Option V),σ=[some (.ref a),some (.ref c),some (.ref F),some (.int sh),x4]∧H7 F=some (.lst ((mixM sh cs ms (1+j)).map V.bl))∧H7 c=some (.lst (cs.map nV))∧H7 t=some (.tup [V.int 2,V.int 1,V.int 0])∧But F H H7) ?_ ?_ ?_
  ·exact ⟨_,rfl,by rw[zj4 hml];exact h6,h6c,h6t,k6⟩
  ·rintro j σ H7 hj ⟨x4,rfl,h7,h7c,h7t,k7⟩;have ek:(1:Int)+(j:Int)=((1+j:Nat):Int):=by omega
   have hk1:1≤1+j:=by omega
   have hkl:1+j < cs.length:=by omega
   rw[ek];have es1:1+(j+1)=1+j+1:=by omega
   rw[es1];generalize 1+j=k at h7 hk1 hkl ⊢;have hat:=zel (xs:=cs) hkl;have mc:cs.getD k 0=sh→zdH (mixM sh cs ms k) k=zdH ms k:=fun z=>zi1 cu hml hkl hk1 z;refine ⟨_,rfl,_,rfl,_,_,_,_,rfl,rfl,SqL.of h7c,hat,_,rfl,rfl,_,rfl,?_⟩;refine ite2 (fun e=>?_) (fun e=>?_)
   ·have e':cs.getD k 0=sh:=by
     have:=V.int.inj (yaE e);omega
    refine ⟨_,rfl,_,rfl,F,_,k,rfl,h7,fun b H8 hb sb hbb=>?_⟩;rw[zp5]at hbb;have kb:But F H H8:=fun x o n e=>sb _ _ (k7 x o n e);refine ⟨_,_,rfl,.inl (SqL.of hbb),rfl,zmP _,_,rfl,?_⟩;show if (!inV (.bl true) ((besB (mixM sh cs ms k) k).map V.bl))=true then _ else _
    rw[zkl,zol hk1,mc e',Bool.not_not];refine ite2 (fun y=>?_) (fun y=>?_)
    ·refine ⟨_,rfl,_,rfl,_,_,_,k,rfl,rfl,sb _ _ h7,zfw (by rw[yab,km];exact hkl),?_⟩;have same:∀ b o,b≠F→H8 b=some o→upd H8 F (.lst (((mixM sh cs ms k).map V.bl).set k (.bl true))) b=some o:=fun b o n e=>by
      rw[zai n];exact e
     refine ⟨_,rfl,?_,same _ _ (fun z=>?_) (sb _ _ h7c),same _ _ (Ne.symm (zbX (sb _ _ h7) (sb _ _ h7t))) (sb _ _ h7t),fun b o n e=>same _ _ n (kb b o n e)⟩
     ·rw[zac,zmk hml hkl ⟨hk1,e',y⟩,yb2]
     ·exact nFc z
    ·exact ⟨_,rfl,by rw[zgV hml hkl (fun z=>y z.2)];exact sb _ _ h7,sb _ _ h7c,sb _ _ h7t,kb⟩
   ·have e':cs.getD k 0≠sh:=fun z=>e (by rw[z];exact yah rfl);refine iteF ?_;exact ⟨_,rfl,by rw[zgV hml hkl (fun z=>e' z.1)];exact h7,h7c,h7t,k7⟩
  ·rintro σ H7 ⟨x4,rfl,h7,h7c,h7t,k7⟩;rw[zj5 hml (by omega)]at h7;exact ⟨_,_,rfl,h7,h7c,h7t,k7⟩
 ·rintro σ H6 ⟨x3,x4,rfl,h6,_,_,k6⟩;refine ⟨_,rfl,?_⟩;refine q F H6 hF0 (fun b o e=>k6 b o (zab e hF0) e) ?_;rw[fin];exact h6
theorem zn9 {α:Type}:zcc ([]:List α) []=[]:=rfl
theorem zrb {ms:List Bool}{i:Nat}{x:V}(h:(ms.map V.bl)[i]?=some x):∃ hi:i < ms.length,x=.bl ms[i]:=by
 rw[yal]at h;cases e:ms[i]? with
 | none=>rw[e]at h;cases h
 | some y=>
  rw[e]at h;obtain ⟨hi,rfl⟩:=yaf.mp e;exact ⟨hi,(yae h).symm⟩
theorem zeA {α:Type}{l:List α}{i:Nat}(h:i < l.length):l.take (i+1)=l.take i++[l[i]]:=yaB h
theorem zmf (T:Txt K mg)(qbN:DF K mg "handed" zf0 ze4)(qcS:FC P w K mg base 5 "marks" zf3 (zhh K)):FC P w K mg base 6 "handed" ze4 (zjL K):=by
 refine qbN.ok qcq (fun vs H Q E h=>?_) (fun f cdv A outer s H vs Q E hr h=>?_)
 ·obtain ⟨a,ws,es,rfl,_⟩:=h;rfl
 obtain ⟨a,ws,es,rfl,ha,hw,hz,he,hri,q⟩:=h;have hwl:=hw.length;have hml:=zbh es;refine ⟨_,(zaf (zat (zbG (N:=["entry","mark"]) (own:=2) (cap:=[]) rfl (zlX rfl T.qcQ (zaa (pv 0) (zaa (zax qcS hr (zaa (pv 0) zad)) zad))) ⟨rfl,rfl,rfl,rfl,rfl,rfl⟩ (fun _ _ _ _ _=>(zlZ (K:=K) (n:=2) rfl (za5 (zan (i:=0) (show List.Nodup (["entry","mark"]:List Str) by decide +kernel) rfl (Or.inl rfl)) (za5 (zan (i:=1) (show List.Nodup (["entry","mark"]:List Str) by decide +kernel) rfl (Or.inl rfl)) zdx)))) (fun _ _ _ _ _=>(zdt (zdj (pv 1)))) (fun _ _ _ _ _=>(pv 0))))),?_⟩;refine ⟨_,rfl,_,rfl,a,ws,es,rfl,ha,hw,hz,he,hri,fun u H6 hu g6 h6u=>?_⟩;have h6p:=g6 _ _ ha;generalize zbe es=ms at hml h6u q;refine ⟨a,u,rfl,⟨_,SqL.of h6p⟩,⟨_,SqL.of h6u⟩,fun D hD=>?_⟩;refine zoh (xs:=ws) (ys:=ms.map V.bl) (by rw[yab,hml];exact hwl.symm) (fun j σ H7=>∃ x0 x1:Option V,σ=[x0,x1]∧H7 D=some (.lst (zcc (ws.take j) (ms.take j)))∧But D H6 H7) ?_ ?_ ?_ ?_
 ·exact ⟨_,_,rfl,by rw[ybF,ybF,zn9];exact zac,fun b o n e=>by rw[zai n];exact e⟩
 ·rintro j σ H7 _ ⟨x0,x1,rfl,_,k7⟩;exact ⟨k7.sq (SqL.of h6p) hD,k7.sq (SqL.of h6u) hD⟩
 ·rintro j m' x y σ H7 r' hx hy hm' ⟨x0,x1,rfl,h7,k7⟩ hr';obtain ⟨hj,rfl⟩:=zrb hy;obtain ⟨hjw,rfl⟩:=yaf.mp hx;have hsn:=zgn (a:=ws[j]) (b:=ms[j]) (show (ws.take j).length=(ms.take j).length by rw[yaj,yaj];omega);rw[← zeA hjw,← zeA hj]at hsn;refine ⟨r',_,rfl,SqT.of zac,rfl,_,_,rfl,_,_,rfl,rfl,?_⟩;have s7:=zag hr' (.tup [ws[j],.bl ms[j]]);have h8:=s7 _ _ h7;have k8:=k7.new hr' (.tup [ws[j],.bl ms[j]]);generalize upd H7 r' (.tup [ws[j],.bl ms[j]])=H8 at h8 k8 ⊢;refine ⟨_,rfl,_,rfl,?_⟩;have hl8:=zgo (ws.take j) (ms.take j);rw[yaj]at hl8;refine ite2 (fun e=>?_) (fun e=>?_)
  ·refine ⟨_,rfl,_,h8,zaq (by omega),m' - 1,by omega,by omega,_,_,rfl,?_,fun b o n e=>by rw[zai n];exact k8 b o n e⟩;rw[zac,hsn,if_pos e]
  ·refine ⟨m' - 1,by omega,by omega,_,_,rfl,?_,k8⟩;rw[h8,hsn,if_neg e,yaG]
 ·rintro σ H7 ⟨x0,x1,rfl,h7,k7⟩;rw[yap (yaa _),yap (by omega)]at h7;have s7:Same H6 H7:=fun b o e=>k7 b o (zab e hD) e;exact q D H7 (g6.free hD) (g6.trans s7) h7
theorem ziI {v:Nat}{xs:List Nat}{k:Nat}:((List.range (k+1)).filter fun k=>decide (xs.getD k 0=v))=((List.range k).filter fun k=>decide (xs.getD k 0=v))++(if xs.getD k 0=v then [k] else []):=by
 rw[ybu,ya6];congr 1;by_cases h:xs.getD k 0=v
 ·rw[if_pos h,ya5 (by exact yah h)];rfl
 ·rw[if_neg h,ybj (by rw[yaq h];decide)];rfl
theorem ziZ (T:Txt K mg)(qaO:DF K mg "_law_colours" zc0 zcH):FC P w K mg base 1 "_law_colours" zcH (zeD K):=by
 refine qaO.ok qaj (fun vs H Q E h=>?_) (fun f cdv A outer s H vs Q E hr h=>?_)
 ·obtain ⟨a,xs,rfl,_⟩:=h;rfl
 obtain ⟨a,xs,rfl,hS,hu,hb,hz,q⟩:=h;refine ⟨_,(zah (zap (i:=1) qaj.nd rfl (Or.inr rfl) (zbi zbJ rfl T.qaY boot_list (zaa (pv 0) zad)))
   (zah (zaR PassesOwn.never rfl (zeh (zbu (zaa zae (zaa zae (zaa zae zad))))) (zan (i:=2) qaj.nd rfl (Or.inr rfl)) (zah (zeo (i:=3) (N:=["_law_k","_law_found","_law_high"]) (own:=1) (cap:=[1,2]) qaj.nd rfl rfl rfl (zaW rfl T.qad (zaa (zam zal rfl T.qag boot_len (zaa (pv 1) zad)) zad)) ⟨rfl,rfl,rfl,rfl,rfl,rfl⟩ (fun _ _ _ _ _=>(zan (i:=0) (show List.Nodup (["_law_k","_law_found","_law_high"]:List Str) by decide +kernel) rfl (Or.inl rfl))) (fun _ _ _ _ _=>(zdt (zau zcO (zay (zkj (K:=K)) (pv 1) (pv 0) (fun _ _=>rfl)) (pv 2) (zaA _)))) (fun _ _ _ _ _=>(pv 0)))
   (zaf (zaR PassesOwn.never rfl (zbq (pv 3)) (zan (i:=4) qaj.nd rfl (Or.inl rfl)) (zah (zap (i:=5) qaj.nd rfl (Or.inr rfl) (zao zbO (zaI za8 (pv 1) (zaL (zam (zfl rfl) rfl T.qcF boot_max (zaa zae (zaa (zao zbb (pv 4) zae) zad)))) (zaL (pv 4))) (zaI za8 (pv 1) (zaL (zao zaO (pv 4) zae)) (zaL (zao zaO (pv 4) zae)))))
   (zaf (zfD (zay zaz (zbG (N:=["_law_colour","_law_beside"]) (own:=1) (cap:=[5]) rfl (zaW rfl T.qad (zaa zae zad)) ⟨rfl,rfl,rfl,rfl,rfl,rfl⟩ (fun _ _ _ _ _=>(zan (i:=0) (show List.Nodup (["_law_colour","_law_beside"]:List Str) by decide +kernel) rfl (Or.inl rfl))) (fun _ _ _ _ _=>(zdt (zau (ze7 (K:=K)) (pv 0) (pv 1) (by with_unfolding_all rfl)))) (fun _ _ _ _ _=>(pv 0))) zae (fun _ _=>rfl)) (zgT (pv 1) (pv 4) zdM))))))))
   (zaf (zat (pv 1))))),?_⟩
 refine ⟨_,rfl,a,_,rfl,.inl hS,fun p hp=>?_⟩;have k0:But p H (upd H p (.lst (xs.map nV))):=fun b o n e=>by rw[zai n];exact e
 refine ⟨(by show 3≤sizeLine;decide),fun t ht=>?_⟩;have npt:p≠t:=zab zac ht;refine ⟨t,rfl,⟨_,SqT.of zac⟩,?_⟩;refine zgp (xs:=[V.int 3,V.int 4,V.int 5]) (fun i σ H2=>∃ x2 x3 x4 x5:Option V,σ=[some (.ref a),some (.ref p),x2,x3,x4,x5]∧H2 p=some (.lst ((colN xs i).map nV))∧H2 t=some (.tup [V.int 3,V.int 4,V.int 5])∧But p H H2) ?_ ?_ ?_ ?_
 ·exact ⟨_,_,_,_,rfl,by rw[zai npt];exact zac,zac,k0.new ht _⟩
 ·rintro i σ H2 _ ⟨x2,x3,x4,x5,rfl,_,h2t,_⟩;exact SqT.of h2t
 ·rintro i x σ H2 hx ⟨x2,x3,x4,x5,rfl,h2,h2t,k2⟩;obtain ⟨hi,rfl⟩:i < 3∧x=V.int ((3+i:Nat):Int):=by
   rcases i with _ | _ | _ | i
   ·exact ⟨by decide,(yae hx).symm⟩
   ·exact ⟨by decide,(yae hx).symm⟩
   ·exact ⟨by decide,(yae hx).symm⟩
   ·cases hx
  have hyl:=zgs xs i;have hyu:=zkw hu i;have hnx:colN xs (i+1)=recL (3+i) (colN xs i):=rfl;rw[hnx];generalize colN xs i=ys at h2 hyl hyu ⊢;generalize 3+i=v;refine ⟨_,rfl,_,_,rfl,.inl (SqL.of h2),_,rfl,by rw[yab];omega,by rw[yab];omega,fun D hD=>?_⟩;have el:((((ys.map nV).length:Nat):Int)).toNat=ys.length:=by rw[yab,ya9]
  rw[el];refine zck (n:=ys.length) (fun k σ H3=>∃ x0:Option V,σ=[x0,some (.ref p),some (.int v)]∧H3 D=some (.lst (((List.range k).filter fun k=>decide (ys.getD k 0=v)).map nV))∧But D H2 H3) ?_ ?_ ?_
  ·exact ⟨_,rfl,zac,fun b o n e=>by rw[zai n];exact e⟩
  ·rintro k m σ H3 hm hk ⟨x0,rfl,h3,k3⟩;have h3p:H3 p=some (.lst (ys.map nV)):=k3 _ _ (zab h2 hD) h2;have hat:atI (ys.map nV) (0+(k:Int))=some (nV (ys.getD k 0)):=by
    rw[ybg];exact zel hk
   have hlen:=ybk (fun k=>decide (ys.getD k 0=v)) (List.range k);rw[yaX]at hlen;refine ⟨_,rfl,_,rfl,_,_,_,_,rfl,rfl,SqL.of h3p,hat,_,rfl,rfl,_,rfl,?_⟩;refine ite2 (fun c=>?_) (fun c=>?_)
   ·have c':ys.getD k 0=v:=by
     have:=V.int.inj (yaE c);omega
    refine ⟨_,rfl,_,h3,zaq (by rw[yab];omega),m - 1,by omega,by omega,_,rfl,?_,fun b o n e=>by rw[zai n];exact k3 b o n e⟩;rw[zac,ziI,if_pos c',yai,ybg];rfl
   ·have c':ys.getD k 0≠v:=fun z=>c (by rw[z];exact yah rfl);refine ⟨m - 1,by omega,by omega,_,rfl,?_,k3⟩;rw[h3,ziI,if_neg c',yaG]
  ·rintro σ H3 ⟨x0,rfl,h3,k3⟩;have h3:H3 D=some (.lst ((atsL v ys).map nV)):=h3;have h3p:H3 p=some (.lst (ys.map nV)):=k3 _ _ (zab h2 hD) h2;have h3t:=k3 _ _ (zab h2t hD) h2t;have kk3:But p H H3:=fun b o n e=>k3 b o (zab (k2 b o n e) hD) (k2 b o n e);have npD:p≠D:=zab h2 hD;have A:=zgA v ys;refine ⟨_,rfl,D,rfl,⟨_,SqL.of h3⟩,?_⟩;refine zcM (xs:=(atsL v ys).map nV) (fun j σ H4=>∃ x4 x5:Option V,σ=[some (.ref a),some (.ref p),some (.int v),some (.ref D),x4,x5]∧H4 p=some (.lst ((mixL v ys ((atsL v ys).getD j ys.length)).map nV))∧H4 D=some (.lst ((atsL v ys).map nV))∧H4 t=some (.tup [V.int 3,V.int 4,V.int 5])∧But p H H4) ?_ ?_ ?_ ?_
   ·exact ⟨_,_,rfl,by rw[zmj];exact h3p,h3,h3t,kk3⟩
   ·rintro j σ H4 _ ⟨x4,x5,rfl,_,h4D,_⟩;exact SqL.of h4D
   ·rintro j x σ H4 hx ⟨x4,x5,rfl,h4,h4D,h4t,k4⟩;obtain ⟨hj,rfl⟩:=zg1 hx;have eg:(atsL v ys).getD j 0=(atsL v ys)[j]:=by
     rw[yad,yac hj];rfl
    have eg2:(atsL v ys).getD j ys.length=(atsL v ys)[j]:=by
     rw[yad,yac hj];rfl
    obtain ⟨g1,g2⟩:=A.get hj;have nx:=znU hj;rw[eg2]at h4;rw[eg];generalize (atsL v ys)[j]=k at h4 g1 g2 nx ⊢;have g2:ys.getD k 0=v:=yaE g2;have hb2:=zgi hyu g1 g2;have ml:=zes v ys k;refine zpc (k:=k) rfl rfl rfl h4 fun g H5 hg s5 h5=>?_;rw[hb2]at h5;have h5p:=s5 _ _ h4;have npg:p≠g:=zab h4 hg;refine ⟨3,rfl,by decide,by decide,fun D2 hD2=>?_⟩;refine zck (n:=3) (fun c σ H6=>∃ x0:Option V,σ=[x0,some (.ref g)]∧H6 D2=some (.lst (((List.range c).filter fun c=>!decide (c∈zaK ys k)).map nV))∧But D2 H5 H6) ?_ ?_ ?_
    ·exact ⟨_,rfl,zac,fun b o n e=>by rw[zai n];exact e⟩
    ·rintro c m σ H6 hm hc ⟨x0,rfl,h6,k6⟩;have h6g:=k6 _ _ (zab h5 hD2) h5;have hlen:=ybk (fun c=>!decide (c∈zaK ys k)) (List.range c);rw[yaX]at hlen;refine ⟨_,rfl,_,rfl,_,_,rfl,.inl (SqL.of h6g),rfl,zjd _,_,rfl,?_⟩;show if (!inV (.int (0+(c:Int))) ((zaK ys k).map nV))=true then _ else _
     rw[ybg,zmH];refine ite2 (fun e=>?_) (fun e=>?_)
     ·have e':c∉zaK ys k:=fun z=>by
       rw[yah z]at e;cases e
      refine ⟨_,rfl,_,h6,zaq (by rw[yab];omega),m - 1,by omega,by omega,_,rfl,?_,fun b o n e=>by rw[zai n];exact k6 b o n e⟩;rw[zac,zbZ,if_neg e',yai];rfl
     ·have e':c∈zaK ys k:=Decidable.byContradiction fun z=>e (by rw[yaq z];rfl);refine ⟨m - 1,by omega,by omega,_,rfl,?_,k6⟩;rw[h6,zbZ,if_pos e',yaG]
    ·rintro σ H6 ⟨x0,rfl,h6,k6⟩;have h6p:=k6 _ _ (zab h5p hD2) h5p;have hff:=ziw (xs:=ys) (k:=k);have hat0:atI (((List.range 3).filter fun c=>!decide (c∈zaK ys k)).map nV) 0=some (nV (zcw ys k)):=by
      rw[show (0:Int)=((0:Nat):Int) from rfl];refine zbI ?_;rw[yal,← List.head?_eq_getElem?,hff];rfl
     refine ⟨_,_,_,_,rfl,rfl,SqL.of h6,hat0,?_⟩;refine ⟨_,rfl,_,rfl,_,_,_,k,rfl,rfl,h6p,zfw (by rw[yab,ml];exact g1),?_⟩;have same:∀ b o,b≠p→H4 b=some o→upd H6 p (.lst (((mixL v ys k).map nV).set k (nV (zcw ys k)))) b=some o:=fun b o n e=>by
      rw[zai n];exact k6 _ _ (zab (s5 _ _ e) hD2) (s5 _ _ e)
     refine ⟨_,_,rfl,?_,same _ _ (Ne.symm npD) h4D,same _ _ (Ne.symm (zbX h4 h4t)) h4t,fun b o n e=>same _ _ n (k4 b o n e)⟩;rw[zac,nx,yb2]
   ·rintro σ H4 ⟨x4,x5,rfl,h4,h4D,h4t,k4⟩;rw[yab,znV]at h4;exact ⟨_,_,_,_,rfl,h4,h4t,k4⟩
 ·rintro σ H2 ⟨x2,x3,x4,x5,rfl,h2,_,k2⟩;refine ⟨_,rfl,?_⟩;exact q p H2 hp (fun b o e=>k2 b o (zab e hp) e) h2
theorem zl9 (T:Txt K mg)(qbo:DF K mg "_law_marks" zeM zd0)(qcI:FC P w K mg base 1 "_law_code" ze1 (zjM K))(qcm:FC P w K mg base 1 "_law_turned" zc5 (zfR K))(qb6:FC P w K mg base 1 "_law_colours" zcH (zeD K)):FC P w K mg base 2 "_law_marks" zd0 (zhh K):=by
 refine qbo.ok qak (fun vs H Q E h=>?_) (fun f cdv A outer s H vs Q E hr h=>?_)
 ·obtain ⟨a,ws,es,rfl,_⟩:=h;rfl
 obtain ⟨a,ws,es,rfl,ha,hw,hz,he,hri,q⟩:=h;have hlen:=hw.length;refine ⟨_,(zah (zeo (i:=1) (N:=["_law_entry"]) (own:=1) (cap:=[]) qak.nd rfl rfl rfl (zbq (pv 0)) ⟨rfl,rfl,rfl,rfl,rfl,rfl⟩ (fun _ _ _ _ _=>(zan (i:=0) (show List.Nodup (["_law_entry"]:List Str) by decide +kernel) rfl (Or.inl rfl))) (fun _ _ _ _ _=>zbF) (fun _ _ _ _ _=>(zax qcI hr (zaa (pv 0) zad))))
   (zah (zaR PassesOwn.never rfl (zaW rfl T.qad (zaa zae zad)) (zan (i:=2) qak.nd rfl (Or.inl rfl)) (zaf (zap (i:=1) qak.nd rfl (Or.inl rfl) (zax qcm hr (zaa (pv 1) zad)))))
   (zah (zap (i:=3) qak.nd rfl (Or.inl rfl) (zax qb6 hr (zaa (pv 1) zad)))
   (zah (zeo (i:=4) (N:=["_law_entry"]) (own:=1) (cap:=[]) qak.nd rfl rfl rfl (zbq (pv 0)) ⟨rfl,rfl,rfl,rfl,rfl,rfl⟩ (fun _ _ _ _ _=>(zan (i:=0) (show List.Nodup (["_law_entry"]:List Str) by decide +kernel) rfl (Or.inl rfl))) (fun _ _ _ _ _=>zbF) (fun _ _ _ _ _=>zbR))
   (zah (zaR PassesOwn.never rfl (zeh (zbu (zaa zae (zaa zae (zaa zae zad))))) (zan (i:=5) qak.nd rfl (Or.inl rfl)) (zaf (zaR PassesOwn.never rfl (zdv rfl T.qad (zaa zae (zaa (zam zal rfl T.qag boot_len (zaa (pv 0) zad)) zad))) (zan (i:=2) qak.nd rfl (Or.inl rfl)) (zaf (zbk (PW.pt (zh9 (zau zcO (zay zaz (pv 3) (pv 2) (fun _ _=>rfl)) (pv 5) (zaA _)) (zgd (zau zdA zbR (zaI za8 (pv 4) (zaL (zao zbb (pv 2) zae)) (zaL (zao zaO (pv 2) zae))) (by with_unfolding_all rfl))))) (zaf (zfD zbR (zgT (pv 4) (pv 2) zdM))) zaB)))))
   (zaf (zat (pv 4)))))))),?_⟩
 refine ⟨_,rfl,a,rfl,⟨_,SqL.of ha⟩,fun D hD=>?_⟩;have k0:But D H (upd H D (.lst [])):=fun b o n e=>by rw[zai n];exact e
 refine zbz (xs:=ws) (fun i σ H2=>∃ x0:Option V,σ=[x0]∧H2 D=some (.lst (((zbT es).take i).map nV))∧But D H H2) ?_ ?_ ?_ ?_
 ·exact ⟨_,rfl,zac,k0⟩
 ·rintro i σ H2 _ ⟨x0,rfl,_,k2⟩;exact k2.sq (SqL.of ha) hD
 ·rintro i m x σ H2 hx hm ⟨x0,rfl,h2,k2⟩;obtain ⟨hi,hhas⟩:=zg8 hD hw hx k2;refine zcK ?_;refine ⟨_,rfl,x,es[i],rfl,hhas,?_⟩;refine ⟨_,h2,zaq (by rw[yab,yaj,zaH];omega),m - 1,by omega,by omega,_,rfl,?_,fun b o n e=>by rw[zai n];exact k2 b o n e⟩;rw[zac,zg7 hi,yai,← zfk (he _ (yay hi))];rfl
 rintro σ H2 ⟨x0,rfl,h2,k2⟩;have e0:H2 D=some (.lst ((zbT es).map nV)):=by
  rw[h2,yap (by rw[zaH];omega)]
 have same0:Same H H2:=fun b o e=>k2 b o (zab e hD) e;refine ⟨5,rfl,by decide,by decide,?_⟩;refine zbc (n:=5) (fun i σ H3=>∃(p:Addr) (x2:Option V),σ=[some (.ref a),some (.ref p),x2,none,none,none]∧Same H H3∧H3 p=some (.lst ((zcm i (zbT es)).map nV))) ?_ ?_ ?_
 ·exact ⟨D,_,rfl,same0,e0⟩
 ·rintro i σ H3 hi ⟨p,x2,rfl,s3,h3⟩;refine ⟨_,rfl,p,_,rfl,SqL.of h3,zcl (zfj he hri) i,by rw[zbp,zaH];exact hz,fun p4 H4 hp4 s4 h4=>?_⟩;exact ⟨p4,_,rfl,s3.trans s4,h4⟩
 rintro σ H3 ⟨p,x2,rfl,s3,h3⟩;refine ⟨_,rfl,p,_,rfl,SqL.of h3,zgj he hri,zgk he hri,by rw[zbp,zaH];exact hz,fun c H4 hc s4 h4=>?_⟩;have cu:Unl (colL (zcm 5 (zbT es))):=zlt (zhS (unlZ (zgj he hri)));have cl:(colL (zcm 5 (zbT es))).length=es.length:=by rw[zew,zbp,zaH]
 have fin:zbe es=mkN (colL (zcm 5 (zbT es))) 3:=(zig _).symm;generalize colL (zcm 5 (zbT es))=cs at h4 cu cl fin;have s04:=s3.trans s4;have h4a:=s04 _ _ ha;refine ⟨_,rfl,a,rfl,⟨_,SqL.of h4a⟩,fun F hF=>?_⟩;refine zbz (xs:=ws) (fun i σ H5=>∃ x0:Option V,σ=[x0]∧H5 F=some (.lst ((List.replicate i false).map V.bl))∧But F H4 H5) ?_ ?_ ?_ ?_
 ·exact ⟨_,rfl,zac,fun b o n e=>by rw[zai n];exact e⟩
 ·rintro i σ H5 _ ⟨x0,rfl,_,k5⟩;exact k5.sq (SqL.of h4a) hF
 ·rintro i m x σ H5 hx hm ⟨x0,rfl,h5,k5⟩;have hi:=(yaf.mp hx).1;refine zcK ?_;refine ⟨_,h5,zaq (by rw[yab,ya8];omega),m - 1,by omega,by omega,_,rfl,?_,fun b o n e=>by rw[zai n];exact k5 b o n e⟩;rw[zac,ycD,yai];rfl
 rintro σ H5 ⟨x0,rfl,h5,k5⟩;have s45:Same H4 H5:=fun b o e=>k5 b o (zab e hF) e;have h5c:=s45 _ _ h4;have h5a:=s45 _ _ h4a;have nFc:c≠F:=zab h4 hF;have hF0:H F=none:=s04.free hF;have k05:But F H H5:=fun b o _ e=>s45 _ _ (s04 _ _ e);have e5:H5 F=some (.lst ((mkN cs 0).map V.bl)):=by
  rw[h5,mkN,show List.replicate ws.length false=cs.map (fun _=>false) from by rw[List.map_const',cl,hlen]]
 refine ⟨(by show 3≤sizeLine;decide),fun t ht=>?_⟩;have st:=zag ht (.tup [V.int 2,V.int 1,V.int 0]);refine ⟨t,rfl,⟨_,SqT.of zac⟩,?_⟩;refine zgp (xs:=[V.int 2,V.int 1,V.int 0]) (fun i σ H6=>∃(x1 x2 x5:Option V),σ=[some (.ref a),x1,x2,some (.ref c),some (.ref F),x5]∧H6 F=some (.lst ((mkN cs i).map V.bl))∧H6 c=some (.lst (cs.map nV))∧H6 t=some (.tup [V.int 2,V.int 1,V.int 0])∧But F H H6) ?_ ?_ ?_ ?_
 ·exact ⟨_,_,_,rfl,st _ _ e5,st _ _ h5c,zac,k05.new ht _⟩
 ·rintro i σ H6 _ ⟨x1,x2,x5,rfl,_,_,h6t,_⟩;exact SqT.of h6t
 ·rintro i x σ H6 hx ⟨x1,x2,x5,rfl,h6,h6c,h6t,k6⟩;obtain ⟨hi,rfl⟩:i < 3∧x=V.int ((2 - i:Nat):Int):=by
   rcases i with _ | _ | _ | i
   ·exact ⟨by decide,(yae hx).symm⟩
   ·exact ⟨by decide,(yae hx).symm⟩
   ·exact ⟨by decide,(yae hx).symm⟩
   ·cases hx
  have hml:=zgU cs i;have hnx:mkN cs (i+1)=zb3 (2 - i) cs (mkN cs i):=rfl;rw[hnx];generalize mkN cs i=ms at h6 hml ⊢;generalize 2 - i=sh;have h6a:=k6 _ _ (zab ha hF0) ha;refine ⟨_,rfl,_,_,rfl,.inl (SqL.of h6a),1,_,rfl,⟨by omega,by omega,by omega,by omega⟩,?_⟩;have en:(((ws.length:Nat):Int) - 1).toNat=cs.length - 1:=by omega
  rw[en];have km:∀ k,(mixM sh cs ms k).length=cs.length:=zc8 hml;refine zbc (n:=cs.length - 1) (fun j σ H7=>∃(x2:Option V),σ=[some (.ref a),x1,x2,some (.ref c),some (.ref F),some (.int sh)]∧H7 F=some (.lst ((mixM sh cs ms (1+j)).map V.bl))∧H7 c=some (.lst (cs.map nV))∧H7 t=some (.tup [V.int 2,V.int 1,V.int 0])∧But F H H7) ?_ ?_ ?_
  ·exact ⟨_,rfl,by rw[zj4 hml];exact h6,h6c,h6t,k6⟩
  ·rintro j σ H7 hj ⟨x2,rfl,h7,h7c,h7t,k7⟩;have ek:(1:Int)+(j:Int)=((1+j:Nat):Int):=by omega
   have hk1:1≤1+j:=by omega
   have hkl:1+j < cs.length:=by omega
   rw[ek];have es1:1+(j+1)=1+j+1:=by omega
   rw[es1];generalize 1+j=k at h7 hk1 hkl ⊢;have hat:=zel (xs:=cs) hkl;have mc:cs.getD k 0=sh→zdG (mixM sh cs ms k) k=zdG ms k:=fun z=>zk1 cu hml hkl hk1 z;refine ⟨_,rfl,_,rfl,_,_,_,_,rfl,rfl,SqL.of h7c,hat,_,rfl,rfl,_,rfl,?_⟩;refine ite2 (fun e=>?_) (fun e=>?_)
   ·have e':cs.getD k 0=sh:=by
     have:=V.int.inj (yaE e);omega
    refine ⟨_,rfl,_,rfl,_,_,rfl,rfl,_,rfl,_,rfl,_,_,rfl,rfl,_,rfl,_,_,rfl,SqL.of h7,fun b hb=>?_⟩;have sb:=zag hb (.lst (cutV ((mixM sh cs ms k).map V.bl) (some ((k:Int) - 1)) (some ((k:Int)+2))));have hbb:upd H7 b (.lst (cutV ((mixM sh cs ms k).map V.bl) (some ((k:Int) - 1)) (some ((k:Int)+2)))) b=some (.lst ((((mixM sh cs ms k).drop (k - 1)).take 3).map V.bl)):=by
     rw[zac,zp1 hk1 rfl rfl]
    have kb:=k7.new hb (.lst (cutV ((mixM sh cs ms k).map V.bl) (some ((k:Int) - 1)) (some ((k:Int)+2))));generalize upd H7 b (.lst (cutV ((mixM sh cs ms k).map V.bl) (some ((k:Int) - 1)) (some ((k:Int)+2))))=H8 at sb hbb kb ⊢;refine ⟨_,_,rfl,.inl (SqL.of hbb),rfl,zmP _,_,rfl,?_⟩;show if (!inV (.bl true) ((((mixM sh cs ms k).drop (k - 1)).take 3).map V.bl))=true then _ else _
    rw[zkl,any3 _ hk1,mc e',Bool.not_not];refine ite2 (fun y=>?_) (fun y=>?_)
    ·refine ⟨_,rfl,_,rfl,_,_,_,k,rfl,rfl,sb _ _ h7,zfw (by rw[yab,km];exact hkl),?_⟩;have same:∀ b o,b≠F→H8 b=some o→upd H8 F (.lst (((mixM sh cs ms k).map V.bl).set k (.bl true))) b=some o:=fun b o n e=>by
      rw[zai n];exact e
     refine ⟨_,rfl,?_,same _ _ (fun z=>?_) (sb _ _ h7c),same _ _ (Ne.symm (zbX (sb _ _ h7) (sb _ _ h7t))) (sb _ _ h7t),fun b o n e=>same _ _ n (kb b o n e)⟩
     ·rw[zac,znW hml hkl ⟨hk1,e',y⟩,yb2]
     ·exact nFc z
    ·exact ⟨_,rfl,by rw[zgh hml hkl (fun z=>y z.2.2)];exact sb _ _ h7,sb _ _ h7c,sb _ _ h7t,kb⟩
   ·have e':cs.getD k 0≠sh:=fun z=>e (by rw[z];exact yah rfl);refine iteF ?_;exact ⟨_,rfl,by rw[zgh hml hkl (fun z=>e' z.2.1)];exact h7,h7c,h7t,k7⟩
  ·rintro σ H7 ⟨x2,rfl,h7,h7c,h7t,k7⟩;rw[zj5 hml (by omega)]at h7;exact ⟨_,_,_,rfl,h7,h7c,h7t,k7⟩
 ·rintro σ H6 ⟨x1,x2,x5,rfl,h6,_,_,k6⟩;refine ⟨_,rfl,?_⟩;refine q F H6 hF0 (fun b o e=>k6 b o (zab e hF0) e) ?_;rw[fin];exact h6
set_option maxHeartbeats 1000000 in
theorem za6 {K:Frag}{H:Hp}{q:Addr}{zs:List V}{o:HO}(hq:H q=some (.lst zs)){es:List (Int×Int)}{ws:List V}(h:zar K H es ws):zar K (upd H q o) es ws:=pImp (fun _ _ h=>by
  obtain ⟨a,x1,x2,rfl,hT,e1,e2⟩:=(show hasP K H _ _ from h);exact ⟨a,x1,x2,rfl,by rw[zai (zqO hT hq (by intro z;cases z))];exact hT,e1,e2⟩) h
def Own (K:Frag)(H:Hp):List Addr→List (List (Int×Int))→Prop:=Paired fun q l=>∃ ws,H q=some (.lst ws)∧zar K H l ws
section
variable {K:Frag}{H H':Hp}
theorem Own.length {qs:List Addr}{ls:List (List (Int×Int))}(h:Own K H qs ls):qs.length=ls.length:=Paired.length h
theorem Own.ext (e:Ext H H'){qs:List Addr}{ls:List (List (Int×Int))}(h:Own K H qs ls):Own K H' qs ls:=pImp (fun _ _ h=>by
 obtain ⟨ws,h1,h2⟩:=h;exact ⟨ws,e _ _ h1 (fun _ z=>nomatch z),zar.mono e h2⟩) h
theorem Own.get:∀{qs:List Addr} {ls:List (List (Int×Int))} {i:Nat} {x:V},Own K H qs ls→(qs.map V.ref)[i]?=some x→∃ q l ws,qs[i]?=some q∧x=.ref q∧ls[i]?=some l∧H q=some (.lst ws)∧zar K H l ws
 | _,_,_,_,.nil,e=>by simp at e
 | _,_,0,_,.cons ⟨ws,h1,h2⟩ _,e=>by
  simp at e;exact ⟨_,_,ws,rfl,e.symm,rfl,h1,h2⟩
 | _,_,i+1,x,.cons _ t,e=>by
  obtain ⟨q,l,ws,h1,h2,h3,h4,h5⟩:=Own.get (i:=i) (x:=x) t (by simpa using e);exact ⟨q,l,ws,by simpa using h1,h2,by simpa using h3,h4,h5⟩
theorem Own.append {qs qs':List Addr}{ls ls':List (List (Int×Int))}(h:Own K H qs ls)(g:Own K H qs' ls'):Own K H (qs++qs') (ls++ls'):=pApp h g
theorem Own.other {q:Addr}{o:HO}{zs:List V}(hq:H q=some (.lst zs)){qs:List Addr}{ls:List (List (Int×Int))}(h:Own K H qs ls)(hn:q∉qs):Own K (upd H q o) qs ls:=by
 unfold Own at h
 induction h with
 | nil=>exact .nil
 | cons h _ ih=>
  obtain ⟨ws,h1,h2⟩:=h;rw[yat,not_or]at hn;exact .cons ⟨ws,by rw[zai (Ne.symm hn.1)];exact h1,za6 hq h2⟩ (ih hn.2)
end
theorem zix {ls:List (List (Int×Int))}{i:Nat}{l:List (Int×Int)}(h:ls[i]?=some l):(ls.take (i+1)).flatten=(ls.take i).flatten++l:=by
 have hi:=(yaf.mp h).1;rw[yaB hi,ybP,(yaf.mp h).2];simp
theorem zpW {ls:List (List (Int×Int))}(i:Nat):(ls.take i).flatten.length≤ls.flatten.length:=by
 have e:ls.flatten=(ls.take i).flatten++(ls.drop i).flatten:=by rw[← ybP,ya2]
 rw[e,yak];omega
def zoC (K:Frag):Sp:=fun vs H Q _=>∃(a:Addr) (qs:List Addr) (ls:List (List (Int×Int))),vs=[.ref a]∧H a=some (.lst (qs.map V.ref))∧Own K H qs ls∧ls.flatten.length≤1000∧
 ∀(p:Addr) (ws:List V) (H':Hp),H p=none→Same H H'→H' p=some (.lst ws)→zar K H' (zds ls.flatten) ws→Q (.ref p) H'
theorem zmd (T:Txt K mg)(qaP:DF K mg "joined_up" zc1 zcI):FC P w K mg base 1 "joined_up" zcI (zoC K):=by
 refine qaP.ok qaz (fun vs H Q E h=>?_) (fun f cdv A outer s H vs Q E hr h=>?_)
 ·obtain ⟨a,qs,ls,rfl,_⟩:=h;rfl
 obtain ⟨a,qs,ls,rfl,ha,ho,hz,q⟩:=h;have hll:=ho.length;refine ⟨_,(zah (zap (i:=1) qaz.nd rfl (Or.inl rfl) (zaG zad))
   (zah (zaR PassesOwn.never rfl (zbq (pv 0)) (zan (i:=2) qaz.nd rfl (Or.inl rfl)) (zaf (zbv (zep F.plainAttrs_list F.slot_list_extend F.type_list_extend zmi (pv 1) (zaa (pv 2) zad)))))
   (zaf (zat (zam (zee (Int×Int)) rfl T.qbg boot_sorted (zaa (pv 1) zad)))))),?_⟩
 refine ⟨(by show 0≤sizeLine;decide),fun t ht=>?_⟩;have k0:But t H (upd H t (.lst [])):=fun b o n e=>by rw[zai n];exact e
 refine ⟨_,rfl,a,rfl,⟨_,SqL.of (k0 _ _ (zab ha ht) ha)⟩,?_⟩;refine zcM (xs:=qs.map V.ref) (fun i σ H2=>∃(zs:List V) (x2:Option V),σ=[some (.ref a),some (.ref t),x2]∧H2 t=some (.lst zs)∧zar K H2 (ls.take i).flatten zs∧But t H H2∧Own K H2 qs ls) ?_ ?_ ?_ ?_
 ·exact ⟨[],_,rfl,zac,.nil,k0,ho.ext (zag ht _).ext⟩
 ·rintro i σ H2 _ ⟨zs,x2,rfl,h2,_,k2,_⟩;exact SqL.of (k2 _ _ (zab ha ht) ha)
 ·rintro i x σ H2 hx ⟨zs,x2,rfl,h2,hw,k2,o2⟩;obtain ⟨g,l,ws,e1,rfl,e3,e4,e5⟩:=o2.get hx;have hlen:zs.length+ws.length≤1000:=by
   have z1:=hw.length;have z2:=e5.length;have z3:=zpW (ls:=ls) (i+1);rw[zix e3,yak]at z3;omega
  have hgo:∀ b∈qs,b≠t:=fun b hb z=>by
   obtain ⟨j,hj,rfl⟩:=yaW hb;obtain ⟨_,_,ws0,f1,f2,_,f4,_⟩:=ho.get (i:=j) (x:=.ref qs[j]) (by rw[yal,yac hj];rfl);cases f2
   rw[z,ht]at f4;cases f4
  refine ⟨_,rfl,.inl ⟨rfl,_,SqL.of h2⟩,_,rfl,t,g,zs,ws,rfl,rfl,h2,e4,ybw (zaq hlen),?_⟩;refine ⟨_,_,rfl,zac,?_,fun b o n e=>by rw[zai n];exact k2 b o n e,o2.other h2 (fun z=>hgo t z rfl)⟩;rw[zix e3];exact (za6 h2 hw).append (za6 h2 e5)
 ·rintro σ H2 ⟨zs,x2,rfl,h2,hw,k2,o2⟩;rw[yap (by rw[yab];omega)]at hw;refine ⟨_,rfl,t,zs,_,rfl,SqL.of h2,hw,fun l ws hl hs=>?_⟩;have e2:=zag hl (.lst ws);have s2:Same H H2:=fun b o e=>k2 b o (zab e ht) e;exact q l ws _ (s2.free hl) (s2.trans e2) zac (zar.mono e2.ext hs)
def zcp (ps:List Nat):List V:=.non::ps.map nV
def parV (ps:List Nat)(k:Nat):V:=match par ps k with
 | none=>.non
 | some p=>nV p
theorem zaw (ps:List Nat):(zcp ps).length=ps.length+1:=by
 unfold zcp;rw[yaI,yab]
theorem zgB {ps:List Nat}{k:Nat}(h:k < ps.length+1):atI (zcp ps) (k:Int)=some (parV ps k):=by
 refine zbI ?_;unfold zcp parV;cases k with
 | zero=>rfl
 | succ k=>
  show (ps.map nV)[k]?=some (match ps[k]? with | none=>_ | some p=>nV p)
  rw[yal,yac (show k < ps.length by omega)];rfl
theorem zdz {ps:List Nat}{k p:Nat}(h:par ps k=some p):parV ps k=nV p:=by
 unfold parV;rw[h]
theorem zia {ps:List Nat}{k:Nat}(h:par ps k=none):parV ps k=.non:=by
 unfold parV;rw[h]
theorem zhz {ps:List Nat}{k m:Nat}:parV ps k=.int (m:Int)↔par ps k=some m:=by
 cases e:par ps k with
 | none=>
  rw[zia e];exact ⟨(fun z=>nomatch z),(fun z=>nomatch z)⟩
 | some p=>
  rw[zdz e];constructor
  ·intro z;have:=Int.ofNat.inj (V.int.inj z);rw[this]
  ·intro z;rw[yae z]
theorem zh8 (ps:List Nat)(k:Nat)(i:Int):scal (parV ps k) (.int i)=true:=by
 cases e:par ps k with
 | none=>rw[zia e];rfl
 | some p=>rw[zdz e];rfl
theorem But.new' {p b:Addr}{H H2:Hp}(k:But p H H2)(hb:H2 b=none)(o:HO):But p H (upd H2 b o):=fun x o' n e=>(zag hb o) x o' (k x o' n e)
def zou (K:Frag):Sp:=fun vs H Q _=>∃(d L:Addr) (m:Int),vs=[.ref d,.int m]∧(0 < m∧m≤40)∧LS K L d H∧
 ∀(t:Addr) (ps:List Nat) (H':Hp),H t=none→zaC ps→(ps.length:Int) < m→H' t=some (.tup (zcp ps))→Keep d H H'→LS K L d H'→Q (.ref t) H'
theorem zlA {ps:List Nat}{u:Nat}(T:zaC ps)(h:u≤ps.length):zaC (ps++[u]):=by
 intro i hi;rw[yak,yaL]at hi;by_cases c:i < ps.length
 ·rw[List.getElem_append_left c];exact T i c
 ·have:i=ps.length:=by omega
  subst this;rw[List.getElem_append_right (yaa _)];simp;exact h
theorem znL (T:Txt K mg)(qbO:DF K mg "_law_tree" zfU zeY)(qaa:FC P w K mg base 2 "_law_take" za9 (zdr K)):FC P w K mg base 3 "_law_tree" zeY (zou K):=by
 refine qbO.ok qaX (fun vs H Q E h=>?_) (fun f cdv A outer s H vs Q E hr h=>?_)
 ·obtain ⟨d,L,m,rfl,_⟩:=h;rfl
 obtain ⟨d,L,m,rfl,⟨hm0,hm1⟩,hs,q⟩:=h;refine ⟨_,(zah (zap (i:=2) qaX.nd rfl (Or.inl rfl) (zax qaa hr (zaa (pv 0) (zaa zae zad))))
   (zah (zap (i:=3) qaX.nd rfl (Or.inl rfl) (zaG (zaa zl0 zad)))
   (zah (zaR PassesOwn.never rfl (zdv rfl T.qad (zaa zae (zaa (zao zaO zae (zax qaa hr (zaa (pv 0) (zaa (pv 1) zad)))) zad))) (zan (i:=4) qaX.nd rfl (Or.inl rfl)) (zaf (zbv (zep F.plainAttrs_list F.slot_list_append F.type_list_append zaQ (pv 3) (zaa (zay zaz (zaG (zaa (zao zbb (pv 4) zae) (zaa zae (zaa (zax qaa hr (zaa (pv 0) (zaa (pv 4) zad))) (zaa (zam (zfl rfl) rfl T.qcF boot_max (zaa zae (zaa (zao zbb (zao zbb (pv 4) zae) (zax qaa hr (zaa (pv 0) (zaa zae zad)))) zad))) zad))))) (pv 2) (fun _ _=>rfl)) zad)))))
   (zaf (zat (zbi zdg rfl T.qbj boot_tuple (zaa (pv 3) zad))))))),?_⟩
 refine ⟨_,rfl,d,L,4,rfl,by decide,hs,fun w1 H1 w0 w4 k1 s1=>?_⟩;refine ⟨(by show 1≤sizeLine;decide),fun p hp=>?_⟩;have g0:=zag hp (.lst [V.non]);have hpd:p≠d:=by
  obtain ⟨ns,a,l,e,_⟩:=s1.ex;exact Ne.symm (zab e hp)
 have hp0:H p=none:=by
  cases e:H p with
  | none=>rfl
  | some o=>
   have:=k1 p o hpd e;rw[hp]at this;cases this
 refine ⟨_,rfl,_,rfl,d,L,m,rfl,⟨hm0,by omega⟩,s1.same g0,fun n H2 n0 n1 k2 s2=>⟨_,_,rfl,rfl,1,_,rfl,⟨by omega,by omega,by omega,by omega⟩,?_⟩⟩;have en:((1:Int)+n - 1).toNat=n.toNat:=by omega
 rw[en];refine zbc (n:=n.toNat) (fun i σ H3=>∃(ps:List Nat) (x4:Option V),σ=[some (.ref d),some (.int m),some (.int w1),some (.ref p),x4]∧H3 p=some (.lst (zcp ps))∧ps.length=i∧zaC ps∧(∀ b o,b≠d→b≠p→H b=some o→H3 b=some o)∧LS K L d H3) ?_ ?_ ?_
 ·exact ⟨[],_,rfl,k2 p _ hpd zac,rfl,fun i hi=>absurd hi (by simp),fun b o n1 n2 e=>k2 b o n1 (g0 b o (k1 b o n1 e)),s2⟩
 ·rintro i σ H3 hi ⟨ps,x4,rfl,h3,rfl,hT,k3,s3⟩;have ek:(1:Int)+((ps.length:Nat):Int)=((ps.length+1:Nat):Int):=by omega
  rw[ek];refine ⟨_,rfl,.inl ⟨rfl,_,SqL.of h3⟩,?_⟩;refine ⟨_,rfl,_,_,rfl,rfl,_,rfl,_,rfl,d,L,_,rfl,⟨by omega,by omega⟩,s3,fun v1 H4 v10 v11 k4 s4=>?_⟩;refine ⟨_,rfl,_,_,rfl,rfl,_,rfl,d,L,2,rfl,by decide,s4,fun v2 H5 v20 v21 k5 s5=>⟨_,_,rfl,rfl,_,_,rfl,(by show 4≤sizeLine;decide),fun l hl=>?_⟩⟩;have h4:=k4 p _ hpd h3;have h5:=k5 p _ hpd h4;obtain ⟨u,hat,hu⟩:∃ u:Nat,atI [V.int (((ps.length+1:Nat):Int) - 1),V.int 0,V.int v1,V.int (if ((ps.length+1:Nat):Int) - 1 - v2 > 0 then ((ps.length+1:Nat):Int) - 1 - v2 else 0)] w1=some (nV u)∧u≤ps.length:=by
   have z:w1=0∨w1=1∨w1=2∨w1=3:=by omega
   rcases z with rfl | rfl | rfl | rfl
   ·refine ⟨ps.length,?_,yaa _⟩;rw[show ((ps.length+1:Nat):Int) - 1=((ps.length:Nat):Int) by omega];rfl
   ·exact ⟨0,rfl,yaF _⟩
   ·obtain ⟨u,rfl⟩:=zj3 v10;exact ⟨u,rfl,by omega⟩
   ·refine ⟨(if ((ps.length+1:Nat):Int) - 1 - v2 > 0 then ((ps.length+1:Nat):Int) - 1 - v2 else 0).toNat,?_,?_⟩
    ·show some (V.int _)=some (V.int _);rw[Int.toNat_of_nonneg (by split <;> omega)]
    ·split <;> omega
  refine ⟨_,rfl,_,_,_,_,rfl,rfl,SqL.of zac,hat,_,_,_,rfl,rfl,by rw[zai (zab h5 hl)];exact h5,zaq (by rw[zaw];omega),?_⟩;refine ⟨ps++[u],_,rfl,?_,by rw[yak,yaL],zlA hT hu,fun b o n1 n2 e=>?_,?_⟩
  ·rw[zac];unfold zcp;rw[yai];rfl
  ·rw[zai n2];have e5:=k5 b o n1 (k4 b o n1 (k3 b o n1 n2 e));exact (zag hl _) _ _ e5
  ·exact LS.put hs hp0 (fun b o n1 n2 e=>(zag hl _) _ _ (k5 b o n1 (k4 b o n1 (k3 b o n1 n2 e)))) (s5.of_new hl _)
 ·rintro σ H3 ⟨ps,x4,rfl,h3,hl,hT,k3,s3⟩;refine ⟨_,rfl,p,_,rfl,.inl ⟨SqL.of h3,fun t ht=>?_⟩⟩;have sn:=zag ht (.tup (zcp ps));have htp:t≠p:=Ne.symm (zab h3 ht);have ht0:H t=none:=by
   cases e:H t with
   | none=>rfl
   | some o=>
    have htd:t≠d:=by
     obtain ⟨ns,a,l,e,_⟩:=s3.ex;exact Ne.symm (zab e ht)
    have:=k3 t o htd htp e;rw[ht]at this;cases this
  exact q t ps _ ht0 hT (by omega) zac (fun b o n e=>sn _ _ (k3 b o n (zab e hp0) e)) (s3.of_new ht _)
def zcS (K:Frag):Sp:=fun vs H Q _=>∃(t:Addr) (ps:List Nat) (k:Nat),vs=[.ref t,.int k]∧H t=some (.tup (zcp ps))∧ps.length≤900∧
 ∀(p:Addr) (H':Hp),H p=none→Same H H'→H' p=some (.lst ((zaS ps k (ps.length+1)).map nV))→Q (.ref p) H'
theorem zi0 (T:Txt K mg)(qa7:DF K mg "children" zdR zcs):FC P w K mg base 1 "children" zcs (zcS K):=by
 refine qa7.ok qb1 (fun vs H Q E h=>?_) (fun f cdv A outer s H vs Q E hr h=>?_)
 ·obtain ⟨t,ps,k,rfl,_⟩:=h;rfl
 obtain ⟨t,ps,k,rfl,ht,hz,q⟩:=h;refine ⟨_,(zaf (zat (zbG (N:=["other","tree","knot"]) (own:=1) (cap:=[0,1]) rfl (zaW rfl T.qad (zaa (zam zal rfl T.qag boot_len (zaa (pv 0) zad)) zad)) ⟨rfl,rfl,rfl,rfl,rfl,rfl⟩ (fun _ _ _ _ _=>(zan (i:=0) (show List.Nodup (["other","tree","knot"]:List Str) by decide +kernel) rfl (Or.inl rfl))) (fun _ _ _ _ _=>(zdt (zau zcO (zay (zgl (K:=K)) (pv 1) (pv 0) (fun _ _=>rfl)) (pv 2) (zaA _)))) (fun _ _ _ _ _=>(pv 0))))),?_⟩;refine ⟨_,rfl,_,_,rfl,.inr (SqT.of ht),_,rfl,by omega,by rw[zaw];omega,fun D hD=>?_⟩;have el:((((zcp ps).length:Nat):Int)).toNat=ps.length+1:=by rw[zaw,ya9]
 rw[el];refine zck (n:=ps.length+1) (fun j σ H3=>∃ x0:Option V,σ=[x0,some (.ref t),some (.int k)]∧H3 D=some (.lst ((zaS ps k j).map nV))∧But D H H3) ?_ ?_ ?_
 ·exact ⟨_,rfl,zac,fun b o n e=>by rw[zai n];exact e⟩
 ·rintro j m σ H3 hm hj ⟨x0,rfl,h3,k3⟩;rw[ybg];have h3t:=k3 _ _ (zab ht hD) ht;have hlen:=zcX ps k j;refine ⟨_,rfl,_,rfl,_,_,_,_,rfl,rfl,SqT.of h3t,zgB hj,_,rfl,zh8 _ _ _,_,rfl,?_⟩;refine ite2 (fun c=>?_) (fun c=>?_)
  ·have c':par ps j=some k:=zhz.mp (yaE c);refine ⟨_,rfl,_,h3,zaq (by rw[yab];omega),m - 1,by omega,by omega,_,rfl,?_,fun b o n e=>by rw[zai n];exact k3 b o n e⟩;rw[zac,zdf,if_pos c',yai];rfl
  ·have c':¬ par ps j=some k:=fun z=>c (yah (zhz.mpr z));refine ⟨m - 1,by omega,by omega,_,rfl,?_,k3⟩;rw[h3,zdf,if_neg c',yaG]
 ·rintro σ H3 ⟨x0,rfl,h3,k3⟩;exact q D H3 hD (fun b o e=>k3 b o (zab e hD) e) h3
def zh4 (K:Frag):Sp:=fun vs H Q _=>∃(t:Addr) (ps:List Nat) (k:Nat),vs=[.ref t,.int k]∧H t=some (.tup (zcp ps))∧zaC ps∧k < ps.length+1∧ps.length≤900∧
 ∀(p:Addr) (H':Hp),H p=none→Same H H'→H' p=some (.lst ((benL ps k (ps.length+1)).map nV))→Q (.ref p) H'
theorem zkZ (T:Txt K mg)(qbp:DF K mg "beneath" zeT zd7):FC P w K mg base 1 "beneath" zd7 (zh4 K):=by
 refine qbp.ok qa1 (fun vs H Q E h=>?_) (fun f cdv A outer s H vs Q E hr h=>?_)
 ·obtain ⟨t,ps,k,rfl,_⟩:=h;rfl
 obtain ⟨t,ps,k,rfl,ht,hT,hk,hz,q⟩:=h;refine ⟨_,(zah (zap (i:=2) qa1.nd rfl (Or.inl rfl) (zaG (zaa (pv 1) zad)))
   (zah (zaR PassesOwn.never rfl (zdv rfl T.qad (zaa (zao zaO (pv 1) zae) (zaa (zam zal rfl T.qag boot_len (zaa (pv 0) zad)) zad))) (zan (i:=3) qa1.nd rfl (Or.inl rfl)) (zaf (zbk (zau zl4 (zay zaN (pv 0) (pv 3) (fun _ _=>rfl)) (pv 2) (by with_unfolding_all rfl)) (zaf (zbv (zep F.plainAttrs_list F.slot_list_append F.type_list_append zaQ (pv 2) (zaa (pv 3) zad)))) zaB)))
   (zaf (zat (pv 2))))),?_⟩
 refine ⟨_,rfl,(by show 1≤sizeLine;decide),fun p hp=>?_⟩;have k0:But p H (upd H p (.lst [.int (k:Int)])):=fun b o n e=>by rw[zai n];exact e
 have ntp:t≠p:=zab ht hp;refine ⟨_,rfl,_,_,rfl,rfl,_,rfl,_,_,rfl,.inr (SqT.of (k0 _ _ ntp ht)),_,_,rfl,⟨by omega,by omega,by omega,by rw[zaw];omega⟩,?_⟩;have en:((((zcp ps).length:Nat):Int) - ((k:Int)+1)).toNat=ps.length - k:=by rw[zaw];omega
 rw[en];refine zbc (n:=ps.length - k) (fun i σ H3=>∃ x3:Option V,σ=[some (.ref t),some (.int k),some (.ref p),x3]∧H3 p=some (.lst ((benL ps k (k+1+i)).map nV))∧But p H H3) ?_ ?_ ?_
 ·refine ⟨_,rfl,?_,k0⟩;rw[zac,ybq,zom hT];rfl
 ·rintro i σ H3 hi ⟨x3,rfl,h3,k3⟩;have ek:(k:Int)+1+(i:Int)=((k+1+i:Nat):Int):=by omega
  rw[ek];have hj:k+1+i < ps.length+1:=by omega
  have hj1:1≤k+1+i:=by omega
  have hjk:k+1+i≠k:=by omega
  have ei:k+1+(i+1)=k+1+i+1:=by omega
  rw[ei];generalize k+1+i=j at h3 hj hj1 hjk ⊢;obtain ⟨u,hu⟩:=zhy hj1 hj;have h3t:=k3 _ _ ntp ht;have hat:=zgB hj;rw[zdz hu]at hat;have hlen:=zkA ps k j;refine ⟨_,rfl,_,rfl,_,_,_,_,rfl,rfl,SqT.of h3t,hat,_,rfl,_,_,rfl,.inl (SqL.of h3),rfl,zjd _,_,rfl,?_⟩;show if inV (.int (u:Int)) ((benL ps k j).map nV)=true then _ else _
  rw[zmH];have hB:isB ps k j=isB ps k u:=zbY hT hjk hu;have hult:=(zaP hT hu).1;refine ite2 (fun c=>?_) (fun c=>?_)
  ·have c':isB ps k u=true:=(zce.mp (yaE c)).2;refine ⟨_,rfl,.inl ⟨rfl,_,SqL.of h3⟩,_,rfl,_,_,_,rfl,rfl,h3,zaq (by rw[yab];omega),?_⟩;refine ⟨_,rfl,?_,fun b o n e=>by rw[zai n];exact k3 b o n e⟩;rw[zac,ziH,hB,if_pos c',yai];rfl
  ·have c':¬ isB ps k u=true:=fun z=>c (yah (zce.mpr ⟨hult,z⟩));refine ⟨_,rfl,?_,k3⟩;rw[h3,ziH,hB,if_neg c',yaG]
 ·rintro σ H3 ⟨x3,rfl,h3,k3⟩;refine ⟨_,rfl,?_⟩;rw[show k+1+(ps.length - k)=ps.length+1 by omega]at h3;exact q p H3 hp (fun b o e=>k3 b o (zab e hp) e) h3
def zbP (es:List (Int×Int)):List (Int×Int):=zcc es (zbe es)
def zbx (rows:List (List Int))(k:Nat):List Int:=rows.getD k []
def ownE (rows:List (List Int))(k:Nat):List (Int×Int):=(zbx rows k).map fun x=>(x,(k:Int))
def zlb (ps:List Nat)(rows:List (List Int)):Nat→Nat→List (Int×Int)
 | 0,_=>[]
 | f+1,k=>zds (((zaS ps k (ps.length+1)).map fun c=>zbP (zlb ps rows f c)).flatten++ownE rows k)
theorem zg3 {ps:List Nat}(T:zaC ps){rows:List (List Int)}:∀ f g k,k < ps.length+1→ps.length+1 - k≤f→ps.length+1 - k≤g→zlb ps rows f k=zlb ps rows g k
 | 0,_,k,hk,h,_=>by omega
 | _,0,k,hk,_,h=>by omega
 | f+1,g+1,k,hk,hf,hg=>by
  unfold zlb;congr 3;refine ycC fun c hc=>?_;have h:=zaE.mp hc;have:=zaP T h.2;show zbP _=zbP _;rw[zg3 T f g c h.1 (by omega) (by omega)]
def zak (ps:List Nat)(rows:List (List Int))(k:Nat):List (Int×Int):=zlb ps rows (ps.length+1 - k) k
def zei (ps:List Nat)(rows:List (List Int))(k:Nat):List (List (Int×Int)):=((zaS ps k (ps.length+1)).map fun c=>zbP (zak ps rows c))++[ownE rows k]
theorem zcL {ps:List Nat}(T:zaC ps){rows:List (List Int)}{k:Nat}(hk:k < ps.length+1):zak ps rows k=zds (zei ps rows k).flatten:=by
 unfold zak zei;obtain ⟨f,hf⟩:∃ f,ps.length+1 - k=f+1:=⟨ps.length - k,by omega⟩;rw[hf,zlb,ybP,List.flatten_singleton];congr 3;refine ycC fun c hc=>?_;have h:=zaE.mp hc;have:=zaP T h.2;show zbP _=zbP _;rw[zg3 T f (ps.length+1 - c) c h.1 (by omega) (by omega)];rfl
structure za2 (rows:List (List Int)):Prop where
 up:∀ row∈rows,row.Pairwise (· < ·)
 key:∀ row∈rows,∀ x∈row,-(10 ^ 60) < x∧x < 10 ^ 60
theorem za2.at_up {rows:List (List Int)}(R:za2 rows)(k:Nat):(zbx rows k).Pairwise (· < ·):=by
 unfold zbx;rw[yad];cases e:rows[k]? with
 | none=>exact .nil
 | some row=>exact R.up row (yaO e)
theorem za2.at_key {rows:List (List Int)}(R:za2 rows)(k:Nat):∀ x∈zbx rows k,-(10 ^ 60) < x∧x < 10 ^ 60:=by
 unfold zbx;rw[yad];cases e:rows[k]? with
 | none=>exact fun x hx=>nomatch hx
 | some row=>exact R.key row (yaO e)
theorem ziu {α:Type}:∀(es:List α) (ms:List Bool),(zcc es ms).Sublist es
 | [],_=>by
  unfold zcc;exact List.Sublist.refl _
 | e::es,[]=>by
  unfold zcc;exact List.nil_sublist _
 | e::es,m::ms=>by
  have ih:=ziu es ms;unfold zcc at ih ⊢;cases m with
  | false=>exact List.Sublist.cons e ih
  | true=>exact List.Sublist.cons₂ e ih
theorem zaY (es:List (Int×Int)):(zbP es).Sublist es:=ziu _ _
def Of (ps:List Nat)(rows:List (List Int))(k:Nat)(e:Int×Int):Prop:=∃ j,j < ps.length+1∧isB ps k j=true∧e.2=(j:Int)∧e.1∈zbx rows j
theorem zib {ps:List Nat}{rows:List (List Int)}{k:Nat}(hk:k < ps.length+1){e:Int×Int}(h:e∈ownE rows k):Of ps rows k e∧e.2=(k:Int):=by
 obtain ⟨x,hx,rfl⟩:=yaH.mp h;exact ⟨⟨k,hk,zdc,rfl,hx⟩,rfl⟩
theorem zic {rows:List (List Int)}(R:za2 rows)(k:Nat):(ownE rows k).Nodup:=by
 unfold ownE;rw[List.nodup_iff_pairwise_ne,ybX];exact List.Pairwise.imp (fun {a b} (h:a < b) z=>by
  have:=congrArg Prod.fst z;have:a=b:=this;omega) (R.at_up k)
theorem zf8 {ps:List Nat}(T:zaC ps){rows:List (List Int)}(R:za2 rows):∀(m k:Nat),ps.length+1 - k≤m→k < ps.length+1→(∀ e∈zak ps rows k,Of ps rows k e)∧(zei ps rows k).flatten.Nodup
 | 0,k,hm,hk=>by omega
 | m+1,k,hm,hk=>by
  have ih:∀ c,par ps c=some k→(∀ e∈zak ps rows c,Of ps rows c e)∧(zak ps rows c).Nodup:=fun c hc=>by
   have:=zaP T hc;have q:=zf8 T R m c (by omega) this.2;refine ⟨q.1,?_⟩;rw[zcL T this.2];exact (zcf _).nodup_iff.mpr q.2
  have up:∀{c:Nat} {e:Int×Int},par ps c=some k→Of ps rows c e→Of ps rows k e:=fun {c e} hc h=>by
   obtain ⟨j,h1,h2,h3,h4⟩:=h;exact ⟨j,h1,(zff T j j (yaa _) h1).mpr (.inr ⟨c,hc,h2⟩),h3,h4⟩
  refine ⟨fun e he=>?_,?_⟩
  ·rw[zcL T hk,zeE]at he;obtain ⟨l,hl,he⟩:=ycm.mp he;rcases yao.mp hl with q | q
   ·obtain ⟨c,hc,rfl⟩:=yaH.mp q;have hp:=(zaE.mp hc).2;exact up hp ((ih c hp).1 e ((zaY _).mem he))
   ·rw[yam.mp q]at he;exact (zib hk he).1
  ·show List.Pairwise _ _;unfold zei;rw[List.pairwise_flatten];refine ⟨fun l hl=>?_,?_⟩
   ·rcases yao.mp hl with q | q
    ·obtain ⟨c,hc,rfl⟩:=yaH.mp q;exact (ih c (zaE.mp hc).2).2.sublist (zaY _)
    ·rw[yam.mp q];exact zic R k
   ·rw[yaM];refine ⟨?_,List.pairwise_singleton _ _,?_⟩
    ·rw[ybX];refine List.Pairwise.imp_of_mem (fun {c d} hc hd hcd=>?_) (ziC ps k _);intro x hx y hy z;subst z;have pc:=(zaE.mp hc).2;have pd:=(zaE.mp hd).2;obtain ⟨j,_,h2,h3,_⟩:=(ih c pc).1 x ((zaY _).mem hx);obtain ⟨i,_,g2,g3,_⟩:=(ih d pd).1 x ((zaY _).mem hy);have:j=i:=by omega
     subst this;exact zdD T pc pd (yas hcd) j j (yaa _) h2 g2
    ·intro l hl l' hl' x hx y hy z;subst z;obtain ⟨c,hc,rfl⟩:=yaH.mp hl;rw[yam.mp hl']at hy;have pc:=(zaE.mp hc).2;obtain ⟨j,_,h2,h3,_⟩:=(ih c pc).1 x ((zaY _).mem hx);have h4:=(zib hk hy).2;have:j=k:=by omega
     subst this;rw[zfe T (zaP T pc).1]at h2;cases h2
theorem zeb {ps:List Nat}(T:zaC ps){rows:List (List Int)}(R:za2 rows){k:Nat}(hk:k < ps.length+1):∀ e∈zak ps rows k,Of ps rows k e:=(zf8 T R _ k (yaa _) hk).1
theorem zeu {ps:List Nat}(T:zaC ps){rows:List (List Int)}(R:za2 rows){k:Nat}(hk:k < ps.length+1):(zak ps rows k).Nodup:=by
 rw[zcL T hk];exact (zcf _).nodup_iff.mpr (zf8 T R _ k (yaa _) hk).2
theorem zaV {ps:List Nat}(T:zaC ps){rows:List (List Int)}(R:za2 rows){k:Nat}(hk:k < ps.length+1):Rise (zak ps rows k):=by
 rw[zcL T hk];exact zfr (zf8 T R _ k (yaa _) hk).2
theorem zfh {ps:List Nat}(T:zaC ps){rows:List (List Int)}(R:za2 rows)(hz:ps.length≤40){k:Nat}(hk:k < ps.length+1):∀ e∈zak ps rows k,zex 64 e:=fun e he=>by
 obtain ⟨j,h1,h2,h3,h4⟩:=zeb T R hk e he;have:=R.at_key j _ h4;exact ⟨this.1,this.2,by omega,by omega⟩
def wtR (ps:List Nat)(rows:List (List Int))(k:Nat):Nat:=((benL ps k (ps.length+1)).map fun j=>(zbx rows j).length).sum
theorem znm {l m:List Nat}(h:l.Perm m):l.sum=m.sum:=by
 induction h with
 | nil=>rfl
 | cons x _ ih=>rw[yaS,yaS,ih]
 | swap x y l=>rw[yaS,yaS,yaS,yaS];omega
 | trans _ _ h1 h2=>rw[h1,h2]
theorem zjz (f:Nat→Nat):∀(ls:List (List Nat)),(ls.flatten.map f).sum=(ls.map fun l=>(l.map f).sum).sum
 | []=>rfl
 | l::ls=>by
  rw[List.flatten_cons,yai,List.sum_append,zjz f ls,yax,yaS]
theorem zlm {ps:List Nat}(T:zaC ps)(f:Nat→Nat){k:Nat}(hk:k < ps.length+1):((benL ps k (ps.length+1)).map f).sum=f k+((zaS ps k (ps.length+1)).map fun c=>((benL ps c (ps.length+1)).map f).sum).sum:=by
 have h:=znm ((zkQ T hk).map f);rw[yax,yaS,zjz,ybf]at h;exact h.symm
theorem zot {f g:Nat→Nat}:∀{l:List Nat},(∀ x∈l,f x≤g x)→(l.map f).sum≤(l.map g).sum
 | [],_=>yaa _
 | x::l,h=>by
  rw[yax,yaS,yax,yaS];have h1:=h x yaC;have h2:=zot (f:=f) (g:=g) (l:=l) fun y hy=>h y (yaD _ hy);omega
theorem zkc {α:Type}:∀(ls:List (List α)),ls.flatten.length=(ls.map List.length).sum
 | []=>rfl
 | l::ls=>by
  rw[List.flatten_cons,yak,zkc ls,yax,yaS]
theorem zmO {ps:List Nat}(T:zaC ps){rows:List (List Int)}{k:Nat}(hk:k < ps.length+1):(zak ps rows k).length=(zbx rows k).length+((zaS ps k (ps.length+1)).map fun c=>(zbP (zak ps rows c)).length).sum:=by
 rw[zcL T hk,zcB];unfold zei;rw[ybP,yak,List.flatten_singleton,zkc,ybf];unfold ownE;rw[yab,Nat.add_comm];rfl
theorem zg2 {ps:List Nat}(T:zaC ps){rows:List (List Int)}:∀(m k:Nat),ps.length+1 - k≤m→k < ps.length+1→(zak ps rows k).length≤wtR ps rows k
 | 0,k,hm,hk=>by omega
 | m+1,k,hm,hk=>by
  unfold wtR;rw[zmO T hk,zlm T _ hk];refine ycv (zot fun c hc=>?_) _;have h:=zaE.mp hc;have:=zaP T h.2;exact yar (zaY _).length_le (zg2 T m c (by omega) h.1)
theorem zgP (f:Nat→Nat)(P:Nat→Bool):∀(l:List Nat),((l.filter P).map f).sum≤(l.map f).sum
 | []=>yaa _
 | x::l=>by
  have ih:=zgP f P l;rw[yax,yaS];by_cases h:P x=true
  ·rw[ya5 h,yax,yaS];omega
  ·rw[ybj h];omega
def zcv (rows:List (List Int)):Nat:=(rows.map List.length).sum
theorem zlF (rows:List (List Int)):((List.range rows.length).map fun j=>(zbx rows j).length).sum=zcv rows:=by
 unfold zcv;congr 1;apply ybi;intro i;rw[yal,yal];by_cases h:i < rows.length
 ·rw[ybt h,yac h];show some (zbx rows i).length=some rows[i].length;unfold zbx;rw[yad,yac h];rfl
 ·rw[yaU (by rw[yaX];omega),yaU (by omega)];rfl
theorem zop {ps:List Nat}{rows:List (List Int)}(hl:rows.length=ps.length+1)(k:Nat):wtR ps rows k≤zcv rows:=by
 unfold wtR benL;refine yar (zgP _ _ _) ?_;rw[← hl,zlF];exact yaa _
theorem zdd {ps:List Nat}(T:zaC ps){rows:List (List Int)}(hl:rows.length=ps.length+1){k:Nat}(hk:k < ps.length+1):(zak ps rows k).length≤zcv rows:=yar (zg2 T _ k (yaa _) hk) (zop hl k)
def zaZ (H:Hp)(as:List Addr)(rows:List (List Int)):Prop:=Paired (fun a row=>H a=some (.tup (row.map V.int))) as rows
theorem zaZ.ext {H H':Hp}(e:∀ b o,H b=some o→H' b=some o){as:List Addr}{rows:List (List Int)}(h:zaZ H as rows):zaZ H' as rows:=pImp (fun _ _=>e _ _) h
theorem zaZ.keep {d p:Addr}{H H':Hp}(hd:∀ a row,H a=some (.tup row)→a≠d)(e:∀ b o,b≠d→H b=some o→H' b=some o){as:List Addr}{rows:List (List Int)}(h:zaZ H as rows):zaZ H' as rows:=pImp (fun _ _ h=>e _ _ (hd _ _ h) h) h
theorem zaZ.length {H:Hp}{as:List Addr}{rows:List (List Int)}(h:zaZ H as rows):as.length=rows.length:=Paired.length h
theorem zaZ.get {H:Hp}:∀{as:List Addr} {rows:List (List Int)} {k:Nat},zaZ H as rows→k < rows.length→∃ a,as[k]?=some a∧H a=some (.tup ((zbx rows k).map V.int))
 | _,_,_,.nil,hk=>by simp at hk
 | a::as,row::rows,0,.cons h t,_=>⟨a,rfl,h⟩
 | a::as,row::rows,k+1,.cons h t,hk=>by
  obtain ⟨b,h1,h2⟩:=zaZ.get (k:=k) t (by simpa using hk);refine ⟨b,by rw[ycc];exact h1,?_⟩;have:zbx (row::rows) (k+1)=zbx rows k:=by
   unfold zbx;rw[yad,yad,ycc]
  rw[this];exact h2
theorem zaZ.snoc {H:Hp}{a:Addr}{row:List Int}{as:List Addr}{rows:List (List Int)}(h:zaZ H as rows)(g:H a=some (.tup (row.map V.int))):zaZ H (as++[a]) (rows++[row]):=pApp h (.cons g .nil)
structure zbs (H:Hp)(st:Addr)(ps:List Nat)(rows:List (List Int))(t rs:Addr)(as:List Addr):Prop where
 st:H st=some (.tup [.ref t,.ref rs])
 tr:H t=some (.tup (zcp ps))
 rs:H rs=some (.tup (as.map V.ref))
 at_:zaZ H as rows
 len:rows.length=ps.length+1
 T:zaC ps
 R:za2 rows
 few:ps.length≤40
 keys:zcv rows≤400
theorem zbs.same {H H':Hp}{st t rs:Addr}{ps:List Nat}{rows:List (List Int)}{as:List Addr}(S:zbs H st ps rows t rs as)(e:Same H H'):zbs H' st ps rows t rs as:=
 ⟨e _ _ S.st,e _ _ S.tr,e _ _ S.rs,S.at_.ext e,S.len,S.T,S.R,S.few,S.keys⟩
theorem zdI {as:List Addr}{k:Nat}{a:Addr}(h:as[k]?=some a):atI (as.map V.ref) (k:Int)=some (.ref a):=zbI (by rw[yal,h];rfl)
theorem zif {α:Type}{l:List α}(h:l.Nodup):l.reverse.Nodup:=(List.reverse_perm l).nodup_iff.mpr h
def zgE (K:Frag)(H:Hp)(ps:List Nat)(rows:List (List Int))(j:Nat)(q:Addr):Prop:=∃ ws,H q=some (.lst ws)∧zar K H (zak ps rows j) ws
def zaD (K:Frag)(H:Hp)(ps:List Nat)(rows:List (List Int)):List Nat→List Addr→Prop:=Paired (zgE K H ps rows)
theorem zgE.same {K:Frag}{H H':Hp}{ps:List Nat}{rows:List (List Int)}{j:Nat}{q:Addr}(h:zgE K H ps rows j q)(e:Same H H'):zgE K H' ps rows j q:=by
 obtain ⟨ws,h1,h2⟩:=h;exact ⟨ws,e _ _ h1,h2.mono e.ext⟩
theorem zaD.same {K:Frag}{H H':Hp}{ps:List Nat}{rows:List (List Int)}(e:Same H H'){js:List Nat}{qs:List Addr}(h:zaD K H ps rows js qs):zaD K H' ps rows js qs:=pImp (fun _ _ h=>zgE.same h e) h
theorem zaD.ext {K:Frag}{H H':Hp}{ps:List Nat}{rows:List (List Int)}(e:Ext H H'){js:List Nat}{qs:List Addr}(h:zaD K H ps rows js qs):zaD K H' ps rows js qs:=pImp (fun _ _ h=>by
  obtain ⟨ws,a1,a2⟩:=h;exact ⟨ws,e _ _ a1 (fun _ z=>nomatch z),a2.mono e⟩) h
theorem zaD.length {K:Frag}{H:Hp}{ps:List Nat}{rows:List (List Int)}{js:List Nat}{qs:List Addr}(h:zaD K H ps rows js qs):js.length=qs.length:=Paired.length h
theorem zaD.snoc {K:Frag}{H:Hp}{ps:List Nat}{rows:List (List Int)}{j:Nat}{q:Addr}{js:List Nat}{qs:List Addr}(h:zaD K H ps rows js qs)(g:zgE K H ps rows j q):zaD K H ps rows (js++[j]) (qs++[q]):=pApp h (.cons g .nil)
theorem zaD.get {K:Frag}{H:Hp}{ps:List Nat}{rows:List (List Int)}:∀{js:List Nat} {qs:List Addr} {i j:Nat},zaD K H ps rows js qs→js[i]?=some j→∃ q,qs[i]?=some q∧zgE K H ps rows j q
 | _,_,i,j,.nil,h=>by simp at h
 | _::_,q::_,0,j,.cons h t,e=>by
  have:=yae (show some _=some j from e);subst this;exact ⟨q,rfl,h⟩
 | _::_,_::_,i+1,j,.cons h t,e=>by
  obtain ⟨q,h1,h2⟩:=zaD.get (i:=i) t (by simpa using e);exact ⟨q,by simpa using h1,h2⟩
theorem zaD.rev {K:Frag}{H:Hp}{ps:List Nat}{rows:List (List Int)}{js:List Nat}{qs:List Addr}(h:zaD K H ps rows js qs):zaD K H ps rows js.reverse qs.reverse:=by
 unfold zaD at h
 induction h with
 | nil=>exact .nil
 | cons h _ ih=>
  rw[List.reverse_cons,List.reverse_cons];exact zaD.snoc ih h
theorem zaD.alloc {K:Frag}{H:Hp}{ps:List Nat}{rows:List (List Int)}:∀{js:List Nat} {qs:List Addr},zaD K H ps rows js qs→∀ q∈qs,∃ ws,H q=some (.lst ws)
 | _,_,.nil=>fun q hq=>nomatch hq
 | _::_,_::_,.cons h t=>fun q hq=>by
  rcases yat.mp hq with e | e
  ·obtain ⟨ws,h1,_⟩:=h;exact ⟨ws,e ▸ h1⟩
  ·exact zaD.alloc t q e
abbrev kN (j:Nat):Key:=Sum.inl (j:Int)
def zdC:List Nat→List Addr→List (Key×V)
 | j::js,q::qs=>(kN j,.ref q)::zdC js qs
 | _,_=>[]
theorem zke {j:Nat}:∀{js:List Nat} {qs:List Addr},j∉js→valV (zdC js qs) (kN j)=none
 | [],_,_=>rfl
 | _::_,[],_=>rfl
 | i::js,q::qs,h=>by
  have h1:¬ kN i=kN j:=fun z=>h (by
   have:=Int.ofNat.inj (Sum.inl.inj z);rw[this];exact yaC)
  show valV ((kN i,V.ref q)::zdC js qs) (kN j)=none;rw[zbB h1];exact zke fun z=>h (yaD _ z)
theorem zi6 {j:Nat}{q:Addr}:∀{js:List Nat} {qs:List Addr} {i:Nat},js.Nodup→js[i]?=some j→qs[i]?=some q→valV (zdC js qs) (kN j)=some (.ref q)
 | [],_,_,_,h,_=>by simp at h
 | _::_,[],_,_,_,h=>by simp at h
 | a::js,b::qs,0,_,h1,h2=>by
  have:=yae (show some a=some j from h1);subst this;have:=yae (show some b=some q from h2);subst this;exact zcA (p:=(kN a,V.ref b)) rfl
 | a::js,b::qs,i+1,hn,h1,h2=>by
  have g1:js[i]?=some j:=by simpa using h1
  have hne:¬ kN a=kN j:=fun z=>by
   have e:=Int.ofNat.inj (Sum.inl.inj z);exact (ya0.mp hn).1 (e ▸ yaO g1)
  show valV ((kN a,V.ref b)::zdC js qs) (kN j)=_;rw[zbB hne];exact zi6 (ya0.mp hn).2 g1 (by simpa using h2)
theorem zkd {j:Nat}{q:Addr}:∀{js:List Nat} {qs:List Addr},js.length=qs.length→zdC (js++[j]) (qs++[q])=zdC js qs++[(kN j,.ref q)]
 | [],[],_=>rfl
 | [],_::_,h=>by cases h
 | _::_,[],h=>by cases h
 | a::js,b::qs,h=>by
  show (kN a,V.ref b)::zdC (js++[j]) (qs++[q])=(kN a,V.ref b)::(zdC js qs++[(kN j,V.ref q)]);rw[zkd (Nat.succ.inj h)]
theorem zpL {j:Nat}{q:Addr}{js:List Nat}{qs:List Addr}(hl:js.length=qs.length)(h:j∉js):putK (zdC js qs) (kN j) (.ref q)=zdC (js++[j]) (qs++[q]):=by
 rw[zeV _ (zke h),zkd hl]
theorem zms:∀{js:List Nat} {qs:List Addr},js.length=qs.length→(zdC js qs).length=js.length
 | [],[],_=>rfl
 | [],_::_,h=>by cases h
 | _::_,[],h=>by cases h
 | a::js,b::qs,h=>by
  show (zdC js qs).length+1=js.length+1;rw[zms (Nat.succ.inj h)]
theorem zon {l:List Nat}(h:l.Pairwise (· > ·)){i j c:Nat}(hj:l[i]?=some j)(hc:c∈l)(hcj:j < c):c∈l.take i:=by
 obtain ⟨u,hu,rfl⟩:=yaW hc;obtain ⟨hi,rfl⟩:=yaf.mp hj;have:u < i:=by
  refine yck fun z=>?_;by_cases e:i=u
  ·subst e;omega
  ·have:=yaQ.mp h i u hi hu (by omega);omega
 rw[List.mem_iff_getElem?];exact ⟨u,by rw[ybH,if_pos this,yac hu]⟩
theorem zn3 {ps:List Nat}(T:zaC ps){k j c:Nat}(h:isB ps k j=true)(hc:par ps c=some j):isB ps k c=true:=by
 by_cases e:c=k
 ·rw[e];exact zdc
 ·rw[zbY T e hc];exact h
def zqn (K:Frag):Sp:=fun vs H Q _=>∃(st:Addr) (ps:List Nat) (rows:List (List Int)) (t rs:Addr) (as:List Addr) (j:Nat),vs=[.ref st,.int j]∧zbs H st ps rows t rs as∧j < ps.length+1∧
 ∀(D:Addr) (us:List V) (H':Hp),H D=none→Same H H'→H' D=some (.lst us)→zar K H' (ownE rows j) us→Q (.ref D) H'
theorem zqJ (T:Txt K mg)(qau:DF K mg "own_entries" zb6 zbU):FC P w K mg base 1 "own_entries" zbU (zqn K):=by
 refine qau.ok qbB (fun vs H Q E h=>?_) (fun f cdv A outer s H vs Q E hr h=>?_)
 ·obtain ⟨st,ps,rows,t,rs,as,k,rfl,_⟩:=h;rfl
 obtain ⟨st,ps,rows,t,rs,as,j,rfl,S4,hjn,q⟩:=h;refine ⟨_,(zaf (zat (zbG (N:=["key","knot"]) (own:=1) (cap:=[1]) rfl (zeh (zay zaN (zay zaN (pv 0) zae (fun _ _=>rfl)) (pv 1) (fun _ _=>rfl))) ⟨rfl,rfl,rfl,rfl,rfl,rfl⟩ (fun _ _ _ _ _=>(zan (i:=0) (show List.Nodup (["key","knot"]:List Str) by decide +kernel) rfl (Or.inl rfl))) (fun _ _ _ _ _=>zbF) (fun _ _ _ _ _=>(zbu (zaa (pv 0) (zaa (pv 1) zad))))))),?_⟩;obtain ⟨a,ha1,ha4⟩:=S4.at_.get (k:=j) (by rw[S4.len];exact hjn);have hkeys:=S4.keys;refine ⟨_,rfl,_,_,_,_,rfl,rfl,SqT.of S4.st,rfl,_,rfl,_,_,_,_,rfl,rfl,SqT.of S4.rs,zdI ha1,a,rfl,⟨_,SqT.of ha4⟩,fun D3 hD3=>?_⟩;refine zed (xs:=(zbx rows j).map V.int) (fun m σ H5=>∃(us:List V) (x0:Option V),σ=[x0,some (.int j)]∧H5 D3=some (.lst us)∧zar K H5 ((ownE rows j).take m) us∧But D3 H H5) ?_ ?_ ?_ ?_
 ·exact ⟨[],_,rfl,zac,.nil,fun b o n e=>by rw[zai n];exact e⟩
 ·rintro m σ H5 _ ⟨us,x0,rfl,_,_,k5⟩;exact SqT.of (k5 _ _ (zab ha4 hD3) ha4)
 ·rintro m r x σ H5 hx hm ⟨us,x0,rfl,h5,hw5,k5⟩;rw[yal]at hx;obtain ⟨y,hy,rfl⟩:=ybh.mp hx;have hlow:=(yaf.mp hy).1;have htk3:(ownE rows j).take (m+1)=(ownE rows j).take m++[(y,(j:Int))]:=by
   unfold ownE;rw[← ybK,← ybK,yaB hlow,yai];rw[(yaf.mp hy).2];rfl
  have hul:=hw5.length;rw[yaj]at hul;rw[yab]at hm;have hrl:(zbx rows j).length≤zcv rows:=by
   have:=zop S4.len (k:=j) (ps:=ps);have e2:wtR ps rows j=(zbx rows j).length+_:=zlm S4.T _ hjn;omega
  refine zcK ?_;refine ⟨_,rfl,_,rfl,(by show 2≤sizeLine;decide),fun u hu=>?_⟩;have su:=zag hu (.tup [.int y,.int (j:Int)]);have h6:=su _ _ h5;have hut:upd H5 u (.tup [.int y,.int (j:Int)]) u=some (.tup [.int y,.int (j:Int)]):=zac;have k6:=k5.new' hu (.tup [.int y,.int (j:Int)]);have hw6:=hw5.mono su.ext;generalize upd H5 u (.tup [.int y,.int (j:Int)])=H6 at su h6 hut k6 hw6 ⊢;refine ⟨_,h6,zaq (by omega),r - 1,by omega,by rw[yab];omega,us++[.ref u],_,rfl,zac,?_,fun b o n e=>by rw[zai n];exact k6 b o n e⟩;rw[htk3];exact (za6 h6 hw6).append (za6 h6 (.cons ⟨u,.int y,.int (j:Int),rfl,hut,rfl,rfl⟩ .nil))
 ·rintro σ H5 ⟨us,x0,rfl,h5,hw5,k5⟩;rw[yab,yap (by unfold ownE;rw[yab];exact yaa _)]at hw5;exact q D3 us H5 hD3 (fun x o e=>k5 x o (zab e hD3) e) h5 hw5
def zqp (K:Frag):Sp:=fun vs H Q _=>∃(st:Addr) (ps:List Nat) (rows:List (List Int)) (t rs:Addr) (as:List Addr) (k:Nat),vs=[.ref st,.int k]∧zbs H st ps rows t rs as∧k < ps.length+1∧
 ∀(D:Addr) (qs:List Addr) (H':Hp),H D=none→Same H H'→H' D=some (.dK (zdC (benL ps k (ps.length+1)).reverse qs))→qs.Nodup→(∀ q∈qs,H q=none)→zaD K H' ps rows (benL ps k (ps.length+1)).reverse qs→Q (.ref D) H'
theorem zqN (T:Txt K mg)(qah:DF K mg "full_rows_beneath" zbf za4)(qcv:FC P w K mg base 1 "beneath" zd7 (zh4 K))(qa8:FC P w K mg base 1 "children" zcs (zcS K))(qcJ:FC P w K mg base 6 "handed" ze4 (zjL K))(qbP:FC P w K mg base 1 "own_entries" zbU (zqn K))(qb7:FC P w K mg base 1 "joined_up" zcI (zoC K)):FC P w K mg base 7 "full_rows_beneath" za4 (zqp K):=by
 refine qah.ok qab (fun vs H Q E h=>?_) (fun f cdv A outer s H vs Q E hr h=>?_)
 ·obtain ⟨st,ps,rows,t,rs,as,k,rfl,_⟩:=h;rfl
 obtain ⟨st,ps,rows,t,rs,as,k,rfl,S,hk,q⟩:=h;refine ⟨_,(zah (zap (i:=2) qab.nd rfl (Or.inl rfl) (zay zaN (pv 0) zae (fun _ _=>rfl)))
   (zah (zap (i:=3) qab.nd rfl (Or.inr rfl) zhx)
   (zah (zaR PassesOwn.never rfl (ziU rfl T.qcl (zaa (zax qcv hr (zaa (pv 2) (zaa (pv 1) zad))) zad)) (zan (i:=4) qab.nd rfl (Or.inl rfl)) (zah (zeo (i:=5) (N:=["child","told"]) (own:=1) (cap:=[3]) qab.nd rfl rfl rfl (zbq (zax qa8 hr (zaa (pv 2) (zaa (pv 4) zad)))) ⟨rfl,rfl,rfl,rfl,rfl,rfl⟩ (fun _ _ _ _ _=>(zan (i:=0) (show List.Nodup (["child","told"]:List Str) by decide +kernel) rfl (Or.inl rfl))) (fun _ _ _ _ _=>zbF) (fun _ _ _ _ _=>(zax qcJ hr (zaa (zdy (zet hr) (pv 1) (pv 0) (fun _ _=>rfl)) zad))))
   (zah (zbv (zep F.plainAttrs_list F.slot_list_append F.type_list_append zaQ (pv 5) (zaa (zax qbP hr (zaa (pv 0) (zaa (pv 4) zad))) zad)))
   (zaf (zft (zet hr) (pv 3) (pv 4) (zax qb7 hr (zaa (pv 5) zad)) rfl)))))
   (zaf (zat (pv 3)))))),?_⟩
 refine ⟨_,rfl,_,_,_,_,rfl,rfl,SqT.of S.st,rfl,fun D hD=>?_⟩;have s0:=zag hD (.dK []);have hD0:upd H D (.dK []) D=some (.dK []):=zac;generalize upd H D (.dK [])=H0 at s0 hD0 ⊢;refine ⟨_,rfl,_,rfl,t,ps,k,rfl,s0 _ _ S.tr,S.T,hk,by have:=S.few;omega,fun b H1 hb s1 h1=>?_⟩;refine ⟨b,_,rfl,SqL.of h1,?_⟩;have hup:=zjl ps k (ps.length+1);have hmem:=fun j=>zce (ps:=ps) (k:=k) (n:=ps.length+1) (j:=j);have hbl:=zkA ps k (ps.length+1);generalize benL ps k (ps.length+1)=bs at h1 q hup hmem hbl ⊢;have hdn:bs.reverse.Pairwise (· > ·):=by
  rw[List.pairwise_reverse];exact hup
 have hnd:bs.reverse.Nodup:=List.Pairwise.imp (fun {a b} (q:a > b)=>ybQ q) hdn;refine zpV (xs:=bs.map nV) (fun i σ H2=>∃(qs:List Addr) (x5 x6:Option V),σ=[some (.ref st),some (.int k),some (.ref t),some (.ref D),x5,x6]∧H2 D=some (.dK (zdC (bs.reverse.take i) qs))∧qs.Nodup∧(∀ q∈qs,H q=none)∧zaD K H2 ps rows (bs.reverse.take i) qs∧H2 b=some (.lst (bs.map nV))∧But D H H2) ?_ ?_ ?_ ?_
 ·exact ⟨[],_,_,rfl,s1 _ _ hD0,ybo,(fun q hq=>nomatch hq),.nil,h1,fun x o _ e=>s1 _ _ (s0 _ _ e)⟩
 ·rintro i σ H2 _ ⟨qs,x5,x6,rfl,_,_,_,_,h2b,_⟩;exact SqL.of h2b
 ·rintro i x σ H2 hx ⟨qs,x5,x6,rfl,h2,hqn,hqf,hF,h2b,k2⟩;rw[← List.map_reverse]at hx;obtain ⟨hi,hxe⟩:=zg1 hx;have hji:bs.reverse[i]?=some (bs.reverse.getD i 0):=by
   rw[yad,yac hi];rfl
  subst hxe;have htk:bs.reverse.take (i+1)=bs.reverse.take i++[bs.reverse.getD i 0]:=by
   rw[yaB hi,yad,yac hi];rfl
  rw[htk];generalize bs.reverse.getD i 0=j at hji htk ⊢;have hjm:j∈bs:=ycp.mp (yaO hji);obtain ⟨hjn,hjB⟩:=(hmem j).mp hjm;have hjnot:j∉bs.reverse.take i:=fun z=>by
   have hnd':=hnd;rw[← ya2 (i+1) bs.reverse,htk]at hnd';have:=(ybv.mp hnd').1;exact (ybv.mp this).2.2 j z j (yam.mpr rfl) rfl
  have noD:∀{p:Addr} {o:HO},H p=some o→p≠D:=fun {p o} e=>zab e hD;have S2:zbs H2 st ps rows t rs as:=⟨k2 _ _ (noD S.st) S.st,k2 _ _ (noD S.tr) S.tr,k2 _ _ (noD S.rs) S.rs,zaZ.keep (p:=D) (d:=D) (fun a row e=>noD e) k2 S.at_,S.len,S.T,S.R,S.few,S.keys⟩;have hkeys:=S.keys;have hfew:=S.few;refine ⟨_,rfl,_,rfl,t,ps,j,rfl,S2.tr,by omega,fun c H3 hc s3 h3=>?_⟩;refine ⟨c,rfl,⟨_,SqL.of h3⟩,fun D2 hD2=>?_⟩;have hcmem:=fun m=>zaE (ps:=ps) (k:=j) (n:=ps.length+1) (j:=m);have hcl:=zcX ps j (ps.length+1);have hparts:zei ps rows j=((zaS ps j (ps.length+1)).map fun c=>zbP (zak ps rows c))++[ownE rows j]:=rfl;generalize zaS ps j (ps.length+1)=cs at h3 hcmem hcl hparts ⊢;have h3D:=s3 _ _ h2;have nDD2:D≠D2:=zab h3D hD2;have F3:zaD K H3 ps rows (bs.reverse.take i) qs:=hF.same s3;refine zbz (xs:=cs.map nV) (fun m σ H4=>∃(gs:List Addr) (x0:Option V),σ=[x0,some (.ref D)]∧H4 D2=some (.lst (gs.map V.ref))∧Own K H4 gs ((cs.take m).map fun c=>zbP (zak ps rows c))∧D2∉gs∧But D2 H3 H4) ?_ ?_ ?_ ?_
  ·exact ⟨[],_,rfl,zac,.nil,(fun z=>nomatch z),fun b o n e=>by rw[zai n];exact e⟩
  ·rintro m σ H4 _ ⟨gs,x0,rfl,_,_,_,k4⟩;exact k4.sq (SqL.of h3) hD2
  ·rintro m r x σ H4 hx hm ⟨gs,x0,rfl,h4,hO,hg,k4⟩;obtain ⟨hmi,rfl⟩:=zg1 hx;have hcm:cs[m]?=some (cs.getD m 0):=by
    rw[yad,yac hmi];rfl
   have htk2:cs.take (m+1)=cs.take m++[cs.getD m 0]:=by
    rw[yaB hmi,yad,yac hmi];rfl
   rw[htk2];generalize cs.getD m 0=ch at hcm ⊢;obtain ⟨hchn,hchp⟩:=(hcmem ch).mp (yaO hcm);have hlt:=(zaP S.T hchp).1;have hin:ch∈bs.reverse.take i:=zon hdn hji (ycp.mpr ((hmem ch).mpr ⟨hchn,zn3 S.T hjB hchp⟩)) hlt;obtain ⟨u,hu,hue⟩:=yaW hin;have hu2:(bs.reverse.take i)[u]?=some ch:=by rw[yac hu,hue]
   obtain ⟨qq,hq1,ws,hq2,hq3⟩:=F3.get hu2;have hnd2:(bs.reverse.take i).Nodup:=hnd.sublist (List.take_sublist _ _);have hv:=zi6 hnd2 hu2 hq1;have k4D:=k4 _ _ nDD2 h3D;have hq4:=k4 _ _ (zab hq2 hD2) hq2;have hq5:zar K H4 (zak ps rows ch) ws:=by
    have key:∀{es:List (Int×Int)} {vs:List V},zar K H3 es vs→zar K H4 es vs:=by
     intro es vs hh
     induction hh with
     | nil=>exact .nil
     | cons a _ ih=>
      obtain ⟨b,x1,x2,rfl,q,e1,e2⟩:=(show hasP K H3 _ _ from a);exact .cons ⟨b,x1,x2,rfl,k4 _ _ (zab q hD2) q,e1,e2⟩ ih
    exact key hq3
   have hlen:=zdd S.T S.len (rows:=rows) hchn;refine zcK ?_;have hdg:DGet H4 D (.int (ch:Int)) (some (.ref qq)):=by
    rw[← hv];exact DGet.k (k:=kN ch) k4D
   refine ⟨_,rfl,_,rfl,D,_,rfl,hdg,?_⟩;refine ⟨qq,ws,zak ps rows ch,rfl,hq4,hq5,by omega,zfh S.T S.R hfew hchn,zaV S.T S.R hchn,fun g H5 hg5 s5 h5=>?_⟩;have hgl:=hO.length;rw[yab,yaj]at hgl;have h5D2:=s5 _ _ h4;have ngD2:D2≠g:=zab h4 hg5;rw[yab]at hm;refine ⟨_,h5D2,zaq (by rw[yab];omega),r - 1,by omega,by rw[yab];omega,gs++[g],_,rfl,?_,?_,?_,fun x o n e=>by rw[zai n];exact s5 _ _ (k4 x o n e)⟩
   ·rw[zac,yai];rfl
   ·rw[yai];refine Own.other h5D2 (Own.append (hO.ext s5.ext) (.cons ⟨_,h5,?_⟩ .nil)) ?_
    ·exact zko (hq5.mono s5.ext)
    ·intro z;rcases yao.mp z with z | z
     ·exact hg z
     ·exact ngD2 (yam.mp z)
   ·intro z;rcases yao.mp z with z | z
    ·exact hg z
    ·exact ngD2 (yam.mp z)
  ·rintro σ H4 ⟨gs,x0,rfl,h4,hO,hg,k4⟩;rw[yab,yap (yaa _)]at hO;have hgl:=hO.length;rw[yab]at hgl;have s34:Same H3 H4:=fun x o e=>k4 x o (zab e hD2) e;have s24:Same H2 H4:=s3.trans s34;have S4:=S2.same s24;refine ⟨_,rfl,.inl ⟨rfl,_,SqL.of h4⟩,_,rfl,_,rfl,st,ps,rows,t,rs,as,j,rfl,S4,hjn,fun D3 us H5 hD3 s45 h5 hw5=>?_⟩;have h5D2:=s45 _ _ h4;have n23:D2≠D3:=zab h4 hD3;refine ⟨_,_,_,rfl,rfl,h5D2,zaq (by rw[yab];omega),?_⟩;have O5:Own K H5 (gs++[D3]) (zei ps rows j):=by
    rw[hparts];exact Own.append (hO.ext s45.ext) (.cons ⟨us,h5,hw5⟩ .nil)
   have nin:D2∉gs++[D3]:=fun z=>by
    rcases yao.mp z with z | z
    ·exact hg z
    ·exact n23 (yam.mp z)
   have O6:=O5.other (o:=.lst (gs.map V.ref++[.ref D3])) h5D2 nin;have h6:upd H5 D2 (.lst (gs.map V.ref++[.ref D3])) D2=some (.lst ((gs++[D3]).map V.ref)):=by
    rw[zac,yai];rfl
   have k26:∀ x o,H2 x=some o→upd H5 D2 (.lst (gs.map V.ref++[.ref D3])) x=some o:=fun x o e=>by
    rw[zai (zab (s3 _ _ e) hD2)];exact s45 _ _ (s24 _ _ e)
   generalize upd H5 D2 (.lst (gs.map V.ref++[.ref D3]))=H6 at O6 h6 k26 ⊢;have hfl:(zei ps rows j).flatten.length≤1000:=by
    have:=zdd S.T S.len (rows:=rows) hjn;rw[zcL S.T hjn,zcB]at this;omega
   refine ⟨_,rfl,D2,gs++[D3],zei ps rows j,rfl,h6,O6,hfl,fun p ws H7 hp s7 h7 hw7=>?_⟩;rw[← zcL S.T hjn]at hw7;have s27:Same H2 H7:=fun x o e=>s7 _ _ (k26 x o e);have h7D:=s27 _ _ h2;have hql:=hF.length;have hpD:p≠D:=Ne.symm (zab (k26 _ _ h2) hp);refine ⟨_,rfl,_,rfl,D,_,rfl,DPut.k (k:=kN j) h7D (zaq (by rw[zms hql,yaj,yb3];omega)),?_⟩;rw[zpL hql hjnot];have e78:Ext H7 (upd H7 D (.dK (zdC (bs.reverse.take i++[j]) (qs++[p])))):=fun x o e n=>by
    rw[zai (fun z=>by
     rw[z,h7D]at e;cases e
     exact n _ rfl)]
    exact e
   have F8:zaD K (upd H7 D (.dK (zdC (bs.reverse.take i++[j]) (qs++[p])))) ps rows (bs.reverse.take i++[j]) (qs++[p]):=by
    exact zaD.ext e78 (zaD.snoc (hF.same s27) ⟨ws,h7,hw7⟩)
   refine ⟨qs++[p],_,_,rfl,zac,?_,?_,F8,?_,fun x o n e=>?_⟩
   ·rw[ybv];refine ⟨hqn,ya0.mpr ⟨(fun z=>nomatch z),ybo⟩,fun a ha b hb z=>?_⟩;rw[yam.mp hb]at z;subst z;obtain ⟨ws',hws⟩:=hF.alloc a ha;have:=k26 _ _ hws;rw[hp]at this;cases this
   ·intro x hx;rcases yao.mp hx with z | z
    ·exact hqf x z
    ·rw[yam.mp z];cases e:H p with
     | none=>rfl
     | some o=>
      have:=k26 _ _ (k2 p o hpD e);rw[hp]at this;cases this
   ·rw[zai (fun z=>by rw[z,h2]at h2b;cases h2b)]
    exact s27 _ _ h2b
   ·rw[zai n];exact s27 _ _ (k2 x o n e)
 ·rintro σ H2 ⟨qs,x5,x6,rfl,h2,hqn,hqf,hF,h2b,k2⟩;refine ⟨_,rfl,?_⟩;rw[yab,yap (by rw[yb3];exact yaa _)]at h2 hF;exact q D qs H2 hD (fun x o e=>k2 x o (zab e hD) e) h2 hqn hqf hF
def zlM (K:Frag):Sp:=fun vs H Q _=>∃(st:Addr) (ps:List Nat) (rows:List (List Int)) (t rs:Addr) (as:List Addr),vs=[.ref st]∧zbs H st ps rows t rs as∧
 ∀(p:Addr) (qs:List Addr) (H':Hp),H p=none→Same H H'→H' p=some (.lst (qs.map V.ref))→qs.Nodup→(∀ q∈qs,H q=none)→p∉qs→zaD K H' ps rows (List.range (ps.length+1)) qs→Q (.ref p) H'
theorem zht {n i:Nat}(h:i < n):(List.range n).reverse[n - 1 - i]?=some i:=by
 rw[ycz (by rw[yaX];omega),yaX,ybt (by omega)];congr 1;omega
theorem znP (T:Txt K mg)(qaQ:DF K mg "full_rows" zc2 zcJ)(qaR:FC P w K mg base 7 "full_rows_beneath" za4 (zqp K)):FC P w K mg base 8 "full_rows" zcJ (zlM K):=by
 refine qaQ.ok qbd (fun vs H Q E h=>?_) (fun f cdv A outer s H vs Q E hr h=>?_)
 ·obtain ⟨st,ps,rows,t,rs,as,rfl,_⟩:=h;rfl
 obtain ⟨st,ps,rows,t,rs,as,rfl,S,q⟩:=h;refine ⟨_,(zah (zap (i:=1) qbd.nd rfl (Or.inr rfl) (zax qaR hr (zaa (pv 0) (zaa zae zad))))
   (zaf (zat (zbG (N:=["knot","told"]) (own:=1) (cap:=[1]) rfl (zaW rfl T.qad (zaa (zam zal rfl T.qag boot_len (zaa (zay zaN (pv 0) zae (fun _ _=>rfl)) zad)) zad)) ⟨rfl,rfl,rfl,rfl,rfl,rfl⟩ (fun _ _ _ _ _=>(zan (i:=0) (show List.Nodup (["knot","told"]:List Str) by decide +kernel) rfl (Or.inl rfl))) (fun _ _ _ _ _=>zbF) (fun _ _ _ _ _=>(zdy (zet hr) (pv 1) (pv 0) (fun _ _=>rfl))))))),?_⟩
 refine ⟨_,rfl,st,ps,rows,t,rs,as,0,rfl,S,by omega,fun D qs H1 hD s1 h1 hqn hqf hF=>?_⟩;rw[zna S.T]at h1 hF;have S1:=S.same s1;have hfew:=S.few;have hql:=hF.length;rw[yb3,yaX]at hql;refine ⟨_,rfl,_,_,_,_,rfl,rfl,SqT.of S1.st,rfl,_,_,rfl,.inr (SqT.of S1.tr),_,rfl,by omega,by rw[zaw];omega,fun p hp=>?_⟩;have el:((((zcp ps).length:Nat):Int)).toNat=ps.length+1:=by rw[zaw,ya9]
 rw[el];refine zck (n:=ps.length+1) (fun i σ H2=>∃ x0:Option V,σ=[x0,some (.ref D)]∧H2 p=some (.lst ((qs.reverse.take i).map V.ref))∧But p H1 H2) ?_ ?_ ?_
 ·exact ⟨_,rfl,zac,fun b o n e=>by rw[zai n];exact e⟩
 ·rintro i m σ H2 hm hi ⟨x0,rfl,h2,k2⟩;rw[ybg];have hi2:i < qs.reverse.length:=by rw[yb3];omega
  have hq1:qs[ps.length+1 - 1 - i]?=some qs.reverse[i]:=by
   have:=ycz (l:=qs) (i:=i) (by omega);rw[yac hi2]at this;rw[this];congr 1;omega
  have hv:=zi6 (zif List.nodup_range) (zht hi) hq1;have h2D:=k2 _ _ (zab h1 hp) h1;have hdg:DGet H2 D (.int (i:Int)) (some (.ref qs.reverse[i])):=by
   rw[← hv];exact DGet.k (k:=kN i) h2D
  refine zcK ?_;refine ⟨_,rfl,_,rfl,D,_,rfl,hdg,?_⟩;refine ⟨_,h2,zaq (by rw[yab,yaj];omega),m - 1,by omega,by omega,_,rfl,?_,fun b o n e=>by rw[zai n];exact k2 b o n e⟩;rw[zac,yaB hi2,yai];rfl
 ·rintro σ H2 ⟨x0,rfl,h2,k2⟩;rw[yap (by rw[yb3];omega)]at h2;have s2:Same H1 H2:=fun b o e=>k2 b o (zab e hp) e;have F2:=(hF.same s2).rev;rw[ycy]at F2;refine q p qs.reverse H2 ?_ (s1.trans s2) h2 (zif hqn) (fun x hx=>hqf x (ycp.mp hx)) (fun z=>?_) F2
  ·cases e:H p with
   | none=>rfl
   | some o=>
    have:=s1 _ _ e;rw[hp]at this;cases this
  ·obtain ⟨ws,hws⟩:=hF.alloc p (ycp.mp z);rw[hp]at hws;cases hws
def zhb (x:Key):Prop:=∃ a:Int,x=.inl a∧-(10 ^ 60) < a∧a < 10 ^ 60
def toI:Key→Int
 | .inl a=>a
 | _=>0
theorem zpm {kvs:List (Key×V)}{x:Key}{v:V}(h1:(kvs.map (·.1)).Nodup)(h2:∀ y∈kvs.map (·.1),zhb y)(hx:zhb x):((putK kvs x v).map (·.1)).Nodup∧∀ y∈(putK kvs x v).map (·.1),zhb y:=by
 rw[zlV];split
 ·exact ⟨h1,h2⟩
 ·rename_i c;refine ⟨?_,fun y hy=>?_⟩
  ·rw[ybv];refine ⟨h1,ya0.mpr ⟨(fun z=>nomatch z),ybo⟩,fun a ha b hb z=>?_⟩;rw[yam.mp hb]at z;subst z;obtain ⟨p,hp,e⟩:=yaH.mp ha;exact c (List.any_eq_true.mpr ⟨p,hp,yah e⟩)
  ·rcases yao.mp hy with z | z
   ·exact h2 y z
   ·rw[yam.mp z];exact hx
theorem zfI:∀{l:List Key},(∀ y∈l,zhb y)→l.map kV=(l.map toI).map V.int
 | [],_=>rfl
 | x::l,h=>by
  obtain ⟨a,rfl,_⟩:=h x yaC;show V.int a::l.map kV=V.int a::(l.map toI).map V.int;rw[zfI fun y hy=>h y (yaD _ hy)]
theorem zh1:∀{l:List Key},l.Nodup→(∀ y∈l,zhb y)→(l.map toI).Nodup
 | [],_,_=>ybo
 | x::l,hn,h=>by
  rw[yax,ya0];have hc:=ya0.mp hn;refine ⟨fun z=>?_,zh1 hc.2 fun y hy=>h y (yaD _ hy)⟩;obtain ⟨y,hy,e⟩:=yaH.mp z;obtain ⟨a,rfl,_⟩:=h x yaC;obtain ⟨b,rfl,_⟩:=h y (yaD _ hy);have:b=a:=e;subst this;exact hc.1 hy
def zqm (K:Frag):Sp:=fun vs H Q _=>∃(d L:Addr) (m:Int),vs=[.ref d,.int m]∧(0≤m∧m≤40)∧LS K L d H∧
 ∀(a:Addr) (row:List Int) (H':Hp),H a=none→row.Pairwise (· < ·)→(∀ x∈row,-(10 ^ 60) < x∧x < 10 ^ 60)→(row.length:Int)≤m→H' a=some (.tup (row.map V.int))→Keep d H H'→LS K L d H'→Q (.ref a) H'
theorem zpy (T:Txt K mg)(qb8:DF K mg "_law_row" zho zf5)(qaa:FC P w K mg base 2 "_law_take" za9 (zdr K))(qb9:FC P w K mg base 3 "_law_key" ze0 (zno K)):FC P w K mg base 4 "_law_row" zf5 (zqm K):=by
 refine qb8.ok qbH (fun vs H Q E h=>?_) (fun f cdv A outer s H vs Q E hr h=>?_)
 ·obtain ⟨d,L,m,rfl,_⟩:=h;rfl
 obtain ⟨d,L,m,rfl,⟨hm0,hm1⟩,hs,q⟩:=h;refine ⟨_,(zah (zap (i:=2) qbH.nd rfl (Or.inl rfl) zhx)
   (zah (zaR PassesOwn.never rfl (zaW rfl T.qad (zaa (zax qaa hr (zaa (pv 0) (zaa (zao zaO (pv 1) zae) zad))) zad)) (zan (i:=3) qbH.nd rfl (Or.inl rfl)) (zaf (zft (zet hr) (pv 2) (zax qb9 hr (zaa (pv 0) zad)) zbR rfl)))
   (zaf (zat (zbi zdg rfl T.qbj boot_tuple (zaa (zam (zee Int) rfl T.qbg boot_sorted (zaa (zbi (zlg rfl) rfl T.qaY boot_list (zaa (pv 2) zad)) zad)) zad)))))),?_⟩
 intro g hg;have ngd:g≠d:=fun z=>by
  obtain ⟨_,_,_,e,_⟩:=hs.ex;rw[← z,hg]at e;cases e
 refine ⟨_,rfl,_,rfl,_,_,rfl,rfl,d,L,m+1,rfl,⟨by omega,by omega⟩,hs.of_new hg _,fun n H1 n0 n1 k1 s1=>⟨_,rfl,by omega,by omega,?_⟩⟩;refine zbc (n:=n.toNat) (fun i σ H2=>∃(kvs:List (Key×V)) (x3:Option V),σ=[some (.ref d),some (.int m),some (.ref g),x3]∧H2 g=some (.dK kvs)∧kvs.length≤i∧(kvs.map (·.1)).Nodup∧(∀ y∈kvs.map (·.1),zhb y)∧(∀ b o,b≠d→b≠g→H b=some o→H2 b=some o)∧LS K L d H2) ?_ ?_ ?_
 ·exact ⟨[],_,rfl,k1 g _ ngd zac,yaa _,ybo,fun y hy=>(by simp at hy),fun b o b1 b2 e=>k1 b o b1 (by rw[zai b2];exact e),s1⟩
 ·rintro i σ H2 hi ⟨kvs,x3,rfl,h2,hl,hn,hy,kk,s2⟩;refine ⟨_,rfl,_,rfl,d,L,rfl,s2,fun v H3 v0 v1 k3 s3=>?_⟩;have h3:H3 g=some (.dK kvs):=k3 g _ ngd h2;obtain ⟨p1,p2⟩:=zpm (v:=.bl true) hn hy (x:=.inl v) ⟨v,rfl,v0,v1⟩;refine ⟨g,_,rfl,DPut.k (k:=.inl v) (kvs:=kvs) h3 (zaq (by omega)),?_⟩;refine ⟨putK kvs (.inl v) (.bl true),_,rfl,zac,?_,p1,p2,?_,?_⟩
  ·have:=zc9 kvs (Sum.inl v:Key) (.bl true);omega
  ·intro b o b1 b2 e;rw[zai b2];exact k3 b o b1 (kk b o b1 b2 e)
  ·exact LS.put hs hg (fun b o b1 b2 e=>k3 b o b1 (kk b o b1 b2 e)) s3
 ·rintro σ H2 ⟨kvs,x3,rfl,h2,hl,hn,hy,kk,s2⟩;refine ⟨_,rfl,g,kvs,rfl,h2,fun l hl1=>?_⟩;have ei:kvs.map (fun kv=>kV kv.1)=((kvs.map (·.1)).map toI).map V.int:=by
   rw[← zfI hy,ybf];rfl
  rw[ei];have e1:=zag hl1 (.lst (((kvs.map (·.1)).map toI).map V.int));refine ⟨l,_,_,rfl,SqL.of zac,zar.ints,fun l2 ws hl2 hw=>?_⟩;rw[hw.toInts];have e2:=zag hl2 (.lst ((zds ((kvs.map (·.1)).map toI)).map V.int));refine ⟨l2,_,rfl,.inl ⟨SqL.of zac,fun a ha=>?_⟩⟩;have e3:=zag ha (.tup ((zds ((kvs.map (·.1)).map toI)).map V.int));have e13:=e1.trans (e2.trans e3);have free:H a=none:=by
   have z2:H2 a=none:=e1.free (e2.free ha);cases z:H a with
   | none=>rfl
   | some o=>
    by_cases c1:a=d
    ·obtain ⟨_,_,_,e,_⟩:=s2.ex;rw[← c1,z2]at e;cases e
    ·by_cases c2:a=g
     ·rw[c2,h2]at z2;cases z2
     ·rw[kk a o c1 c2 z]at z2;cases z2
  refine q a _ _ free ?_ (fun x hx=>?_) ?_ zac (fun b o b1 e=>e13 _ _ (kk b o b1 (zab e hg) e)) (s2.same e13)
  ·exact List.Pairwise.imp (fun {a b} (h:Srt.blt a b=true)=>yaE h) (zfr (zh1 hn hy))
  ·rw[zeE]at hx;obtain ⟨y,hy2,rfl⟩:=yaH.mp hx;obtain ⟨a,rfl,h1,h2⟩:=hy y hy2;exact ⟨h1,h2⟩
  ·rw[zcB,yab,yab];omega
def zov (K:Frag):Sp:=fun vs H Q _=>∃(d L:Addr) (n m:Nat),vs=[.ref d,.int n,.int m]∧n≤40∧m≤40∧LS K L d H∧
 ∀(r:Addr) (as:List Addr) (rows:List (List Int)) (H':Hp),H r=none→zaZ H' as rows→rows.length=n→za2 rows→(∀ row∈rows,row.length≤m)→H' r=some (.tup (as.map V.ref))→Keep d H H'→LS K L d H'→Q (.ref r) H'
theorem za2.snoc {rows:List (List Int)}{row:List Int}(R:za2 rows)(h1:row.Pairwise (· < ·))(h2:∀ x∈row,-(10 ^ 60) < x∧x < 10 ^ 60):za2 (rows++[row]):=by
 refine ⟨fun r hr=>?_,fun r hr=>?_⟩
 ·rcases yao.mp hr with z | z
  ·exact R.up r z
  ·rw[yam.mp z];exact h1
 ·rcases yao.mp hr with z | z
  ·exact R.key r z
  ·rw[yam.mp z];exact h2
theorem znM (T:Txt K mg)(qbQ:DF K mg "_law_rows" zfW zeZ)(qaa:FC P w K mg base 2 "_law_take" za9 (zdr K))(qcT:FC P w K mg base 4 "_law_row" zf5 (zqm K)):FC P w K mg base 5 "_law_rows" zeZ (zov K):=by
 refine qbQ.ok qat (fun vs H Q E h=>?_) (fun f cdv A outer s H vs Q E hr h=>?_)
 ·obtain ⟨d,L,n,m,rfl,_⟩:=h;rfl
 obtain ⟨d,L,n,m,rfl,hn,hm,hs,q⟩:=h;refine ⟨_,(zah (zap (i:=3) qat.nd rfl (Or.inl rfl) (zaG zad))
   (zah (zaR PassesOwn.never rfl (zaW rfl T.qad (zaa (pv 1) zad)) (zan (i:=4) qat.nd rfl (Or.inl rfl)) (zah (zap (i:=5) qat.nd rfl (Or.inl rfl) (zax qcT hr (zaa (pv 0) (zaa (pv 2) zad))))
   (za3 (zbk (zau zcO (zax qaa hr (zaa (pv 0) (zaa zae zad))) zae (zaA _)) (zaf (zap (i:=5) qat.nd rfl (Or.inl rfl) (zbu zad))) zaB)
   (za3 (zbk (PW.pt (zh9 (zau znD (pv 4) zae (zaA _)) (zgd (zau zcO (zax qaa hr (zaa (pv 0) (zaa zae zad))) zae (zaA _))))) (zaf (zap (i:=5) qat.nd rfl (Or.inl rfl) (zay zaz (pv 3) (zao zbb (pv 4) zae) (fun _ _=>rfl)))) zaB)
   (zaf (zbv (zep F.plainAttrs_list F.slot_list_append F.type_list_append zaQ (pv 3) (zaa (pv 5) zad))))))))
   (zaf (zat (zbi zdg rfl T.qbj boot_tuple (zaa (pv 3) zad)))))),?_⟩
 refine ⟨(by show 0≤sizeLine;decide),fun p hp=>?_⟩;have g0:=zag hp (.lst []);have ndT:∀{H':Hp} {a:Addr} {o:List V},LS K L d H'→H' a=some (.tup o)→a≠d:=fun {H' a o} s e z=>by
  obtain ⟨_,_,_,e2,_⟩:=s.ex;rw[← z,e]at e2;cases e2
 have nd:∀{H':Hp} {a:Addr},LS K L d H'→H' a=none→a≠d:=fun {H' a} s e z=>by
  obtain ⟨_,_,_,e2,_⟩:=s.ex;rw[← z,e]at e2;cases e2
 have hpd:p≠d:=nd hs hp;refine ⟨_,rfl,_,rfl,by omega,by omega,?_⟩;rw[ya9];refine zbc (n:=n) (fun i σ H2=>∃(as:List Addr) (rows:List (List Int)) (x4 x5:Option V),σ=[some (.ref d),some (.int n),some (.int m),some (.ref p),x4,x5]∧H2 p=some (.lst (as.map V.ref))∧zaZ H2 as rows∧rows.length=i∧za2 rows∧(∀ row∈rows,row.length≤m)∧(∀ b o,b≠d→b≠p→H b=some o→H2 b=some o)∧LS K L d H2) ?_ ?_ ?_
 ·exact ⟨[],[],_,_,rfl,zac,.nil,rfl,⟨(fun r hr=>nomatch hr),(fun r hr=>nomatch hr)⟩,(fun r hr=>nomatch hr),fun b o _ n e=>g0 b o e,hs.same g0⟩
 ·rintro i σ H2 hi ⟨as,rows,x4,x5,rfl,h2,hA,hl,hR,hlen,k2,s2⟩;rw[ybg];have hal:=hA.length;have old:∀{H3:Hp} {b:Addr} {o:HO},(∀ b o,b≠d→H2 b=some o→H3 b=some o)→b≠d→b≠p→H b=some o→H3 b=some o:=fun k n1 n2 e=>k _ _ n1 (k2 _ _ n1 n2 e);refine ⟨_,rfl,_,rfl,d,L,m,rfl,⟨by omega,by omega⟩,s2,fun a row H3 ha hup hky hlr h3 k3 s3=>?_⟩;refine ⟨fun σ' H'=>∃(a:Addr) (row:List Int),σ'=[some (.ref d),some (.int n),some (.int m),some (.ref p),some (.int i),some (.ref a)]∧H' a=some (.tup (row.map V.int))∧row.Pairwise (· < ·)∧(∀ x∈row,-(10 ^ 60) < x∧x < 10 ^ 60)∧row.length≤m∧(∀ b o,b≠d→H2 b=some o→H' b=some o)∧LS K L d H',?_,?_⟩
  ·refine ⟨_,rfl,d,L,4,rfl,by decide,s3,fun v H4 _ _ k4 s4=>⟨rfl,_,rfl,?_⟩⟩;have h4:=k4 _ _ (ndT s3 h3) h3;refine ite2 (fun _=>?_) (fun _=>?_)
   ·refine ⟨(by show 0≤sizeLine;decide),fun u hu=>?_⟩;have su:=zag hu (.tup []);exact ⟨u,[],rfl,zac,.nil,(fun x hx=>nomatch hx),yaF _,fun b o n1 e=>su _ _ (k4 _ _ n1 (k3 _ _ n1 e)),s4.same su⟩
   ·exact ⟨a,row,rfl,h4,hup,hky,by omega,fun b o n1 e=>k4 _ _ n1 (k3 _ _ n1 e),s4⟩
  rintro σ' H4 ⟨a,row,rfl,h4,hup,hky,hlr,k4,s4⟩;refine ⟨fun σ' H'=>∃(a:Addr) (row:List Int),σ'=[some (.ref d),some (.int n),some (.int m),some (.ref p),some (.int i),some (.ref a)]∧H' a=some (.tup (row.map V.int))∧row.Pairwise (· < ·)∧(∀ x∈row,-(10 ^ 60) < x∧x < 10 ^ 60)∧row.length≤m∧(∀ b o,b≠d→H2 b=some o→H' b=some o)∧LS K L d H',?_,?_⟩
  ·refine ⟨_,rfl,_,_,rfl,rfl,_,rfl,?_⟩;refine ite2 (fun c=>?_) (fun c=>?_)
   ·have c':(0:Int) < (i:Int):=yaE c;refine ⟨_,rfl,d,L,4,rfl,by decide,s4,fun v H5 _ _ k5 s5=>⟨rfl,_,rfl,?_⟩⟩;have h5:=k5 _ _ (ndT s4 h4) h4;refine ite2 (fun _=>?_) (fun _=>?_)
    ·have h5p:H5 p=some (.lst (as.map V.ref)):=k5 _ _ hpd (k4 _ _ hpd h2);obtain ⟨b,hb1,hb2⟩:=hA.get (k:=i - 1) (by omega);have hb5:=k5 _ _ (ndT s4 (k4 _ _ (ndT s2 hb2) hb2)) (k4 _ _ (ndT s2 hb2) hb2);have hat:atI (as.map V.ref) ((i:Int) - 1)=some (.ref b):=by
      rw[show (i:Int) - 1=((i - 1:Nat):Int) by omega];exact zdI hb1
     refine ⟨_,rfl,_,rfl,_,_,rfl,rfl,_,_,_,_,rfl,rfl,SqL.of h5p,hat,?_⟩;have hmem:zbx rows (i - 1)∈rows:=by
      unfold zbx;rw[yad,yac (show i - 1 < rows.length by omega)];exact yay _
     exact ⟨b,zbx rows (i - 1),rfl,hb5,hR.up _ hmem,hR.key _ hmem,hlen _ hmem,fun b o n1 e=>k5 _ _ n1 (k4 _ _ n1 e),s5⟩
    ·exact ⟨a,row,rfl,h5,hup,hky,hlr,fun b o n1 e=>k5 _ _ n1 (k4 _ _ n1 e),s5⟩
   ·refine iteF ?_;exact ⟨a,row,rfl,h4,hup,hky,hlr,k4,s4⟩
  rintro σ' H5 ⟨a,row,rfl,h5,hup,hky,hlr,k5,s5⟩;have h5p:H5 p=some (.lst (as.map V.ref)):=k5 _ _ hpd h2;have keep:∀ b o,b≠p→H5 b=some o→upd H5 p (.lst (as.map V.ref++[.ref a])) b=some o:=fun b o n e=>by rw[zai n];exact e
  have ntp:∀{b:Addr} {o:List V},H5 b=some (.tup o)→b≠p:=fun {b o} e z=>by
   rw[z,h5p]at e;cases e
  refine ⟨_,rfl,.inl ⟨rfl,_,SqL.of h5p⟩,_,rfl,_,_,_,rfl,rfl,h5p,zaq (by rw[yab];omega),?_⟩;refine ⟨as++[a],rows++[row],_,_,rfl,?_,?_,by rw[yak,yaL,hl],hR.snoc hup hky,fun r hr=>?_,fun b o n1 n2 e=>keep _ _ n2 (k5 _ _ n1 (k2 _ _ n1 n2 e)),?_⟩
  ·rw[zac,yai];rfl
  ·refine zaZ.snoc ?_ (keep _ _ (ntp h5) h5);have hA5:zaZ H5 as rows:=zaZ.keep (p:=d) (fun a row e=>ndT s2 e) k5 hA;exact zaZ.keep (p:=p) (d:=p) (fun a row e=>ntp e) keep hA5
  ·rcases yao.mp hr with z | z
   ·exact hlen r z
   ·rw[yam.mp z];exact hlr
  ·exact LS.put hs hp (fun b o n1 n2 e=>k5 _ _ n1 (k2 _ _ n1 n2 e)) s5
 ·rintro σ H2 ⟨as,rows,x4,x5,rfl,h2,hA,hl,hR,hlen,k2,s2⟩;refine ⟨_,rfl,p,_,rfl,.inl ⟨SqL.of h2,fun t ht=>?_⟩⟩;have sn:=zag ht (.tup (as.map V.ref));have ht0:H t=none:=by
   cases e:H t with
   | none=>rfl
   | some o=>
    have:=k2 t o (nd s2 ht) (Ne.symm (zab h2 ht)) e;rw[ht]at this;cases this
  exact q t as rows _ ht0 (hA.ext sn) hl hR hlen zac (fun b o n e=>sn _ _ (k2 b o n (zab e hp) e)) (s2.same sn)
abbrev En:=Int×Int
def zer (k:Nat)(es:List En):Nat:=(es.filter fun e=>decide (e.2=(k:Int))).length
def znB (k:Nat)(es:List En):List Nat:=(List.range (es.length+1)).map fun p=>zer k (es.take p)
def zql (cs:List En)(s:Nat)(e:En):Nat:=if e∈cs then cs.idxOf e+1 else s
def stN (cs es:List En):Nat:=es.foldl (zql cs) 0
def zhg (es cs:List En):List Nat:=(List.range (es.length+1)).map fun p=>stN cs (es.take p)
def inN (cs es:List En):Nat:=(es.filter fun e=>decide (e∈cs)).length
theorem zgR {l:List En}(h:Rise l):l.Nodup:=List.Pairwise.imp (fun {a b} (q:pLt a b=true) z=>by
 subst z;have:=zcN.mp q;omega) h
theorem ziT {l m:List En}(h1:Rise l)(h2:Rise m)(h:∀ e,e∈l↔e∈m):l=m:=by
 refine List.Perm.eq_of_pairwise (le:=fun a b=>pLt a b=true) (fun a b _ _ q1 q2=>?_) h1 h2 ((List.perm_ext_iff_of_nodup (zgR h1) (zgR h2)).mpr h);have:=zcN.mp q1;have:=zcN.mp q2;omega
theorem zfg {ps:List Nat}(T:zaC ps){rows:List (List Int)}{k:Nat}(hk:k < ps.length+1){e:En}:e∈zak ps rows k↔e∈ownE rows k∨∃ c,par ps c=some k∧e∈zbP (zak ps rows c):=by
 rw[zcL T hk,zeE,ycm];unfold zei;constructor
 ·rintro ⟨l,hl,he⟩;rcases yao.mp hl with q | q
  ·obtain ⟨c,hc,rfl⟩:=yaH.mp q;exact .inr ⟨c,(zaE.mp hc).2,he⟩
  ·rw[yam.mp q]at he;exact .inl he
 ·rintro (h | ⟨c,hc,h⟩)
  ·exact ⟨_,yao.mpr (.inr (yam.mpr rfl)),h⟩
  ·exact ⟨_,yao.mpr (.inl (yaH.mpr ⟨c,zaE.mpr ⟨(zaP T hc).2,hc⟩,rfl⟩)),h⟩
theorem zoi {ps:List Nat}(T:zaC ps){rows:List (List Int)}(R:za2 rows){k c:Nat}(hk:k < ps.length+1)(hc:par ps c=some k){e:En}:(e∈zak ps rows k∧e∈zak ps rows c)↔e∈zbP (zak ps rows c):=by
 have hcn:=(zaP T hc).2;constructor
 ·rintro ⟨h1,h2⟩;obtain ⟨j,g1,g2,g3,_⟩:=zeb T R hcn e h2;rcases (zfg T hk).mp h1 with h | ⟨d,hd,h⟩
  ·have h4:=(zib hk h).2;have:j=k:=by omega
   subst this;rw[zfe T (zaP T hc).1]at g2;cases g2
  ·by_cases z:d=c
   ·rw[z]at h;exact h
   ·obtain ⟨i,_,f2,f3,_⟩:=zeb T R (zaP T hd).2 e ((zaY _).mem h);have:i=j:=by omega
    subst this;exact (zdD T hd hc z i i (yaa _) f2 g2).elim
 ·intro h;exact ⟨(zfg T hk).mpr (.inr ⟨c,hc,h⟩),(zaY _).mem h⟩
theorem zm2 {ps:List Nat}(T:zaC ps){rows:List (List Int)}(R:za2 rows){k c:Nat}(hk:k < ps.length+1)(hc:par ps c=some k):((zak ps rows k).filter fun e=>decide (e∈zak ps rows c))=zbP (zak ps rows c):=by
 refine ziT (List.Pairwise.filter _ (zaV T R hk)) ((zaV T R (zaP T hc).2).sublist (zaY _)) fun e=>?_;rw[ybd,decide_eq_true_eq];exact zoi T R hk hc
theorem zkJ {l:List En}{p:Nat}(h:p < l.length):l.take (p+1)=l.take p++[l[p]]:=yaB h
theorem zkS (k:Nat)(es:List En)(e:En):zer k (es++[e])=zer k es+if e.2=(k:Int) then 1 else 0:=by
 unfold zer;rw[ya6,yak];congr 1;by_cases h:e.2=(k:Int)
 ·rw[if_pos h,ya5 (by exact yah h)];rfl
 ·rw[if_neg h,ybj (by rw[yaq h];decide)];rfl
theorem zn5 (cs es:List En)(e:En):inN cs (es++[e])=inN cs es+if e∈cs then 1 else 0:=by
 unfold inN;rw[ya6,yak];congr 1;by_cases h:e∈cs
 ·rw[if_pos h,ya5 (by exact yah h)];rfl
 ·rw[if_neg h,ybj (by rw[yaq h];decide)];rfl
theorem zjC (cs es:List En)(e:En):stN cs (es++[e])=if e∈cs then cs.idxOf e+1 else stN cs es:=by
 unfold stN;rw[List.foldl_append];rfl
def spL (es:List En):List Nat:=(List.range es.length).filter fun j=>(zbe es).getD j false
theorem zjF (es:List En):zdJ (zbe es) (spL es):=by
 have:=znn (zbe es);rw[zbh]at this;exact this
theorem zgZ {es:List En}{ms:List Bool}(hl:es.length=ms.length):∀ i,i≤ms.length→zcc (es.take i) (ms.take i)=((List.range i).filter fun j=>ms.getD j false).map fun j=>es.getD j (0,0)
 | 0,_=>rfl
 | i+1,h=>by
  have ft:((List.range (i+1)).filter fun j=>ms.getD j false)=((List.range i).filter fun j=>ms.getD j false)++(if ms.getD i false=true then [i] else []):=by
   rw[ybu,ya6];congr 1;by_cases h:ms.getD i false=true
   ·rw[if_pos h,ya5 (p:=fun j=>ms.getD j false) (a:=i) h];rfl
   ·rw[if_neg h,ybj (p:=fun j=>ms.getD j false) (a:=i) h];rfl
  rw[zeA (show i < es.length by omega),zeA (show i < ms.length by omega),zgn (by rw[yaj,yaj];omega),zgZ hl i (by omega),ft,yai];congr 1;have e:ms.getD i false=ms[i]'(by omega):=by
   rw[yad,yac (show i < ms.length by omega)];rfl
  rw[e];split
  ·rw[List.map_singleton,yad,yac (show i < es.length by omega)];rfl
  ·rfl
theorem zg0 (es:List En):zbP es=(spL es).map fun j=>es.getD j (0,0):=by
 have hl:=zbh es;have:=zgZ (es:=es) (ms:=zbe es) hl.symm (zbe es).length (yaa _);rw[yap (yaa _),yap (by omega),hl]at this;exact this
def stAt (sp:List Nat)(t:Nat):Nat:=if t=0 then 0 else sp.getD (t - 1) 0+1
theorem zmI {l:List En}(h:l.Nodup){j:Nat}(hj:j < l.length):l.idxOf (l.getD j (0,0))=j:=by
 rw[yad,yac hj];exact List.Nodup.idxOf_getElem h j hj
theorem zje {P:En→Bool}:∀(l:List En) (p:Nat),(l.take p).filter P=(l.filter P).take ((l.take p).filter P).length:=by
 intro l p;have e:l.filter P=(l.take p).filter P++(l.drop p).filter P:=by rw[← ya6,ya2]
 rw[e,List.take_append_of_le_length (yaa _),yap (yaa _)]
theorem zqk {ps:List Nat}(T:zaC ps){rows:List (List Int)}(R:za2 rows){k c:Nat}(hk:k < ps.length+1)(hc:par ps c=some k):∀ p,p≤(zak ps rows k).length→stN (zak ps rows c) ((zak ps rows k).take p)=stAt (spL (zak ps rows c)) (inN (zak ps rows c) ((zak ps rows k).take p))
 | 0,_=>rfl
 | p+1,h=>by
  have ih:=zqk T R hk hc p (by omega);have hp:p < (zak ps rows k).length:=by omega
  have hft:=zje (P:=fun e=>decide (e∈zak ps rows c)) (zak ps rows k) (p+1);rw[zm2 T R hk hc]at hft;rw[zkJ hp]at hft ⊢;rw[zjC,zn5];by_cases z:(zak ps rows k)[p]∈zak ps rows c
  ·rw[if_pos z,if_pos z];unfold stAt;rw[if_neg (by omega),ybN];congr 1;rw[ya6,ya5 (by exact yah z),List.filter_nil,yak,yaL]at hft;have hin:((zak ps rows k).take p |>.filter fun e=>decide (e∈zak ps rows c)).length=inN (zak ps rows c) ((zak ps rows k).take p):=rfl;generalize inN (zak ps rows c) ((zak ps rows k).take p)=t at hin ⊢;have hg:(zbP (zak ps rows c))[t]?=some (zak ps rows k)[p]:=by
    have h2:(((zak ps rows k).take p |>.filter fun e=>decide (e∈zak ps rows c))++[(zak ps rows k)[p]])[t]?=some (zak ps rows k)[p]:=by
     rw[ya7 (by omega),hin,yb1];rfl
    rw[hft,ybH]at h2;split at h2
    ·exact h2
    ·cases h2
   rw[zg0,yal]at hg;obtain ⟨j,hj,he⟩:=ybh.mp hg;have hjl:j < (zak ps rows c).length:=by
    have:=(zjF (zak ps rows c)).lt (yaO hj);rw[zbh]at this;exact this
   rw[← he,zmI (zeu T R (zaP T hc).2) hjl,yad,hj];rfl
  ·rw[if_neg z,if_neg z,ybq];exact ih
theorem zpf {es:List En}(he:∀ e∈es,zex 64 e)(hri:Rise es){t:Nat}(ht:t < (spL es).length):stAt (spL es) (t+1)=stAt (spL es) t+2∨stAt (spL es) (t+1)=stAt (spL es) t+3:=by
 have M:=zii he hri;have S:=zjF es;have g:∀ i (h:i < (spL es).length),(spL es).getD i 0=(spL es)[i]:=fun i h=>by
  rw[yad,yac h];rfl
 unfold stAt;rw[if_neg (by omega),ybN];by_cases z:t=0
 ·subst z;rw[if_pos rfl,g 0 ht];have hlen:2≤(zbe es).length:=by
   refine ybC fun y=>?_;have:=S.none M (by omega);rw[this]at ht;simp at ht
  obtain ⟨_,h1,h2⟩:=S.first M hlen;omega
 ·rw[if_neg z,g t ht,g (t - 1) (by omega)];have:=S.step M (t:=t - 1) (by omega);have e:t - 1+1=t:=by omega
  have e2:(spL es)[t - 1+1]'(by omega)=(spL es)[t]:=by congr 1
  rw[e2]at this;omega
theorem zpe {es:List En}(he:∀ e∈es,zex 64 e)(hri:Rise es):stAt (spL es) (spL es).length≤es.length∧es.length≤stAt (spL es) (spL es).length+1:=by
 have M:=zii he hri;have S:=zjF es;have hl:=zbh es;unfold stAt;by_cases z:(spL es).length=0
 ·rw[if_pos z];refine ⟨yaF _,?_⟩;refine ybC fun y=>?_;obtain ⟨h,_⟩:=S.first M (by omega);omega
 ·have g:(spL es).getD ((spL es).length - 1) 0=(spL es)[(spL es).length - 1]'(by omega):=by
   rw[yad,yac (by omega)];rfl
  rw[if_neg z,g];have h1:=S.lt (yay (show (spL es).length - 1 < (spL es).length by omega));refine ⟨by omega,?_⟩;have hlen:2≤(zbe es).length:=ybC fun y=>z (by rw[S.none M y];rfl);have h2:=S.last M hlen (by omega);omega
theorem zd9 {f:Nat→Nat}{i:Nat}:((List.range (i+1)).map f).map nV=(((List.range i).map f)++[f i]).map nV:=by
 rw[ybu,yai];rfl
theorem zjo {us:List Nat}{c:Nat}:atI ((us++[c]).map nV) (-1)=some (nV c):=by
 unfold atI ixN;rw[yai];simp;rw[if_pos (by omega)];show (List.map nV us++[nV c])[(-1+((us.length:Int)+1)).toNat]?=_;rw[show (-1+((us.length:Int)+1)).toNat=us.length by omega,ya7 (by rw[yab];exact yaa _),yab,yb1];rfl
def zow (K:Frag):Sp:=fun vs H Q _=>∃(a:Addr) (ws:List V) (es:List En) (k:Nat),vs=[.ref a,.int k]∧H a=some (.lst ws)∧zar K H es ws∧es.length≤900∧
 ∀(p:Addr) (H':Hp),H p=none→Same H H'→H' p=some (.lst ((znB k es).map nV))→Q (.ref p) H'
theorem zpu (T:Txt K mg)(qbq:DF K mg "owns_of" zeF zdT):FC P w K mg base 1 "owns_of" zdT (zow K):=by
 refine qbq.ok qa2 (fun vs H Q E h=>?_) (fun f cdv A outer s H vs Q E hr h=>?_)
 ·obtain ⟨a,ws,es,k,rfl,_⟩:=h;rfl
 obtain ⟨a,ws,es,k,rfl,ha,hw,hz,q⟩:=h;have hwl:=hw.length;refine ⟨_,(zah (zap (i:=2) qa2.nd rfl (Or.inl rfl) (zaG (zaa zae zad)))
   (zah (zaR PassesOwn.never rfl (zbq (pv 0)) (zan (i:=3) qa2.nd rfl (Or.inl rfl)) (zaf (zbv (zep F.plainAttrs_list F.slot_list_append F.type_list_append zaQ (pv 2) (zaa (zjW (zau zcO (zay zaN (pv 3) zae (fun _ _=>rfl)) (pv 1) (zaA _)) (zao zaO (zay zaz (pv 2) (zgG zeg zae) (fun _ _=>rfl)) zae) (zay zaz (pv 2) (zgG zeg zae) (fun _ _=>rfl))) zad)))))
   (zaf (zat (pv 2))))),?_⟩
 refine ⟨(by show 1≤sizeLine;decide),fun p hp=>?_⟩;have k0:But p H (upd H p (.lst [V.int 0])):=fun b o n e=>by rw[zai n];exact e
 have nap:a≠p:=zab ha hp;refine ⟨_,rfl,a,rfl,⟨_,SqL.of (k0 _ _ nap ha)⟩,?_⟩;refine zcM (xs:=ws) (fun i σ H2=>∃ x3:Option V,σ=[some (.ref a),some (.int k),some (.ref p),x3]∧H2 p=some (.lst (((List.range (i+1)).map fun p=>zer k (es.take p)).map nV))∧But p H H2) ?_ ?_ ?_ ?_
 ·exact ⟨_,rfl,zac,k0⟩
 ·rintro i σ H2 _ ⟨x3,rfl,_,k2⟩;exact SqL.of (k2 _ _ nap ha)
 ·rintro i x σ H2 hx ⟨x3,rfl,h2,k2⟩;obtain ⟨e,he,hhas⟩:=hw.get hx;obtain ⟨b,y1,y2,rfl,hb,hy1,hy2⟩:=(show hasP K H e x from hhas);have hy1:y1=.int e.1:=hy1;have hy2:y2=.int e.2:=hy2;subst hy1 hy2;have h2b:=k2 _ _ (zab hb hp) hb;have hi:=(yaf.mp he).1;have htk:es.take (i+1)=es.take i++[e]:=by
   rw[yaB hi,(yaf.mp he).2]
  have hon:=zkS k (es.take i) e;rw[← htk]at hon;rw[zd9]at h2;have hlen:((((List.range i).map fun p=>zer k (es.take p))++[zer k (es.take i)]).map nV).length < sizeLine:=zaq (by
   rw[yab,yak,yab,yaX,yaL];omega)
  have fin:∀ v:Nat,v=zer k (es.take (i+1))→upd H2 p (.lst ((((List.range i).map fun p=>zer k (es.take p))++[zer k (es.take i)]).map nV++[nV v])) p=some (.lst (((List.range (i+1+1)).map fun p=>zer k (es.take p)).map nV)):=fun v hv=>by
   rw[zac,zd9,yai (l₂:=[zer k (es.take (i+1))]),zd9,hv];rfl
  refine ⟨_,rfl,.inl ⟨rfl,_,SqL.of h2⟩,?_⟩;refine ⟨_,rfl,_,_,_,_,rfl,rfl,SqT.of h2b,rfl,_,rfl,rfl,_,rfl,?_⟩;refine ite2 (fun c=>?_) (fun c=>?_)
  ·have c':e.2=(k:Int):=V.int.inj (yaE c);rw[if_pos c']at hon;refine ⟨_,rfl,_,rfl,_,_,_,_,rfl,rfl,SqL.of h2,zjo,_,_,rfl,rfl,_,_,_,rfl,rfl,h2,hlen,?_⟩;refine ⟨_,rfl,?_,fun b o n e=>by rw[zai n];exact k2 b o n e⟩;have:=fin (zer k (es.take i)+1) hon.symm;rw[← this];rfl
  ·have c':¬ e.2=(k:Int):=fun z=>c (by rw[z];exact yah rfl);rw[if_neg c',ybq]at hon;refine ⟨_,rfl,_,rfl,_,_,_,_,rfl,rfl,SqL.of h2,zjo,_,_,_,rfl,rfl,h2,hlen,?_⟩;exact ⟨_,rfl,fin _ hon.symm,fun b o n e=>by rw[zai n];exact k2 b o n e⟩
 ·rintro σ H2 ⟨x3,rfl,h2,k2⟩;refine ⟨_,rfl,?_⟩;rw[← hwl]at h2;exact q p H2 hp (fun b o e=>k2 b o (zab e hp) e) h2
def kvT:Nat→List En→List (List Key×V)
 | _,[]=>[]
 | o,e::es=>([.inl e.1,.inl e.2],nV (o+1))::kvT (o+1) es
abbrev kE (e:En):List Key:=[.inl e.1,.inl e.2]
theorem zq9 {e f:En}(h:kE e=kE f):e=f:=by
 obtain ⟨a,b⟩:=e;obtain ⟨c,d⟩:=f;injection h with h1 h2;injection h2 with h2 _;have h1:a=c:=Sum.inl.inj h1;have h2:b=d:=Sum.inl.inj h2;rw[h1,h2]
theorem zi7 (e:En):∀(o:Nat) (es:List En),valV (kvT o es) (kE e)=if e∈es then some (nV (o+es.idxOf e+1)) else none
 | _,[]=>rfl
 | o,f::es=>by
  show valV ((kE f,nV (o+1))::kvT (o+1) es) (kE e)=_;by_cases z:f=e
  ·subst z;rw[zcA rfl,if_pos yaC,List.idxOf_cons_self]
  ·rw[zbB (fun y=>z (zq9 y)),zi7 e (o+1) es];have hm:(e∈f::es)=(e∈es):=propext ⟨fun h=>(yat.mp h).resolve_left fun y=>z y.symm,fun h=>yaD _ h⟩;by_cases y:e∈es
   ·have ei:(f::es).idxOf e=es.idxOf e+1:=by
     rw[List.idxOf_cons,beq_false_of_ne z];rfl
    rw[if_pos y,if_pos (by rw[hm];exact y),ei];congr 2;have:o+1+es.idxOf e+1=o+(es.idxOf e+1)+1:=by omega
    rw[this]
   ·rw[if_neg y,if_neg (by rw[hm];exact y)]
theorem zkf (e:En):∀(o:Nat) (es:List En),kvT o (es++[e])=kvT o es++[(kE e,nV (o+es.length+1))]
 | _,[]=>rfl
 | o,f::es=>by
  show (kE f,nV (o+1))::kvT (o+1) (es++[e])=(kE f,nV (o+1))::(kvT (o+1) es++_);rw[zkf e (o+1) es,yaI,show o+1+es.length+1=o+(es.length+1)+1 by omega]
theorem zmu:∀(o:Nat) (es:List En),(kvT o es).length=es.length
 | _,[]=>rfl
 | o,e::es=>by
  show (kvT (o+1) es).length+1=es.length+1;rw[zmu (o+1) es]
def zjD (K:Frag):Sp:=fun vs H Q _=>∃(a c:Addr) (ws vs':List V) (es cs:List En),vs=[.ref a,.ref c]∧H a=some (.lst ws)∧zar K H es ws∧es.length≤900∧H c=some (.lst vs')∧zar K H cs vs'∧cs.length≤900∧cs.Nodup∧
 ∀(p:Addr) (H':Hp),H p=none→Same H H'→H' p=some (.lst ((zhg es cs).map nV))→Q (.ref p) H'
theorem zl7 (T:Txt K mg)(qaS:DF K mg "starts_of" zcZ zcG):FC P w K mg base 1 "starts_of" zcG (zjD K):=by
 refine qaS.ok qai (fun vs H Q E h=>?_) (fun f cdv A outer s H vs Q E hr h=>?_)
 ·obtain ⟨a,c,ws,us,es,cs,rfl,_⟩:=h;rfl
 obtain ⟨a,c,ws,us,es,cs,rfl,ha,hw,hz,hc,hu,hzc,hnd,q⟩:=h;have hwl:=hw.length;have hul:=hu.length;refine ⟨_,(zah (zap (i:=2) qai.nd rfl (Or.inl rfl) znx)
   (zah (zaR PassesOwn.never rfl (zdw rfl T.qaM (zaa (pv 1) zad)) (zge rfl (za5 (zan (i:=3) qai.nd rfl (Or.inl rfl)) (za5 (zan (i:=4) qai.nd rfl (Or.inl rfl)) zdx))) (zaf (zft (zet hr) (pv 2) (pv 4) (zao zaO (pv 3) zae) rfl)))
   (zah (zap (i:=5) qai.nd rfl (Or.inl rfl) (zaG (zaa zae zad)))
   (zah (zaR PassesOwn.never rfl (zbq (pv 0)) (zan (i:=4) qai.nd rfl (Or.inl rfl)) (zaf (zbv (zep F.plainAttrs_list F.slot_list_append F.type_list_append zaQ (pv 5) (zaa (zny (zet hr) (pv 2) (pv 4) (zay zaz (pv 5) (zgG zeg zae) (fun _ _=>rfl)) ⟨rfl,rfl,rfl,rfl⟩) zad)))))
   (zaf (zat (pv 5))))))),?_⟩
 intro D hD;have k0:But D H (upd H D (.dT [])):=fun b o n e=>by rw[zai n];exact e
 have naD:a≠D:=zab ha hD;have ncD:c≠D:=zab hc hD;refine ⟨_,rfl,c,rfl,⟨_,SqL.of (k0 _ _ ncD hc)⟩,?_⟩;refine zhO (xs:=us) (fun i σ H2=>∃ x3 x4:Option V,σ=[some (.ref a),some (.ref c),some (.ref D),x3,x4,none]∧H2 D=some (.dT (kvT 0 (cs.take i)))∧But D H H2) ?_ ?_ ?_ ?_
 ·exact ⟨_,_,rfl,zac,k0⟩
 ·rintro i σ H2 _ ⟨x3,x4,rfl,_,k2⟩;exact SqL.of (k2 _ _ ncD hc)
 ·rintro i x σ H2 r hx ⟨x3,x4,rfl,h2,k2⟩ hr;obtain ⟨e,he,hhas⟩:=hu.get hx;obtain ⟨b,y1,y2,rfl,hb,hy1,hy2⟩:=(show hasP K H e x from hhas);have hy1:y1=.int e.1:=hy1;have hy2:y2=.int e.2:=hy2;subst hy1 hy2;have hi:=(yaf.mp he).1;have htk:cs.take (i+1)=cs.take i++[e]:=by
   rw[yaB hi,(yaf.mp he).2]
  refine ⟨r,_,rfl,SqT.of zac,rfl,_,_,rfl,_,_,rfl,rfl,?_⟩;have sr:=zag hr (.tup [.int (i:Int),.ref b]);have h3:=sr _ _ h2;have k3:But D H (upd H2 r (.tup [.int (i:Int),.ref b])):=fun b o n e=>sr b o (k2 b o n e);clear sr;generalize upd H2 r (.tup [.int (i:Int),.ref b])=H3 at h3 k3 ⊢;have h3b:=k3 _ _ (zab hb hD) hb;have hnot:e∉cs.take i:=fun z=>by
   have hn2:=hnd;rw[← ya2 (i+1) cs,htk]at hn2;have:=(ybv.mp (ybv.mp hn2).1).2.2 e z e (yam.mpr rfl);exact this rfl
  refine ⟨_,rfl,_,_,rfl,rfl,_,rfl,_,rfl,D,_,rfl,DPut.t (k:=kE e) h3 h3b (zaq (by rw[zmu,yaj];omega)),?_⟩;refine ⟨_,_,rfl,?_,fun b o n e=>by rw[zai n];exact k3 b o n e⟩;rw[zac,zeV _ (by rw[zi7,if_neg hnot]),htk,zkf,yaj,ybr (by omega),ybG];rfl
 ·rintro σ H2 ⟨x3,x4,rfl,h2,k2⟩;rw[yap (by omega)]at h2;refine ⟨(by show 1≤sizeLine;decide),fun p hp=>?_⟩;have nDp:D≠p:=zab h2 hp;have s2:Same H H2:=fun b o e=>k2 b o (zab e hD) e;have k3:But p H2 (upd H2 p (.lst [V.int 0])):=fun b o n e=>by rw[zai n];exact e
  have h2a:=s2 _ _ ha;refine ⟨_,rfl,a,rfl,⟨_,SqL.of (k3 _ _ (zab h2a hp) h2a)⟩,?_⟩;refine zcM (xs:=ws) (fun i σ H4=>∃ x4:Option V,σ=[some (.ref a),some (.ref c),some (.ref D),x3,x4,some (.ref p)]∧H4 p=some (.lst (((List.range (i+1)).map fun p=>stN cs (es.take p)).map nV))∧But p H2 H4) ?_ ?_ ?_ ?_
  ·exact ⟨_,rfl,zac,k3⟩
  ·rintro i σ H4 _ ⟨x4,rfl,_,k4⟩;exact SqL.of (k4 _ _ (zab h2a hp) h2a)
  ·rintro i x σ H4 hx ⟨x4,rfl,h4,k4⟩;obtain ⟨e,he,hhas⟩:=hw.get hx;obtain ⟨b,y1,y2,rfl,hb,hy1,hy2⟩:=(show hasP K H e x from hhas);have hy1:y1=.int e.1:=hy1;have hy2:y2=.int e.2:=hy2;subst hy1 hy2;have h2b:=s2 _ _ hb;have h4b:=k4 _ _ (zab h2b hp) h2b;have h4D:=k4 _ _ nDp h2;have hi:=(yaf.mp he).1;have htk:es.take (i+1)=es.take i++[e]:=by
    rw[yaB hi,(yaf.mp he).2]
   have hon:=zjC cs (es.take i) e;rw[← htk]at hon;rw[zd9]at h4;have hlen:((((List.range i).map fun p=>stN cs (es.take p))++[stN cs (es.take i)]).map nV).length < sizeLine:=zaq (by
    rw[yab,yak,yab,yaX,yaL];omega)
   refine ⟨_,rfl,.inl ⟨rfl,_,SqL.of h4⟩,?_⟩;refine ⟨_,rfl,D,rfl,.inr ⟨_,.inl h4D⟩,_,rfl,_,rfl,_,rfl,_,_,_,_,rfl,rfl,SqL.of h4,zjo,_,DGet.t (k:=kE e) h4D h4b,?_⟩;have ev:(valV (kvT 0 cs) (kE e)).getD (nV (stN cs (es.take i)))=nV (stN cs (es.take (i+1))):=by
    rw[zi7,hon];by_cases z:e∈cs
    ·rw[if_pos z,if_pos z,ybG];rfl
    ·rw[if_neg z,if_neg z];rfl
   rw[ev];refine ⟨_,_,_,rfl,rfl,h4,hlen,?_⟩;refine ⟨_,rfl,?_,fun b o n e=>by rw[zai n];exact k4 b o n e⟩;rw[zac,zd9,yai (l₂:=[stN cs (es.take (i+1))]),zd9];rfl
  ·rintro σ H4 ⟨x4,rfl,h4,k4⟩;refine ⟨_,rfl,?_⟩;rw[← hwl]at h4;refine q p H4 (s2.free hp) (s2.trans fun b o e=>k4 b o (zab e hp) e) h4
theorem zaT {α β:Type}{F G:α→β→Prop}(h:∀ a b,F a b→G a b):∀{l:List α} {m:List β},Paired F l m→Paired G l m
 | _,_,.nil=>.nil
 | _,_,.cons a t=>.cons (h _ _ a) (zaT h t)
theorem zc7 {α β:Type}{F:α→β→Prop}{a:α}{b:β}:∀{l:List α} {m:List β},Paired F l m→F a b→Paired F (l++[a]) (m++[b])
 | _,_,.nil,h=>.cons h .nil
 | _,_,.cons a t,h=>.cons a (zc7 t h)
theorem zch {α β:Type}{F:α→β→Prop}:∀{l:List α} {m:List β} {i:Nat} {a:α},Paired F l m→l[i]?=some a→∃ b,m[i]?=some b∧F a b
 | _,_,i,a,.nil,h=>by simp at h
 | _::_,b::_,0,a,.cons h t,e=>by
  have:=yae (show some _=some a from e);subst this;exact ⟨b,rfl,h⟩
 | _::_,_::_,i+1,a,.cons h t,e=>by
  obtain ⟨q,h1,h2⟩:=zch (i:=i) t (by simpa using e);exact ⟨q,by simpa using h1,h2⟩
theorem zeq {α β:Type}{F:α→β→Prop}:∀{l:List α} {m:List β} {i:Nat} {b:β},Paired F l m→m[i]?=some b→∃ a,l[i]?=some a∧F a b
 | _,_,i,a,.nil,h=>by simp at h
 | a::_,_::_,0,b,.cons h t,e=>by
  have:=yae (show some _=some b from e);subst this;exact ⟨a,rfl,h⟩
 | _::_,_::_,i+1,a,.cons h t,e=>by
  obtain ⟨q,h1,h2⟩:=zeq (i:=i) t (by simpa using e);exact ⟨q,by simpa using h1,h2⟩
def zbK (Av:List Addr)(H:Hp)(es:List En)(ps:List Nat)(rows:List (List Int))(c:Nat)(x:V):Prop:=∃ j s,x=.ref j∧s∉Av∧H j=some (.tup [.int (c:Int),.ref s])∧H s=some (.lst ((zhg es (zak ps rows c)).map nV))
def BrAt (Av:List Addr)(H:Hp)(ps:List Nat)(rows:List (List Int))(k:Nat)(x:V):Prop:=∃ b o j xs,x=.ref b∧o∉Av∧j∉Av∧H b=some (.tup [.int ((zak ps rows k).length:Nat),.ref o,.ref j])∧H o=some (.lst ((znB k (zak ps rows k)).map nV))∧H j=some (.lst xs)∧Paired (zbK Av H (zak ps rows k) ps rows) (zaS ps k (ps.length+1)) xs
theorem zbK.same {Av:List Addr}{H H':Hp}{es:List En}{ps:List Nat}{rows:List (List Int)}{c:Nat}{x:V}(e:Same H H')(h:zbK Av H es ps rows c x):zbK Av H' es ps rows c x:=by
 obtain ⟨j,s,h1,h2,h3,h4⟩:=h;exact ⟨j,s,h1,h2,e _ _ h3,e _ _ h4⟩
theorem zbK.but {p:Addr}{Av:List Addr}{H H':Hp}{es:List En}{ps:List Nat}{rows:List (List Int)}{c:Nat}{x:V}{zs:List V}(k:But p H H')(hp:p∈Av)(hz:H p=some (.lst zs))(h:zbK Av H es ps rows c x):zbK Av H' es ps rows c x:=by
 obtain ⟨j,s,h1,h2,h3,h4⟩:=h;exact ⟨j,s,h1,h2,k _ _ (fun z=>by rw[z,hz]at h3;cases h3) h3,k _ _ (fun z=>h2 (z ▸ hp)) h4⟩
theorem zbK.less {Av Av':List Addr}{H:Hp}{es:List En}{ps:List Nat}{rows:List (List Int)}{c:Nat}{x:V}(s:∀ a∈Av',a∈Av)(h:zbK Av H es ps rows c x):zbK Av' H es ps rows c x:=by
 obtain ⟨j,q,h1,h2,h3,h4⟩:=h;exact ⟨j,q,h1,fun z=>h2 (s _ z),h3,h4⟩
theorem BrAt.same {Av:List Addr}{H H':Hp}{ps:List Nat}{rows:List (List Int)}{k:Nat}{x:V}(e:Same H H')(h:BrAt Av H ps rows k x):BrAt Av H' ps rows k x:=by
 obtain ⟨b,o,j,xs,h1,h2,h3,h4,h5,h6,h7⟩:=h;exact ⟨b,o,j,xs,h1,h2,h3,e _ _ h4,e _ _ h5,e _ _ h6,zaT (fun a b=>zbK.same e) h7⟩
theorem BrAt.but {p:Addr}{Av:List Addr}{H H':Hp}{ps:List Nat}{rows:List (List Int)}{k:Nat}{x:V}{zs:List V}(kk:But p H H')(hp:p∈Av)(hz:H p=some (.lst zs))(h:BrAt Av H ps rows k x):BrAt Av H' ps rows k x:=by
 obtain ⟨b,o,j,xs,h1,h2,h3,h4,h5,h6,h7⟩:=h;exact ⟨b,o,j,xs,h1,h2,h3,kk _ _ (fun z=>by rw[z,hz]at h4;cases h4) h4,kk _ _ (fun z=>h2 (z ▸ hp)) h5,kk _ _ (fun z=>h3 (z ▸ hp)) h6,zaT (fun a b=>zbK.but kk hp hz) h7⟩
theorem BrAt.less {Av:List Addr}{H:Hp}{ps:List Nat}{rows:List (List Int)}{k:Nat}{x:V}(h:BrAt Av H ps rows k x):BrAt [] H ps rows k x:=by
 obtain ⟨b,o,j,xs,h1,h2,h3,h4,h5,h6,h7⟩:=h;exact ⟨b,o,j,xs,h1,(fun z=>nomatch z),(fun z=>nomatch z),h4,h5,h6,zaT (fun a b=>zbK.less (fun a z=>absurd z ybs)) h7⟩
def zoE (K:Frag):Sp:=fun vs H Q _=>∃(st:Addr) (ps:List Nat) (rows:List (List Int)) (t rs:Addr) (as:List Addr) (pf:Addr) (qs:List Addr),vs=[.ref t,.ref pf]∧zbs H st ps rows t rs as∧H pf=some (.lst (qs.map V.ref))∧zaD K H ps rows (List.range (ps.length+1)) qs∧
 ∀(p:Addr) (xs:List V) (H':Hp),H p=none→Same H H'→H' p=some (.lst xs)→Paired (BrAt [] H' ps rows) (List.range (ps.length+1)) xs→Q (.ref p) H'
theorem zpC (T:Txt K mg)(qaE:DF K mg "bridges_of" zcF zcb)(qa8:FC P w K mg base 1 "children" zcs (zcS K))(qca:FC P w K mg base 1 "starts_of" zcG (zjD K))(qcw:FC P w K mg base 1 "owns_of" zdT (zow K)):FC P w K mg base 2 "bridges_of" zcb (zoE K):=by
 refine qaE.ok qal (fun vs H Q E h=>?_) (fun f cdv A outer s H vs Q E hr h=>?_)
 ·obtain ⟨st,ps,rows,t,rs,as,pf,qs,rfl,_⟩:=h;rfl
 obtain ⟨st,ps,rows,t,rs,as,pf,qs,rfl,S,h1,hF,q⟩:=h;refine ⟨_,(zah (zap (i:=2) qal.nd rfl (Or.inl rfl) (zaG zad))
   (zah (zaR PassesOwn.never rfl (zdw rfl T.qaM (zaa (pv 1) zad)) (zge rfl (za5 (zan (i:=3) qal.nd rfl (Or.inl rfl)) (za5 (zan (i:=4) qal.nd rfl (Or.inr rfl)) zdx))) (zah (zeo (i:=5) (N:=["child","full","fulls"]) (own:=1) (cap:=[4,1]) qal.nd rfl rfl rfl (zbq (zax qa8 hr (zaa (pv 0) (zaa (pv 3) zad)))) ⟨rfl,rfl,rfl,rfl,rfl,rfl⟩ (fun _ _ _ _ _=>(zan (i:=0) (show List.Nodup (["child","full","fulls"]:List Str) by decide +kernel) rfl (Or.inl rfl))) (fun _ _ _ _ _=>zbF) (fun _ _ _ _ _=>(zbu (zaa (pv 0) (zaa (zax qca hr (zaa (pv 1) (zaa (zay (zkj (K:=K)) (pv 2) (pv 0) (fun _ _=>rfl)) zad))) zad)))))
   (zaf (zbv (zep F.plainAttrs_list F.slot_list_append F.type_list_append zaQ (pv 2) (zaa (zbu (zaa (zam zal rfl T.qag boot_len (zaa (pv 4) zad)) (zaa (zax qcw hr (zaa (pv 4) (zaa (pv 3) zad))) (zaa (pv 5) zad)))) zad))))))
   (zaf (zat (pv 2))))),?_⟩
 have hfew:=S.few;have hkeys:=S.keys;have hql:=hF.length;rw[yaX]at hql;refine ⟨(by show 0≤sizeLine;decide),fun p hp=>?_⟩;have k0:But p H (upd H p (.lst [])):=fun b o n e=>by rw[zai n];exact e
 have npf:pf≠p:=zab h1 hp;refine ⟨_,rfl,pf,rfl,⟨_,SqL.of (k0 _ _ npf h1)⟩,?_⟩;refine zhO (xs:=qs.map V.ref) (fun i σ H2=>∃(xs:List V) (x4 x5 x6:Option V),σ=[some (.ref t),some (.ref pf),some (.ref p),x4,x5,x6]∧H2 p=some (.lst xs)∧Paired (BrAt [p] H2 ps rows) (List.range i) xs∧But p H H2) ?_ ?_ ?_ ?_
 ·exact ⟨[],_,_,_,rfl,zac,.nil,k0⟩
 ·rintro i σ H2 _ ⟨xs,x4,x5,x6,rfl,_,_,k2⟩;exact SqL.of (k2 _ _ npf h1)
 ·rintro i x σ H2 r hx ⟨xs,x4,x5,x6,rfl,h2,hB,k2⟩ hr;rw[yal]at hx;obtain ⟨qq,hqi,rfl⟩:=ybh.mp hx;have hi:i < ps.length+1:=by
   have:=(yaf.mp hqi).1;omega
  have hxl:xs.length=i:=by
   have:=Paired.length hB;rw[yaX]at this;exact this.symm
  have noP:∀{b:Addr} {o:HO},H b=some o→b≠p:=fun e=>zab e hp;have s12:Same H H2:=fun b o e=>k2 b o (noP e) e;have S2:=S.same s12;have F2:=hF.same s12;have h2f:=s12 _ _ h1;obtain ⟨q2,hq2,ws,hq3,hw3⟩:=F2.get (i:=i) (j:=i) (ybt hi);rw[hqi]at hq2;have:=yae hq2;subst this;refine ⟨r,_,rfl,SqT.of zac,rfl,_,_,rfl,_,_,rfl,rfl,?_⟩;have sr:=zag hr (.tup [.int (i:Int),.ref qq]);generalize upd H2 r (.tup [.int (i:Int),.ref qq])=H3 at sr ⊢;refine ⟨_,rfl,_,rfl,t,ps,i,rfl,sr _ _ S2.tr,by omega,fun c H4 hc s4 h4=>?_⟩;have s24:Same H2 H4:=sr.trans s4;refine ⟨c,rfl,⟨_,SqL.of h4⟩,fun D hD=>?_⟩;have hpD:p≠D:=zab (s24 _ _ h2) hD;have F4:=F2.same s24;have h4q:=s24 _ _ hq3;have h4w:=hw3.mono s24.ext;have hfl:=zdd S.T S.len (rows:=rows) hi;refine zbz (xs:=(zaS ps i (ps.length+1)).map nV) (fun m σ H5=>∃(ys:List V) (x0:Option V),σ=[x0,some (.ref qq),some (.ref pf)]∧H5 D=some (.lst ys)∧Paired (zbK [p,D] H5 (zak ps rows i) ps rows) ((zaS ps i (ps.length+1)).take m) ys∧But D H4 H5) ?_ ?_ ?_ ?_
  ·exact ⟨[],_,rfl,zac,.nil,fun b o n e=>by rw[zai n];exact e⟩
  ·rintro m σ H5 _ ⟨ys,x0,rfl,_,_,k5⟩;exact k5.sq (SqL.of h4) hD
  ·rintro m u x σ H5 hx hm ⟨ys,x0,rfl,h5,hJ,k5⟩;obtain ⟨hmi,rfl⟩:=zg1 hx;have hcl:=zcX ps i (ps.length+1);have hyl:=Paired.length hJ;rw[yaj]at hyl;rw[yab]at hm;have hcm:(zaS ps i (ps.length+1))[m]?=some ((zaS ps i (ps.length+1)).getD m 0):=by
    rw[yad,yac hmi];rfl
   have htk2:(zaS ps i (ps.length+1)).take (m+1)=(zaS ps i (ps.length+1)).take m++[(zaS ps i (ps.length+1)).getD m 0]:=by
    rw[yaB hmi,yad,yac hmi];rfl
   rw[htk2];generalize (zaS ps i (ps.length+1)).getD m 0=ch at hcm ⊢;obtain ⟨hchn,hchp⟩:=zaE.mp (yaO hcm);have s45:Same H4 H5:=fun b o e=>k5 b o (zab e hD) e;have F5:=F4.same s45;obtain ⟨qc,hqc,wc,hqc3,hwc⟩:=F5.get (i:=ch) (j:=ch) (ybt hchn);have hfc:=zdd S.T S.len (rows:=rows) hchn;refine zcK ?_;refine ⟨_,rfl,_,rfl,_,rfl,_,rfl,_,_,_,_,rfl,rfl,SqL.of (s45 _ _ (s24 _ _ h2f)),zdI hqc,?_⟩;refine ⟨qq,qc,ws,wc,zak ps rows i,zak ps rows ch,rfl,s45 _ _ h4q,h4w.mono s45.ext,by omega,hqc3,hwc,by omega,zeu S.T S.R hchn,fun sa H6 hsa s6 h6=>?_⟩;refine ⟨(by show 2≤sizeLine;decide),fun j hj=>?_⟩;have sj:=zag hj (.tup [.int (ch:Int),.ref sa]);have hjj:upd H6 j (.tup [.int (ch:Int),.ref sa]) j=some (.tup [.int (ch:Int),.ref sa]):=zac;generalize upd H6 j (.tup [.int (ch:Int),.ref sa])=H7 at sj hjj ⊢;have s57:=s6.trans sj;have h7D:=s57 _ _ h5;have nsaD:sa≠D:=Ne.symm (zab h5 hsa);have nsap:sa≠p:=Ne.symm (zab (s45 _ _ (s24 _ _ h2)) hsa);have kD:But D H7 (upd H7 D (.lst (ys++[.ref j]))):=fun b o n e=>by rw[zai n];exact e
   refine ⟨_,h7D,zaq (by omega),u - 1,by omega,by rw[yab];omega,ys++[.ref j],_,rfl,zac,?_,fun b o n e=>by rw[zai n];exact s57 _ _ (k5 b o n e)⟩;refine zc7 (zaT (fun a b h=>zbK.but kD (yaD _ yaC) h7D (zbK.same s57 h)) hJ) ?_;refine zbK.but kD (yaD _ yaC) h7D ⟨j,sa,rfl,?_,hjj,sj _ _ h6⟩;intro z;rcases yat.mp z with z | z
   ·exact nsap z
   ·exact nsaD (yam.mp z)
  ·rintro σ H5 ⟨ys,x0,rfl,h5,hJ,k5⟩;rw[yab,yap (yaa _)]at hJ;have s45:Same H4 H5:=fun b o e=>k5 b o (zab e hD) e;have s25:=s24.trans s45;refine ⟨_,rfl,.inl ⟨rfl,_,SqL.of (s25 _ _ h2)⟩,_,rfl,_,_,rfl,.inl (SqL.of (s45 _ _ h4q)),?_⟩;have hwl:=h4w.length;refine ⟨_,rfl,_,rfl,qq,ws,zak ps rows i,i,rfl,s45 _ _ h4q,h4w.mono s45.ext,by omega,fun o H6 ho s6 h6=>?_⟩;refine ⟨_,rfl,(by show 3≤sizeLine;decide),fun b hb=>?_⟩;have sb:=zag hb (.tup [.int ((ws.length:Nat):Int),.ref o,.ref D]);have hbb:upd H6 b (.tup [.int ((ws.length:Nat):Int),.ref o,.ref D]) b=some (.tup [.int ((ws.length:Nat):Int),.ref o,.ref D]):=zac;generalize upd H6 b (.tup [.int ((ws.length:Nat):Int),.ref o,.ref D])=H7 at sb hbb ⊢;have s57:=s6.trans sb;have s27:=s25.trans s57;have h7p:=s27 _ _ h2;have kp:But p H7 (upd H7 p (.lst (xs++[.ref b]))):=fun b o n e=>by rw[zai n];exact e
   have nop:o≠p:=Ne.symm (zab (s25 _ _ h2) ho);refine ⟨_,_,_,rfl,rfl,h7p,zaq (by omega),?_⟩;refine ⟨xs++[.ref b],_,_,_,rfl,zac,?_,fun b o n e=>by rw[zai n];exact s27 _ _ (k2 b o n e)⟩;rw[ybu];refine zc7 (zaT (fun a b h=>BrAt.but kp yaC h7p (BrAt.same s27 h)) hB) ?_;refine BrAt.but kp yaC h7p ⟨b,o,D,ys,rfl,fun z=>nop (yam.mp z),fun z=>hpD (yam.mp z).symm,?_,sb _ _ h6,s57 _ _ h5,?_⟩
   ·rw[hbb,hwl]
   ·exact zaT (fun a b h=>zbK.same s57 (zbK.less (fun a z=>by rw[yam.mp z];exact yaC) h)) hJ
 ·rintro σ H2 ⟨xs,x4,x5,x6,rfl,h2,hB,k2⟩;refine ⟨_,rfl,?_⟩;rw[yab,← hql]at hB;refine q p xs H2 hp (fun b o e=>k2 b o (zab e hp) e) h2 (zaT (fun a b=>BrAt.less) hB)
theorem znZ {rows:List (List Int)}{row:List Int}(h:row∈rows):row.length≤zcv rows:=by
 unfold zcv
 induction rows with
 | nil=>cases h
 | cons r rows ih=>
  rw[yax,yaS];rcases yat.mp h with e | e
  ·rw[e];omega
  ·have:=ih e;omega
theorem zmz {m:Nat}:∀{rows:List (List Int)},(∀ row∈rows,row.length≤m)→zcv rows≤rows.length * m
 | [],_=>yaF _
 | r::rows,h=>by
  have h1:=h r yaC;have h2:=zmz (m:=m) (rows:=rows) fun x hx=>h x (yaD _ hx);unfold zcv at h2 ⊢;rw[yax,yaS,yaI,Nat.succ_mul];omega
def accL (ps:List Nat)(rows:List (List Int)):Nat→Nat→List En
 | 0,j=>ownE rows j
 | i+1,j=>accL ps rows i j++(if par ps (ps.length - i)=some j then zbP (zak ps rows (ps.length - i)) else [])
theorem zjp {ps:List Nat}(T:zaC ps){rows:List (List Int)}{j:Nat}{e:En}:∀ i,i≤ps.length→(e∈accL ps rows i j↔e∈ownE rows j∨∃ c,ps.length - i < c∧par ps c=some j∧e∈zbP (zak ps rows c))
 | 0,_=>by
  unfold accL;constructor
  ·exact .inl
  ·rintro (h | ⟨c,h1,h2,_⟩)
   ·exact h
   ·have:=(zaP T h2).2;omega
 | i+1,hi=>by
  unfold accL;rw[yao,zjp T i (by omega)];constructor
  ·rintro ((h | ⟨c,h1,h2,h3⟩) | h)
   ·exact .inl h
   ·exact .inr ⟨c,by omega,h2,h3⟩
   ·by_cases z:par ps (ps.length - i)=some j
    ·rw[if_pos z]at h;exact .inr ⟨_,by omega,z,h⟩
    ·rw[if_neg z]at h;cases h
  ·rintro (h | ⟨c,h1,h2,h3⟩)
   ·exact .inl (.inl h)
   ·by_cases z:c=ps.length - i
    ·subst z;rw[if_pos h2];exact .inr h3
    ·exact .inl (.inr ⟨c,by omega,h2,h3⟩)
theorem ziK {ps:List Nat}(T:zaC ps){rows:List (List Int)}(R:za2 rows){j:Nat}(hj:j < ps.length+1):∀ i,i≤ps.length→(accL ps rows i j).Nodup
 | 0,_=>zic R j
 | i+1,hi=>by
  unfold accL;have ih:=ziK T R hj i (by omega);by_cases z:par ps (ps.length - i)=some j
  ·rw[if_pos z,ybv];have hc:=(zaP T z).2;refine ⟨ih,(zeu T R hc).sublist (zaY _),fun a ha b hb hab=>?_⟩;subst hab;obtain ⟨u,_,g2,g3,_⟩:=zeb T R hc a ((zaY _).mem hb);rcases (zjp T i (by omega)).mp ha with h | ⟨c,h1,h2,h3⟩
   ·have:=(zib hj h).2;have:u=j:=by omega
    subst this;rw[zfe T (zaP T z).1]at g2;cases g2
   ·obtain ⟨v,_,f2,f3,_⟩:=zeb T R (zaP T h2).2 a ((zaY _).mem h3);have:u=v:=by omega
    subst this;exact zdD T h2 z (by omega) u u (yaa _) f2 g2
  ·rw[if_neg z,yaG];exact ih
theorem zhV {ps:List Nat}(T:zaC ps){rows:List (List Int)}(R:za2 rows){k:Nat}(hk:k < ps.length+1):zds (accL ps rows (ps.length - k) k)=zak ps rows k:=by
 refine ziT (zfr (ziK T R hk _ (by omega))) (zaV T R hk) fun e=>?_;rw[zeE,zjp T _ (by omega),zfg T hk];constructor
 ·rintro (h | ⟨c,_,h2,h3⟩)
  ·exact .inl h
  ·exact .inr ⟨c,h2,h3⟩
 ·rintro (h | ⟨c,h2,h3⟩)
  ·exact .inl h
  ·exact .inr ⟨c,by have:=(zaP T h2).1;omega,h2,h3⟩
theorem zoY {ps:List Nat}{rows:List (List Int)}{j:Nat}(i:Nat):∀ d,(accL ps rows i j).length≤(accL ps rows (i+d) j).length
 | 0=>yaa _
 | d+1=>by
  refine yar (zoY i d) ?_;show _≤(accL ps rows (i+d) j++_).length;rw[yak];omega
theorem zp9 {ps:List Nat}(T:zaC ps){rows:List (List Int)}(R:za2 rows)(hl:rows.length=ps.length+1){i j:Nat}(hj:j < ps.length+1)(hi:i≤ps.length - j):(accL ps rows i j).length≤zcv rows:=by
 obtain ⟨d,hd⟩:∃ d,ps.length - j=i+d:=⟨ps.length - j - i,by omega⟩;have h:=zhV T R hj;rw[hd]at h;have h2:=congrArg List.length h;rw[zcB]at h2;exact yar (zoY i d) (by rw[h2];exact zdd T hl hj)
def valL (ps:List Nat)(rows:List (List Int))(i j:Nat):List En:=if ps.length - i < j then zak ps rows j else accL ps rows i j
structure FA (K:Frag)(H:Hp)(p:Addr)(qs:List Addr)(n:Nat)(f:Nat→List En):Prop where
 at_:H p=some (.lst (qs.map V.ref))
 len:qs.length=n
 nd:qs.Nodup
 np:p∉qs
 get:∀(j:Nat) (q:Addr),qs[j]?=some q→∃ ws,H q=some (.lst ws)∧zar K H (f j) ws
section
variable {K:Frag}{H H':Hp}{p:Addr}{qs:List Addr}{n:Nat}{f g:Nat→List En}
theorem FA.ext (h:FA K H p qs n f)(e:Ext H H'):FA K H' p qs n f:=
 ⟨e _ _ h.at_ (fun _ z=>nomatch z),h.len,h.nd,h.np,fun j q hq=>by
  obtain ⟨ws,h1,h2⟩:=h.get j q hq;exact ⟨ws,e _ _ h1 (fun _ z=>nomatch z),h2.mono e⟩⟩
theorem FA.congr (h:FA K H p qs n f)(e:∀ j,j < n→f j=g j):FA K H p qs n g:=
 ⟨h.at_,h.len,h.nd,h.np,fun j q hq=>by
  rw[← e j (by have:=(yaf.mp hq).1;have:=h.len;omega)];exact h.get j q hq⟩
theorem FA.set (h:FA K H p qs n f){k:Nat}{q':Addr}{l:List En}{ws:List V}(hq:H q'=some (.lst ws))(hw:zar K H l ws)(hn:q'∉qs)(hp:q'≠p):FA K (upd H p (.lst ((qs.map V.ref).set k (.ref q')))) p (qs.set k q') n (fun j=>if j=k then l else f j):=by
 refine ⟨?_,by rw[List.length_set];exact h.len,?_,fun z=>?_,fun j q hj=>?_⟩
 ·rw[zac,yb2]
 ·show List.Pairwise _ _;rw[yaQ];intro i j hi hj hij;rw[List.length_set]at hi hj;rw[List.getElem_set,List.getElem_set];have old:=yaQ.mp h.nd i j hi hj hij;split
  ·rw[if_neg (by omega)];exact fun z=>hn (z ▸ yay hj)
  ·split
   ·exact fun z=>hn (z ▸ yay hi)
   ·exact old
 ·rcases ycE z with y | y
  ·exact h.np y
  ·exact hp y.symm
 ·rw[yb0]at hj;show ∃ ws,_∧zar K _ (if j=k then l else f j) ws
  by_cases c:k=j
  ·rw[if_pos c]at hj;by_cases c2:k < qs.length
   ·rw[if_pos c2]at hj;have:=yae hj;subst this;rw[if_pos c.symm];exact ⟨ws,by rw[zai hp];exact hq,za6 h.at_ hw⟩
   ·rw[if_neg c2]at hj;cases hj
  ·rw[if_neg c]at hj;rw[if_neg (fun z=>c z.symm)];obtain ⟨us,h1,h2⟩:=h.get j q hj;have hqp:q≠p:=fun z=>h.np (by rw[← z];exact yaO hj);exact ⟨us,by rw[zai hqp];exact h1,za6 h.at_ h2⟩
theorem FA.put (h:FA K H p qs n f){k:Nat}{q:Addr}{ws:List V}{e:En}{x:V}(hk:qs[k]?=some q)(hq:H q=some (.lst ws))(hx:Rep.has K H e x):FA K (upd H q (.lst (ws++[x]))) p qs n (fun j=>if j=k then f j++[e] else f j):=by
 have hqp:p≠q:=fun z=>h.np (z ▸ yaO hk);refine ⟨by rw[zai hqp];exact h.at_,h.len,h.nd,h.np,fun j q2 hj=>?_⟩;obtain ⟨us,h1,h2⟩:=h.get j q2 hj;show ∃ ws,_∧zar K _ (if j=k then f j++[e] else f j) ws
 by_cases c:j=k
 ·subst c;rw[hk]at hj;have:=yae hj;subst this;rw[hq]at h1;cases h1
  rw[if_pos rfl];exact ⟨_,zac,(za6 hq h2).append (za6 hq (.one hx))⟩
 ·rw[if_neg c];have hne:q2≠q:=fun z=>by
   subst z;obtain ⟨i1,e1⟩:=yaf.mp hj;obtain ⟨i2,e2⟩:=yaf.mp hk;have old:=yaQ.mp h.nd;rcases Nat.lt_or_gt_of_ne c with z | z
   ·exact old j k i1 i2 z (e1.trans e2.symm)
   ·exact old k j i2 i1 z (e2.trans e1.symm)
  exact ⟨us,by rw[zai hne];exact h1,za6 hq h2⟩
theorem FA.at (h:FA K H p qs n f){k:Nat}(hk:k < n):∃ q ws,qs[k]?=some q∧H q=some (.lst ws)∧zar K H (f k) ws:=by
 have e:qs[k]?=some (qs[k]'(by have:=h.len;omega)):=yac _;obtain ⟨ws,h1,h2⟩:=h.get k _ e;exact ⟨_,ws,e,h1,h2⟩
end
def zjI (K:Frag):Sp:=fun vs H Q _=>∃(t r:Addr) (ps:List Nat) (rows:List (List Int)) (as:List Addr),vs=[.ref t,.ref r]∧H t=some (.tup (zcp ps))∧H r=some (.tup (as.map V.ref))∧zaZ H as rows∧rows.length=ps.length+1∧zaC ps∧za2 rows∧ps.length≤40∧zcv rows≤400∧
 ∀(p:Addr) (qs:List Addr) (H':Hp),H p=none→Same H H'→FA K H' p qs (ps.length+1) (zak ps rows)→(∀ q∈qs,H q=none)→Q (.ref p) H'
theorem zma (T:Txt K mg)(qbr:DF K mg "_law_fulls" zeN zd1)(qcx:FC P w K mg base 2 "_law_marks" zd0 (zhh K)):FC P w K mg base 3 "_law_fulls" zd1 (zjI K):=by
 refine qbr.ok qao (fun vs H Q E h=>?_) (fun f cdv A outer s H vs Q E hr h=>?_)
 ·obtain ⟨t,r,ps,rows,as,rfl,_⟩:=h;rfl
 obtain ⟨t,r,ps,rows,as,rfl,ht,hr0,hA,hlen,hT,hR,hfew,hkeys,q⟩:=h;refine ⟨_,(zav (znu "_law_k" (i:=2) (N:=["_law_k","_law_rows_here"]) (own:=1) (cap:=[1]) qao.nd rfl rfl rfl (zaW rfl T.qad (zaa (zam zal rfl T.qag boot_len (zaa (pv 0) zad)) zad)) ⟨rfl,rfl,rfl,rfl,rfl,rfl,rfl⟩ (fun _ _ _ _ _=>(zan (i:=0) (show List.Nodup (["_law_k","_law_rows_here"]:List Str) by decide +kernel) rfl (Or.inr rfl))) (fun _ _ _ _ _=>zbF) (fun _ _ _ _ _=>(zbG (N:=["_law_key_here","_law_k"]) (own:=1) (cap:=[0]) rfl (zpo (K:=K) (zay (zgl (K:=K)) (pv 1) (pv 0) (fun _ _=>rfl))) ⟨rfl,rfl,rfl,rfl,rfl,rfl⟩ (fun _ _ _ _ _=>(zan (i:=0) (show List.Nodup (["_law_key_here","_law_k"]:List Str) by decide +kernel) rfl (Or.inl rfl))) (fun _ _ _ _ _=>zbF) (fun _ _ _ _ _=>(zbu (zaa (pv 0) (zaa (pv 1) zad)))))))
   (zav (zaR PassesOwn.never rfl (zlY rfl T.qad (zaa (zao zbb (zam zal rfl T.qag boot_len (zaa (pv 0) zad)) zae) (zaa zae (zaa (zgG zeg zae) zad)))) (zan (i:=3) qao.nd rfl (Or.inl rfl)) (zav (zfD (zam (zee (Int×Int)) rfl T.qbg boot_sorted (zaa (zay zaz (pv 2) (pv 3) (fun _ _=>rfl)) zad)) (zgT (pv 2) (pv 3) zdM))
   (zav (zap (i:=4) qao.nd rfl (Or.inl rfl) (zay zaN (pv 0) (pv 3) (fun _ _=>rfl)))
   (zaf (zaR PassesOwn.never rfl (zlX rfl T.qcQ (zaa (zay zaz (pv 2) (pv 3) (fun _ _=>rfl)) (zaa (zax qcx hr (zaa (zay zaz (pv 2) (pv 3) (fun _ _=>rfl)) zad)) zad))) (zge rfl (za5 (zan (i:=5) qao.nd rfl (Or.inl rfl)) (za5 (zan (i:=6) qao.nd rfl (Or.inl rfl)) zdx))) (zaf (zbk (zdj (pv 6)) (zaf (zbv (zep F.plainAttrs_list F.slot_list_append F.type_list_append zaQ (zay zaz (pv 2) (pv 4) (fun _ _=>rfl)) (zaa (pv 5) zad)))) zaB)))))))
   (zav (zfD (zam (zee (Int×Int)) rfl T.qbg boot_sorted (zaa (zay zaz (pv 2) zae (fun _ _=>rfl)) zad)) (zgT (pv 2) zae zdM))
   (zaf (zat (pv 2)))))),?_⟩
 intro N0 n0;have el:((((zcp ps).length:Nat):Int)).toNat=ps.length+1:=by rw[zaw,ya9]
 refine ⟨_,rfl,_,_,rfl,.inr (SqT.of ht),_,rfl,by omega,by rw[zaw];omega,fun D hD=>?_⟩;rw[el];refine zck (n:=ps.length+1) (fun i σ H2=>∃(qs:List Addr) (x0:Option V),σ=[x0,some (.ref r)]∧FA K H2 D qs i (ownE rows)∧(∀ q∈qs,H q=none)∧But D H H2) ?_ ?_ ?_
 ·exact ⟨[],_,rfl,⟨zac,rfl,ybo,(fun z=>nomatch z),fun j q e=>by simp at e⟩,(fun q z=>nomatch z),fun b o n e=>by rw[zai n];exact e⟩
 ·rintro i m σ H2 hm hi ⟨qs,x0,rfl,h2,hqs,k2⟩;rw[ybg];have s2:Same H H2:=fun b o e=>k2 b o (zab e hD) e;obtain ⟨b,hb1,hb2⟩:=(hA.ext s2).get (k:=i) (by rw[hlen];exact hi);refine zcK ?_;refine ⟨_,rfl,_,rfl,_,_,_,_,rfl,rfl,SqT.of (s2 _ _ hr0),zdI hb1,b,rfl,⟨_,SqT.of hb2⟩,fun D3 hD3=>?_⟩;refine zed (xs:=(zbx rows i).map V.int) (fun m σ H5=>∃(us:List V) (x0:Option V),σ=[x0,some (.int i)]∧H5 D3=some (.lst us)∧zar K H5 ((ownE rows i).take m) us∧But D3 H2 H5) ?_ ?_ ?_ ?_
  ·exact ⟨[],_,rfl,zac,.nil,fun b o n e=>by rw[zai n];exact e⟩
  ·rintro m σ H5 _ ⟨us,x0,rfl,_,_,k5⟩;exact SqT.of (k5 _ _ (zab hb2 hD3) hb2)
  ·rintro j m' x σ H5 hx hm' ⟨us,x0,rfl,h5,hw5,k5⟩;rw[yal]at hx;obtain ⟨y,hy,rfl⟩:=ybh.mp hx;have hlow:=(yaf.mp hy).1;have htk3:(ownE rows i).take (j+1)=(ownE rows i).take j++[(y,(i:Int))]:=by
    unfold ownE;rw[← ybK,← ybK,yaB hlow,yai];rw[(yaf.mp hy).2];rfl
   have hul:=hw5.length;rw[yaj]at hul;rw[yab]at hm';have hrl:(zbx rows i).length≤zcv rows:=by
    refine znZ ?_;unfold zbx;rw[yad,yac (show i < rows.length by omega)];exact yay _
   refine zcK ?_;refine ⟨_,rfl,_,rfl,(by show 2≤sizeLine;decide),fun u hu=>?_⟩;have su:=zag hu (.tup [.int y,.int (i:Int)]);have h6:=su _ _ h5;have hut:upd H5 u (.tup [.int y,.int (i:Int)]) u=some (.tup [.int y,.int (i:Int)]):=zac;have k6:=k5.new' hu (.tup [.int y,.int (i:Int)]);have hw6:=hw5.mono su.ext;generalize upd H5 u (.tup [.int y,.int (i:Int)])=H6 at su h6 hut k6 hw6 ⊢;refine ⟨_,h6,zaq (by omega),m' - 1,by omega,by rw[yab];omega,us++[.ref u],_,rfl,zac,?_,fun b o n e=>by rw[zai n];exact k6 b o n e⟩;rw[htk3];exact (za6 h6 hw6).append (za6 h6 (.cons ⟨u,.int y,.int (i:Int),rfl,hut,rfl,rfl⟩ .nil))
  rintro σ H5 ⟨us,x0,rfl,h5,hw5,k5⟩;rw[yab,yap (by unfold ownE;rw[yab];exact yaa _)]at hw5;have s5:Same H2 H5:=fun x o e=>k5 x o (zab e hD3) e;have F5:=h2.ext s5.ext;have hqn:D3∉qs:=fun z=>by
   obtain ⟨j,hj,e⟩:=yaW z;obtain ⟨ws,w1,_⟩:=h2.get j D3 (by rw[yac hj,e]);rw[hD3]at w1;cases w1
  have hDD:D3≠D:=fun z=>by
   have:=h2.at_;rw[← z,hD3]at this;cases this
  have hql:=h2.len;refine ⟨_,F5.at_,zaq (by rw[yab];omega),m - 1,by omega,by omega,qs++[D3],_,rfl,⟨?_,by rw[yak,yaL,hql],?_,?_,?_⟩,?_,?_⟩
  ·rw[zac,yai];rfl
  ·rw[ybv];refine ⟨h2.nd,ya0.mpr ⟨(fun z=>nomatch z),ybo⟩,fun a ha b hb e=>?_⟩;rw[yam.mp hb]at e;exact hqn (e ▸ ha)
  ·intro z;rcases yao.mp z with y | y
   ·exact h2.np y
   ·exact hDD (yam.mp y).symm
  ·intro j q0 hj;by_cases c:j < qs.length
   ·rw[ybm c]at hj;obtain ⟨ws,w1,w2⟩:=F5.get j q0 hj;have hne:q0≠D:=fun z=>h2.np (by rw[← z];exact yaO hj);exact ⟨ws,by rw[zai hne];exact w1,za6 F5.at_ w2⟩
   ·rw[ya7 (by omega)]at hj;have hj0:j - qs.length=0:=by
     have:=(yaf.mp hj).1;rw[yaL]at this;omega
    rw[hj0]at hj;have:=yae (show some D3=some q0 from hj);subst this;have:j=i:=by omega
    subst this;exact ⟨us,by rw[zai hDD];exact h5,za6 F5.at_ hw5⟩
  ·intro q0 hq0;rcases yao.mp hq0 with y | y
   ·exact hqs q0 y
   ·rw[yam.mp y];exact s2.free hD3
  ·exact fun b o n e=>by
    rw[zai n];exact s5 _ _ (k2 b o n e)
 rintro σ H2 ⟨qs,x0,rfl,F2,hqs2,k2⟩;refine n0 _ _ ?_;intro N1 n1;have s2:Same H H2:=fun b o e=>k2 b o (zab e hD) e;have hD0:=hD;clear k2;have F0:FA K H2 D qs (ps.length+1) (valL ps rows 0):=F2.congr fun j hj=>by
  unfold valL accL;rw[if_neg (by omega)]
 clear F2;have h2t:=s2 _ _ ht;refine ⟨_,rfl,_,_,rfl,.inr (SqT.of h2t),_,_,rfl,rfl,?_⟩;refine ⟨_,rfl,_,_,rfl,⟨by rw[zaw];omega,by rw[zaw];omega,by omega,by omega⟩,?_⟩;have en:((((zcp ps).length:Nat):Int) - 1 - 0).toNat=ps.length:=by rw[zaw];omega
 rw[en];refine zoa (n:=ps.length) (fun i σ H3=>∃(qs:List Addr) (x3 x4 x5 x6:Option V),σ=[some (.ref t),some (.ref r),some (.ref D),x3,x4,x5,x6]∧FA K H3 D qs (ps.length+1) (valL ps rows i)∧(∀ q∈qs,H q=none)∧Same H H3) ?_ ?_ ?_
 ·exact ⟨qs,_,_,_,_,rfl,F0,hqs2,s2⟩
 ·rintro i σ H3 hi ⟨qs,x3,x4,x5,x6,rfl,F3,hqs,s3⟩;have ek:(((zcp ps).length:Nat):Int) - 1 - (i:Int)=((ps.length - i:Nat):Int):=by rw[zaw];omega
  rw[ek];have eI:i=ps.length - (ps.length - i):=by omega
  obtain ⟨k,hk⟩:∃ k,k=ps.length - i:=⟨_,rfl⟩;rw[← hk]at eI ⊢;refine zn6 fun N B R hN hB hR'=>?_;intro N2 n2;have hkn:k < ps.length+1:=by omega
  have hk1:1≤k:=by omega
  obtain ⟨q0,ws,hq0,hq1,hq2⟩:=F3.at hkn;have ev:valL ps rows i k=accL ps rows i k:=by
   unfold valL;rw[if_neg (by omega)]
  rw[ev]at hq2;have hfl:=yar (zdd hT hlen hkn (rows:=rows)) hkeys;refine ⟨_,rfl,_,rfl,_,_,_,_,rfl,rfl,SqL.of F3.at_,zdI hq0,q0,ws,_,rfl,SqL.of hq1,hq2,fun l us hl hus=>?_⟩;have hsort:zds (accL ps rows i k)=zak ps rows k:=by
   rw[eI];exact zhV hT hR hkn
  rw[hsort]at hus;have sl:=zag hl (.lst us);have F4:=F3.ext sl.ext;have hl4:upd H3 l (.lst us) l=some (.lst us):=zac;have hus4:=hus.mono sl.ext;have s4:=s3.trans sl;have hlq:l∉qs:=fun z=>by
   obtain ⟨j,hj,e⟩:=yaW z;obtain ⟨ws,w1,_⟩:=F3.get j l (by rw[yac hj,e]);rw[hl]at w1;cases w1
  have hlD:l≠D:=fun z=>by
   have:=F3.at_;rw[← z,hl]at this;cases this
  have hl0:H l=none:=s3.free hl;clear sl;generalize upd H3 l (.lst us)=H4 at F4 hl4 hus4 s4 ⊢;refine ⟨_,rfl,_,rfl,_,_,_,k,rfl,rfl,F4.at_,zfw (by rw[yab,F4.len];exact hkn),n2 _ _ ?_⟩;intro N3 n3;have F5:=F4.set (k:=k) hl4 hus4 hlq hlD;have hl5:upd H4 D (.lst ((qs.map V.ref).set k (.ref l))) l=some (.lst us):=by rw[zai hlD];exact hl4
  have hus5:zar K (upd H4 D (.lst ((qs.map V.ref).set k (.ref l)))) (zak ps rows k) us:=za6 F4.at_ hus4;have s5:Same H (upd H4 D (.lst ((qs.map V.ref).set k (.ref l)))):=fun b o e=>by
   rw[zai (zab e hD)];exact s4 _ _ e
  have hqs5:∀ q∈qs.set k l,H q=none:=fun q hq=>by
   rcases ycE hq with y | y
   ·exact hqs q y
   ·rw[y];exact hl0
  have hqk:(qs.set k l)[k]?=some l:=by
   rw[yb0,if_pos rfl,if_pos (by rw[F4.len];exact hkn)]
  generalize upd H4 D (.lst ((qs.map V.ref).set k (.ref l)))=H5 at F5 hl5 hus5 s5 ⊢;generalize qs.set k l=qs' at F5 hqs5 hqk ⊢;obtain ⟨u,hu⟩:=zhy (ps:=ps) (k:=k) (by omega) hkn;have hlt:=(zaP hT hu).1;refine ⟨_,rfl,_,rfl,_,_,_,_,rfl,rfl,SqT.of (s5 _ _ ht),zgB hkn,?_⟩;rw[zdz hu];refine n3 _ _ ?_;refine ⟨_,rfl,_,rfl,_,_,_,_,rfl,rfl,SqL.of F5.at_,zdI hqk,?_⟩;refine ⟨_,rfl,_,rfl,_,_,_,_,rfl,rfl,SqL.of F5.at_,zdI hqk,?_⟩;refine ⟨l,us,zak ps rows k,rfl,hl5,hus5,by omega,zfh hT hR (by omega) hkn,zaV hT hR hkn,fun pm H6 hpm s6 h6=>?_⟩;refine ⟨l,pm,rfl,⟨_,SqL.of (s6 _ _ hl5)⟩,⟨_,SqL.of h6⟩,?_⟩;have hul:=hus5.length;have hml:=zbh (zak ps rows k);have F6:=F5.ext s6.ext;have s06:=s5.trans s6;have hl6:=s6 _ _ hl5;have hus6:=hus5.mono s6.ext;have hpmq:pm∉qs':=fun z=>by
   obtain ⟨j,hj,e⟩:=yaW z;obtain ⟨ws,w1,_⟩:=F5.get j pm (by rw[yac hj,e]);rw[hpm]at w1;cases w1
  have F6':FA K H6 D qs' (ps.length+1) (fun j=>if j=u then accL ps rows i u++zcc ((zak ps rows k).take 0) ((zbe (zak ps rows k)).take 0) else if j=k then zak ps rows k else valL ps rows i j):=F6.congr fun j hj=>by
   show (if j=k then _ else _)=_
   by_cases c:j=u
   ·subst c;rw[if_pos rfl,if_neg (by omega)];unfold valL;rw[if_neg (by omega)];show _=_++[];rw[yaG]
   ·rw[if_neg c]
  clear F5 F6;refine zpU (xs:=us) (ys:=(zbe (zak ps rows k)).map V.bl) (by rw[yab,hml];exact hul.symm) (fun m σ H7=>∃ x5 x6:Option V,σ=[some (.ref t),some (.ref r),some (.ref D),some (.int k),some (.int u),x5,x6]∧FA K H7 D qs' (ps.length+1) (fun j=>if j=u then accL ps rows i u++zcc ((zak ps rows k).take m) ((zbe (zak ps rows k)).take m) else if j=k then zak ps rows k else valL ps rows i j)∧H7 l=some (.lst us)∧zar K H7 (zak ps rows k) us∧H7 pm=some (.lst ((zbe (zak ps rows k)).map V.bl))∧Same H H7) ?_ ?_ ?_ ?_
  ·exact ⟨_,_,rfl,F6',hl6,hus6,h6,s06⟩
  ·rintro m σ H7 _ ⟨x5,x6,rfl,F7,hl7,hus7,hm7,s7⟩;exact ⟨SqL.of hl7,SqL.of hm7⟩
  ·rintro m x y σ H7 rr hx hy ⟨x5,x6,rfl,F7,hl7,hus7,hm7,s7⟩ hrr;obtain ⟨e,he,hex⟩:=hus7.get hx;rw[yal]at hy;obtain ⟨b,hb,rfl⟩:=ybh.mp hy;have hme:=(yaf.mp he).1;have hmb:=(yaf.mp hb).1;have tke:(zak ps rows k).take (m+1)=(zak ps rows k).take m++[e]:=by rw[yaB hme,(yaf.mp he).2]
   have tkb:(zbe (zak ps rows k)).take (m+1)=(zbe (zak ps rows k)).take m++[b]:=by rw[yaB hmb,(yaf.mp hb).2]
   have hhs:zcc ((zak ps rows k).take (m+1)) ((zbe (zak ps rows k)).take (m+1))=zcc ((zak ps rows k).take m) ((zbe (zak ps rows k)).take m)++(if b=true then [e] else []):=by
    rw[tke,tkb];exact zgn (by rw[yaj,yaj];omega)
   rw[hhs];have sr:=zag hrr (.tup [x,.bl b]);refine ⟨rr,_,rfl,SqT.of zac,rfl,_,_,rfl,_,_,rfl,rfl,?_⟩;refine zrK fun N4 B4 R4 hN4 hB4 hR4=>?_;have F8:=F7.ext sr.ext;have hl8:=sr _ _ hl7;have hus8:=hus7.mono sr.ext;have hm8:=sr _ _ hm7;have s8:=s7.trans sr;have hex8:=Rep.mono sr.ext hex;clear sr F7 hl7 hus7 hm7 s7 hex;generalize upd H7 rr (.tup [x,.bl b])=H8 at F8 hl8 hus8 hm8 s8 hex8 ⊢;refine ⟨_,rfl,b,rfl,?_⟩;cases b with
   | false=>
    refine iteF ?_;refine hN4 _ _ ⟨_,_,rfl,?_,hl8,hus8,hm8,s8⟩;rw[if_neg yaA,yaG];exact F8
   | true=>
    refine iteT ?_;obtain ⟨qu,wu,hqu,hqu1,hqu2⟩:=F8.at (k:=u) (by omega);have hqu2:zar K H8 (accL ps rows i u++zcc ((zak ps rows k).take m) ((zbe (zak ps rows k)).take m)) wu:=by
     have z:=hqu2;rw[if_pos rfl]at z;exact z
    have hwl:=hqu2.length;have hal:=yar (zp9 hT hR hlen (i:=i) (j:=u) (by omega) (by omega)) hkeys;have hhl:=zgo ((zak ps rows k).take m) ((zbe (zak ps rows k)).take m);rw[yaj]at hhl;rw[yak]at hwl;have hlu:l≠qu:=fun z=>by
     subst z;obtain ⟨i1,e1⟩:=yaf.mp hqk;obtain ⟨i2,e2⟩:=yaf.mp hqu;exact yaQ.mp F8.nd u k i2 i1 hlt (e2.trans e1.symm)
    have hpu:pm≠qu:=fun z=>hpmq (by rw[z];exact yaO hqu);have hu0:=hqs5 qu (yaO hqu);have F9:=F8.put hqu hqu1 hex8;refine ⟨_,rfl,_,rfl,_,_,_,_,rfl,rfl,SqL.of F8.at_,zdI hqu,.inl ⟨rfl,_,SqL.of hqu1⟩,_,rfl,_,_,_,rfl,rfl,hqu1,zaq (by omega),?_⟩;refine hN4 _ _ ⟨_,_,rfl,F9.congr fun j hj=>?_,by rw[zai hlu];exact hl8,za6 hqu1 hus8,by rw[zai hpu];exact hm8,fun b o e=>by rw[zai (zab e hu0)];exact s8 _ _ e⟩;show (if j=u then (if j=u then _ else _)++[e] else (if j=u then _ else _))=_
    by_cases c:j=u
    ·rw[if_pos c,if_pos c,if_pos c,if_pos rfl,ya3]
    ·rw[if_neg c,if_neg c,if_neg c]
  rintro σ H7 ⟨x5,x6,rfl,F7,hl7,hus7,hm7,s7⟩;refine hN _ _ ⟨qs',_,_,_,_,rfl,F7.congr fun j hj=>?_,hqs5,s7⟩;rw[← hul,yap (yaa _),yap (by rw[hml];exact yaa _)];unfold valL;have e1:ps.length - (i+1)=k - 1:=by omega
  have e2:ps.length - i=k:=by omega
  have eacc:accL ps rows (i+1) j=accL ps rows i j++(if par ps k=some j then zbP (zak ps rows k) else []):=by
   rw[accL,e2]
  rw[e1,e2,eacc,hu];by_cases c:j=u
  ·subst c;rw[if_pos rfl,if_neg (by omega),if_pos rfl];rfl
  ·rw[if_neg c];by_cases c2:j=k
   ·rw[if_pos c2,if_pos (by omega),c2]
   ·rw[if_neg c2];by_cases c3:k < j
    ·rw[if_pos c3,if_pos (by omega)]
    ·rw[if_neg c3,if_neg (by omega),if_neg (fun z=>c (yae z).symm),yaG]
 rintro σ H3 ⟨qs,x3,x4,x5,x6,rfl,F3,hqs,s3⟩;refine n1 _ _ ?_;intro N5 n5;obtain ⟨q0,ws,hq0,hq1,hq2⟩:=F3.at (k:=0) (by omega);have ev:valL ps rows ps.length 0=accL ps rows ps.length 0:=by
  unfold valL;rw[if_neg (by omega)]
 rw[ev]at hq2;refine ⟨_,rfl,_,_,_,_,rfl,rfl,SqL.of F3.at_,zdI hq0,q0,ws,_,rfl,SqL.of hq1,hq2,fun l us hl hus=>?_⟩;have hsort:zds (accL ps rows ps.length 0)=zak ps rows 0:=zhV hT hR (k:=0) (by omega);rw[hsort]at hus;have sl:=zag hl (.lst us);have F4:=F3.ext sl.ext;have hl4:upd H3 l (.lst us) l=some (.lst us):=zac;have hus4:=hus.mono sl.ext;have s4:=s3.trans sl;have hlq:l∉qs:=fun z=>by
  obtain ⟨j,hj,e⟩:=yaW z;obtain ⟨ws,w1,_⟩:=F3.get j l (by rw[yac hj,e]);rw[hl]at w1;cases w1
 have hlD:l≠D:=fun z=>by
  have:=F3.at_;rw[← z,hl]at this;cases this
 have hl0:H l=none:=s3.free hl;clear sl;generalize upd H3 l (.lst us)=H4 at F4 hl4 hus4 s4 ⊢;refine ⟨_,rfl,_,_,_,0,rfl,rfl,F4.at_,zfw (k:=0) (by rw[yab,F4.len];exact Nat.succ_pos _),n5 _ _ ?_⟩;refine ⟨_,rfl,?_⟩;refine q D (qs.set 0 l) _ hD0 (fun b o e=>by rw[zai (zab e hD)];exact s4 _ _ e) ((F4.set (k:=0) hl4 hus4 hlq hlD).congr fun j hj=>?_) fun q hq=>?_
 ·show (if j=0 then _ else _)=_
  by_cases c:j=0
  ·rw[if_pos c,c]
  ·rw[if_neg c];unfold valL;rw[if_pos (by omega)]
 ·rcases ycE hq with y | y
  ·exact hqs q y
  ·rw[y];exact hl0
def zaF (es:List (Int×Int))(key:Int):Nat:=(es.filter fun e=>decide (e.1 < key)).length
theorem zf1 {es:List (Int×Int)}(h:Rise es):es.Pairwise (fun a b=>a.1≤b.1):=h.imp fun {a b} h=>by
 have:=zcN.mp h;omega
theorem zcy (es:List (Int×Int))(key:Int):zaF es key≤es.length:=ybk _ _
theorem zcx {key:Int}:∀{es:List (Int×Int)},es.Pairwise (fun a b=>a.1≤b.1)→(∀ e∈es.take (zaF es key),e.1 < key)∧∀ e∈es.drop (zaF es key),¬ e.1 < key
 | [],_=>⟨fun e he=>(by simp at he),fun e he=>(by simp at he)⟩
 | a::es,h=>by
  rw[List.pairwise_cons]at h;obtain ⟨h1,h2⟩:=zcx (key:=key) h.2;by_cases c:a.1 < key
  ·have e:zaF (a::es) key=zaF es key+1:=by
    unfold zaF;rw[ya5 (by simpa using c),yaI]
   rw[e,List.take_succ_cons,List.drop_succ_cons];refine ⟨fun x hx=>?_,h2⟩;rcases yat.mp hx with z | z
   ·rw[z];exact c
   ·exact h1 x z
  ·have all:∀ x∈a::es,¬ x.1 < key:=fun x hx=>by
    rcases yat.mp hx with z | z
    ·rw[z];exact c
    ·have:=h.1 x z;omega
   have e:zaF (a::es) key=0:=by
    unfold zaF;rw[ycB.mpr fun x hx=>by simpa using all x hx];rfl
   rw[e];exact ⟨fun x hx=>(by simp at hx),fun x hx=>all x (by simpa using hx)⟩
theorem zfM {es:List (Int×Int)}{key:Int}(h:es.Pairwise (fun a b=>a.1≤b.1)):es.take (zaF es key)=es.filter fun e=>decide (e.1 < key):=by
 obtain ⟨h1,h2⟩:=zcx (key:=key) h
 conv=>rhs;rw[← ya2 (zaF es key) es]
 rw[ya6,List.filter_eq_self.mpr fun e he=>yah (h1 e he),ycB.mpr fun e he z=>h2 e he (yaE z),yaG]
theorem zkB {es:List (Int×Int)}{key:Int}(h:es.Pairwise (fun a b=>a.1≤b.1)){i:Nat}(hi:i < es.length):(i < zaF es key→es[i].1 < key)∧(zaF es key≤i→¬ es[i].1 < key):=by
 obtain ⟨h1,h2⟩:=zcx (key:=key) h;refine ⟨fun z=>h1 _ ?_,fun z=>h2 _ ?_⟩
 ·exact ycA.mpr ⟨i,by omega,rfl⟩
 ·refine List.mem_drop_iff_getElem.mpr ⟨i - zaF es key,by omega,?_⟩;congr 1;omega
structure zrm (C F hd:List (Int×Int))(key:Int)(st:Nat):Prop where
 lo:st≤zaF C key
 hi:zaF C key≤st+2
 none:st=0→∀ e∈hd,¬ e.1 < key
 some:st≠0→∃ h:st - 1 < C.length,C[st - 1]∈hd∧C[st - 1].1 < key∧C[st - 1]∈F
theorem zpF {ps:List Nat}(T:zaC ps){rows:List (List Int)}(R:za2 rows)(few:ps.length≤40){k c:Nat}(hk:k < ps.length+1)(hc:par ps c=some k)(key:Int) :
  zrm (zak ps rows c) (zak ps rows k) (zbP (zak ps rows c)) key (stN (zak ps rows c) ((zak ps rows k).take (zaF (zak ps rows k) key))):=by
 have hcn:=(zaP T hc).2;have hst:=zqk T R hk hc (rows:=rows) (zaF (zak ps rows k) key) (zcy _ _);have hF:=zf1 (zaV T R hk);have hC:=zf1 (zaV T R hcn);have hcome:=zm2 T R hk hc (rows:=rows);have hgr:=fun t=>zpf (zfh T R few hcn) (zaV T R hcn) (t:=t);have hla:=zpe (zfh T R few hcn) (zaV T R hcn);have hsub:=zaY (zak ps rows c);have hpick:=zg0 (zak ps rows c);have hspl:∀ j∈spL (zak ps rows c),j < (zak ps rows c).length:=fun j hj=>by
  have:=(zjF (zak ps rows c)).lt hj;rw[zbh]at this;exact this
 have ht:inN (zak ps rows c) ((zak ps rows k).take (zaF (zak ps rows k) key))=zaF (zbP (zak ps rows c)) key:=by
  unfold inN;rw[zfM hF,← hcome];unfold zaF;rw[ycq,ycq];congr 2
  funext e
  rw[Bool.and_comm]
 rw[hst,ht];have hmem:∀ e∈zbP (zak ps rows c),e∈zak ps rows k:=fun e he=>by
  rw[← hcome]at he;exact (ybd.mp he).1
 clear hst ht hcome hF;generalize zak ps rows k=F at hmem ⊢;generalize zak ps rows c=C at *;have hhd:(zbP C).Pairwise (fun a b=>a.1≤b.1):=hC.sublist hsub;have hlen:(zbP C).length=(spL C).length:=by rw[hpick,yab]
 have hti:=zcy (zbP C) key;have hat:∀ i (h:i < (spL C).length),∃(h1:(spL C)[i] < C.length) (h2:i < (zbP C).length),(zbP C)[i]=C[(spL C)[i]]:=fun i h=>by
  have h1:=hspl _ (yay h);refine ⟨h1,by omega,?_⟩;have e:(zbP C)[i]?=some C[(spL C)[i]]:=by
   rw[hpick,yal,yac h];show some (C.getD (spL C)[i] (0,0))=_;rw[yad,yac h1];rfl
  exact (yaf.mp e).2
 have bat:=fun i h=>zkB (key:=key) hhd (i:=i) h;have cat:=fun i h=>zkB (key:=key) hC (i:=i) h;have hall:=zcx (key:=key) hhd;generalize zaF (zbP C) key=t at *;have hsp:∀ i (h:i < (spL C).length),stAt (spL C) (i+1)=(spL C)[i]+1:=fun i h=>by
  unfold stAt;rw[if_neg (by omega),ybN,yad,yac h];rfl
 have before:∀ t',t=t'+1→∃(h:t' < (spL C).length) (h1:(spL C)[t'] < C.length),stAt (spL C) t=(spL C)[t']+1∧C[(spL C)[t']]∈zbP C∧C[(spL C)[t']].1 < key:=fun t' e=>by
  have h:t' < (spL C).length:=by omega
  obtain ⟨h1,h2,h3⟩:=hat t' h;refine ⟨h,h1,by rw[e];exact hsp t' h,?_,?_⟩
  ·rw[← h3];exact yay h2
  ·rw[← h3];exact (bat t' h2).1 (by omega)
 refine ⟨?_,?_,?_,?_⟩
 ·cases t with
  | zero=>exact yaF _
  | succ t'=>
   obtain ⟨h,h1,e,_,hlt⟩:=before t' rfl;rw[e];refine Nat.succ_le_of_lt (yck fun z=>(cat _ h1).2 z hlt)
 ·rcases Nat.lt_or_ge t (spL C).length with z | z
  ·obtain ⟨h1,h2,h3⟩:=hat t z;have hge:¬ C[(spL C)[t]].1 < key:=by
    rw[← h3];exact (bat t h2).2 (yaa _)
   have hle:zaF C key≤(spL C)[t]:=ybC fun y=>hge ((cat _ h1).1 y);have:=hgr t z;rw[hsp t z]at this;omega
  ·have e:t=(spL C).length:=by omega
   rw[e];have:=zcy C key;omega
 ·intro z;cases t with
  | zero=>exact fun e he=>hall.2 e (by simpa using he)
  | succ t'=>
   obtain ⟨_,_,e,_⟩:=before t' rfl;omega
 ·intro z;cases t with
  | zero=>exact absurd rfl z
  | succ t'=>
   obtain ⟨h,h1,e,hm,hlt⟩:=before t' rfl;have e2:stAt (spL C) (t'+1) - 1=(spL C)[t']:=by omega
   refine ⟨by omega,?_⟩;have e3:C[stAt (spL C) (t'+1) - 1]'(by omega)=C[(spL C)[t']]:=by
    congr 1
   rw[e3];exact ⟨hm,hlt,hmem _ hm⟩
theorem zdS {β:Type}{F:Nat→β→Prop}{n:Nat}{l:List β}{k:Nat}(h:Paired F (List.range n) l)(hk:k < n):∃ b,l[k]?=some b∧F k b:=zch h (ybt hk)
theorem zki {Av:List Addr}{H:Hp}{es:List En}{ps:List Nat}{rows:List (List Int)}:∀{cs:List Nat} {xs:List V},Paired (zbK Av H es ps rows) cs xs→∃ kvs:List (Key×V),Paired (fun (z:V) (kv:Key×V)=>∃ b,z=.ref b∧H b=some (.tup [kV kv.1,kv.2])) xs kvs∧kvs.map (·.1)=cs.map (fun c:Nat=>(Sum.inl (c:Int):Key))∧
  ∀ c∈cs,cs.Nodup→∃ s,valV kvs (.inl (c:Int))=some (.ref s)∧H s=some (.lst ((zhg es (zak ps rows c)).map nV))
 | _,_,.nil=>⟨[],.nil,rfl,fun c hc=>nomatch hc⟩
 | c0::cs,_,.cons ⟨j,s,e1,_,e3,e4⟩ t=>by
  obtain ⟨kvs,h1,h2,h3⟩:=zki t;refine ⟨(.inl (c0:Int),.ref s)::kvs,.cons ⟨j,e1,e3⟩ h1,by rw[yax,h2];rfl,fun c hc hn=>?_⟩;rw[ya0]at hn;unfold valV;by_cases z:c=c0
  ·subst z;exact ⟨s,by rw[List.find?_cons_of_pos (by simp)];rfl,e4⟩
  ·rw[List.find?_cons_of_neg (by simp;omega)];rcases yat.mp hc with y | y
   ·exact absurd y z
   ·exact h3 c y hn.2
theorem zgv (ps:List Nat)(k n:Nat):(zaS ps k n).Nodup:=by
 unfold zaS;exact List.Pairwise.filter _ List.nodup_range
structure zdn (H:Hp)(wa:Addr)(ps w:List Nat):Prop where
 at_:H wa=some (.lst (w.map nV))
 len:w.length≤900
 ne:w≠[]
 ch:zjs ps w
 kn:∀ x∈w,x < ps.length+1
def zlJ (K:Frag):Sp:=fun vs H Q _=>∃(m x:Int),vs=[.int m,.int x]∧0≤x∧x < m∧Q (.bl true) H
theorem znI (T:Txt K mg)(qan:DF K mg "is_one_of_first" zbt zbm)(qa9:FC P w K mg base 1 "is_whole" zcr (ziS K)):FC P w K mg base 2 "is_one_of_first" zbm (zlJ K):=by
 refine qan.ok qaW (fun vs H Q E h=>?_) (fun f cdv A outer s H vs Q E hr h=>?_)
 ·obtain ⟨m,x,rfl,_⟩:=h;rfl
 obtain ⟨m,x,rfl,h0,h1,q⟩:=h;refine ⟨_,(zaf (zat (zl1 (zax qa9 hr (zaa (pv 1) zad)) (zjV (zjX zl3 ziX zae (pv 1) (pv 0)))))),?_⟩;refine ⟨_,rfl,_,true,rfl,.int x,_,rfl,?_⟩;refine iteT ?_;refine ⟨_,rfl,_,_,rfl,rfl,_,rfl,?_⟩;refine zrD h0 ?_;refine ⟨_,rfl,_,_,rfl,rfl,?_⟩;show Q (.bl (decide (x < m))) H;rw[yah h1];exact q
theorem zne {α:Type}{f:α→V}{us:List α}{c:α}:atI ((us++[c]).map f) (-1)=some (f c):=by
 unfold atI ixN;rw[yai];simp;rw[if_pos (by omega)];show (List.map f us++[f c])[(-1+((us.length:Int)+1)).toNat]?=_;rw[show (-1+((us.length:Int)+1)).toNat=us.length by omega,ya7 (by rw[yab];exact yaa _),yab,yb1];rfl
def zlL (K:Frag):Sp:=fun vs H Q _=>∃(t a:Addr) (ps w:List Nat),vs=[.ref t,.ref a]∧H t=some (.tup (zcp ps))∧ps.length≤900∧H a=some (.lst (w.map nV))∧w.length≤1000∧w≠[]∧zjs ps w∧(∀ x∈w,x < ps.length+1)∧Q (.bl true) H
theorem znO (T:Txt K mg)(qbR:DF K mg "is_way" zfZ ze3)(qba:FC P w K mg base 2 "is_one_of_first" zbm (zlJ K)):FC P w K mg base 3 "is_way" ze3 (zlL K):=by
 refine qbR.ok qbh (fun vs H Q E h=>?_) (fun f cdv A outer s H vs Q E hr h=>?_)
 ·obtain ⟨t,a,ps,w,rfl,_⟩:=h;rfl
 obtain ⟨t,a,ps,w,rfl,ht,hz,ha,hwl,hne,hC,hlt,q⟩:=h;have hpos:0 < w.length:=ycr.mpr hne;refine ⟨_,(za3 (zbk (PW.pt (zgc (zdu (zdj (zam zcd rfl T.qac boot_isinstance (zaa (pv 1) (zaa (zc6 (v:=.ty "list") rfl T.qaY boot_list rfl) zad))))) (zeU (zau zcO (zam zal rfl T.qag boot_len (zaa (pv 1) zad)) zae (zaA _))))) (zaf (zat zbR)) zaB)
   (zah (zaR PassesOwn.never rfl (zbq (pv 1)) (zan (i:=2) qbh.nd rfl (Or.inl rfl)) (zaf (zbk (zdu (zdj (zax qba hr (zaa (zam zal rfl T.qag boot_len (zaa (pv 0) zad)) (zaa (pv 2) zad))))) (zaf (zat zbR)) zaB)))
   (zah (zaR PassesOwn.never rfl (zdv rfl T.qad (zaa zae (zaa (zam zal rfl T.qag boot_len (zaa (pv 1) zad)) zad))) (zan (i:=3) qbh.nd rfl (Or.inl rfl)) (zaf (zbk (zau ziW (zay zaN (pv 0) (zay zaz (pv 1) (pv 3) (fun _ _=>rfl)) (fun _ _=>rfl)) (zay zaz (pv 1) (zao zbb (pv 3) zae) (fun _ _=>rfl)) (zaA _)) (zaf (zat zbR)) zaB)))
   (zaf (zat zbR))))),?_⟩
 refine ⟨fun σ' H'=>σ'=[some (.ref t),some (.ref a),none,none]∧H=H',?_,?_⟩
 ·refine ⟨_,rfl,_,_,_,_,rfl,.lst ha,zoP,_,rfl,?_⟩;refine iteF ?_;refine ⟨_,rfl,_,_,rfl,.inl (SqL.of ha),rfl,_,rfl,?_⟩;refine zrE (fun z=>?_) ?_
  ·have:=V.int.inj z;rw[yab]at this;omega
  exact ⟨rfl,rfl⟩
 rintro σ' H' ⟨rfl,rfl⟩;refine ⟨_,rfl,a,rfl,⟨_,SqL.of ha⟩,?_⟩;refine zcM (xs:=w.map nV) (fun i σ H2=>∃ x2:Option V,σ=[some (.ref t),some (.ref a),x2,none]∧H2=H) ?_ ?_ ?_ ?_
 ·exact ⟨_,rfl,rfl⟩
 ·rintro i σ H2 _ ⟨x2,rfl,rfl⟩;exact SqL.of ha
 ·rintro i x σ H2 hx ⟨x2,rfl,rfl⟩;obtain ⟨hi,rfl⟩:=zg1 hx;have hm:=hlt (w.getD i 0) (by rw[yad,yac hi];exact yay hi);refine ⟨_,rfl,_,_,rfl,.inr (SqT.of ht),_,rfl,_,_,rfl,by omega,by rw[zaw];omega,_,rfl,?_⟩;refine iteF ?_;exact ⟨_,rfl,rfl⟩
 ·rintro σ H2 ⟨x2,rfl,rfl⟩;refine ⟨_,rfl,_,_,rfl,.inl (SqL.of ha),1,_,rfl,⟨by omega,by omega,by rw[yab];omega,by rw[yab];omega⟩,?_⟩;have en:((((w.map nV).length:Nat):Int) - 1).toNat=w.length - 1:=by rw[yab];omega
  rw[en];refine zbc (n:=w.length - 1) (fun i σ H3=>∃ x2 x3:Option V,σ=[some (.ref t),some (.ref a),x2,x3]∧H3=H2) ?_ ?_ ?_
  ·exact ⟨_,_,rfl,rfl⟩
  ·rintro i σ H3 hi ⟨x2,x3,rfl,rfl⟩;have ek:(1:Int)+(i:Int)=((i+1:Nat):Int):=by omega
   rw[ek];have h1:=hC i (by omega);have hm:=hlt (w.getD (i+1) 0) (by rw[yad,yac (show i+1 < w.length by omega)];exact yay _);have hat1:atI (w.map nV) ((i+1:Nat):Int)=some (nV (w.getD (i+1) 0)):=zel (by omega);have hat0:atI (w.map nV) (((i+1:Nat):Int) - 1)=some (nV (w.getD i 0)):=by
    rw[show ((i+1:Nat):Int) - 1=((i:Nat):Int) by omega];exact zel (by omega)
   have hatT:=zgB hm;rw[zdz h1]at hatT;refine ⟨_,rfl,_,rfl,_,rfl,_,_,_,_,rfl,rfl,SqL.of ha,hat1,_,_,_,_,rfl,rfl,SqT.of ht,hatT,_,rfl,_,rfl,_,_,rfl,rfl,_,_,_,_,rfl,rfl,SqL.of ha,hat0,rfl,_,rfl,?_⟩;refine zit rfl ?_;exact ⟨_,_,rfl,rfl⟩
  ·rintro σ H3 ⟨x2,x3,rfl,rfl⟩;exact q
theorem zdn.same {H H':Hp}{wa:Addr}{ps w:List Nat}(h:zdn H wa ps w)(e:Same H H'):zdn H' wa ps w:=⟨e _ _ h.at_,h.len,h.ne,h.ch,h.kn⟩
def zox (K:Frag):Sp:=fun vs H Q _=>∃(t a:Addr) (ps w:List Nat),vs=[.ref t,.ref a]∧H t=some (.tup (zcp ps))∧ps.length≤900∧zdn H a ps w∧Q .non H
theorem zpv (T:Txt K mg)(qbb:DF K mg "need_way" zdO zc4)(qcK:FC P w K mg base 3 "is_way" ze3 (zlL K)):FC P w K mg base 4 "need_way" zc4 (zox K):=by
 refine qbb.ok qb2 (fun vs H Q E h=>?_) (fun f cdv A outer s H vs Q E hr h=>?_)
 ·obtain ⟨t,a,ps,w,rfl,_⟩:=h;rfl
 obtain ⟨t,a,ps,w,rfl,ht,hl,W,q⟩:=h;refine ⟨_,(zaf (zbk (zdu (zdj (zax qcK hr (zaa (pv 0) (zaa (pv 1) zad))))) (zaf znv) zaB)),?_⟩;refine ⟨_,rfl,_,rfl,t,a,ps,w,rfl,ht,hl,W.at_,by have:=W.len;omega,W.ne,W.ch,W.kn,_,rfl,?_⟩;refine iteF ?_;exact q
theorem zni {w:List Nat}{i:Nat}(h:i < w.length):w.take (i+1)=w.take i++[w.getD i 0]:=by
 rw[yaB h,yad,yac h];rfl
theorem zp2 (xs:List V)(a:Nat):cutV xs none (some (a:Int))=xs.take a:=by
 unfold cutV;rw[zem,show HT.sIx xs.length 0 none=0 from rfl,ycb,Nat.sub_zero];by_cases h:a≤xs.length
 ·rw[ybr h]
 ·rw[ycn (by omega),yap (yaa _),yap (by omega)]
theorem ziA (xs:List V)(a:Nat):cutV xs (some (a:Int)) none=xs.drop a:=by
 unfold cutV;rw[zem,show HT.sIx xs.length xs.length none=xs.length from rfl];by_cases h:a≤xs.length
 ·rw[ybr h,yap (by rw[yaP];exact yaa _)]
 ·rw[ycn (by omega),yaV (yaa _),yaV (show xs.length≤a by omega),List.take_nil]
def ownB (rows:List (List Int))(k:Nat)(key:Int):Nat:=((zbx rows k).filter fun x=>decide (x < key)).length
theorem zkT {ps:List Nat}(T:zaC ps){rows:List (List Int)}(R:za2 rows){k:Nat}(hk:k < ps.length+1):((zak ps rows k).filter fun e=>decide (e.2=(k:Int)))=ownE rows k:=by
 have hup:=R.at_up k;refine ziT ((zaV T R hk).filter _) ?_ fun e=>?_
 ·unfold ownE;refine List.Pairwise.map _ (R:=fun a b:Int=>a < b) (fun a b (h:a < b)=>zcN.mpr (.inl h)) hup
 ·rw[ybd];refine ⟨fun zq0=>?_,fun h=>⟨(zfg T hk).mpr (.inl h),yah (zib hk h).2⟩⟩;obtain ⟨h1,h2⟩:=zq0;rcases (zfg T hk).mp h1 with h | ⟨c,hc,h⟩
  ·exact h
  ·exfalso;have h2:=yaE h2;have hcn:=(zaP T hc);obtain ⟨j,hj,hb,e2,_⟩:=zeb T R hcn.2 e ((zaY _).subset h);have ej:j=k:=by omega
   subst ej;have:=zfe T hcn.1;rw[hb]at this;cases this
theorem zqE {ps:List Nat}(T:zaC ps){rows:List (List Int)}(R:za2 rows){k:Nat}(hk:k < ps.length+1)(key:Int):zer k ((zak ps rows k).take (zaF (zak ps rows k) key))=ownB rows k key:=by
 rw[zfM (zf1 (zaV T R hk))];unfold zer;have e:((zak ps rows k).filter fun e=>decide (e.1 < key)).filter (fun e=>decide (e.2=(k:Int)))=(ownE rows k).filter fun e=>decide (e.1 < key):=by
  rw[← zkT T R hk,ycq,ycq];congr 1
  funext e
  rw[Bool.and_comm]
 rw[e];unfold ownE ownB;rw[List.filter_map,yab];rfl
theorem znA {ps:List Nat}(T:zaC ps){rows:List (List Int)}(R:za2 rows){k:Nat}(hk:k < ps.length+1)(key:Int):atI ((znB k (zak ps rows k)).map nV) ((zaF (zak ps rows k) key:Nat):Int)=some (.int ((ownB rows k key:Nat):Int)):=by
 have hle:=zcy (zak ps rows k) key;refine zbI ?_;rw[yal];unfold znB;rw[yal,ybt (by omega),← zqE T R hk key];rfl
theorem zqd {wy:List Nat}{i:Nat}(h:i < wy.length):(wy.map nV)[i]?=some (nV (wy.getD i 0)):=by
 rw[yal,yad,yac h];rfl
theorem zjy {wy:List Nat}{i:Nat}(h:i < wy.length):wy.getD i 0∈wy:=by
 rw[yad,yac h];exact yay h
def zlH (K:Frag):Sp:=fun vs H Q _=>∃(Av:List Addr) (br:Addr) (ps:List Nat) (rows:List (List Int)) (xs:List V) (k c m:Nat),vs=[.ref br,.int k,.int m,.int c]∧H br=some (.lst xs)∧Paired (BrAt Av H ps rows) (List.range (ps.length+1)) xs∧zaC ps∧k < ps.length+1∧par ps c=some k∧m≤(zak ps rows k).length∧
 ∀ H',Same H H'→Q (.int (stN (zak ps rows c) ((zak ps rows k).take m):Nat)) H'
theorem znG (T:Txt K mg)(qbc:DF K mg "start_in" zdN zc3):FC P w K mg base 1 "start_in" zc3 (zlH K):=by
 refine qbc.ok qb3 (fun vs H Q E h=>?_) (fun f cdv A outer s H vs Q E hr h=>?_)
 ·obtain ⟨Av,br,ps,rows,xs,k,c,m,rfl,_⟩:=h;rfl
 obtain ⟨Av,br,ps,rows,xs,k,c,m,rfl,hbr,hB,hT,hk,hc,hm,q⟩:=h;obtain ⟨x,hx,b,o,j,ys,rfl,_,_,hb,ho,hj,hJ⟩:=zdS hB hk;obtain ⟨kvs,h1,h2,h3⟩:=zki hJ;have hcm:c∈zaS ps k (ps.length+1):=zaE.mpr ⟨(zaP hT hc).2,hc⟩;obtain ⟨sa,hv,hsa⟩:=h3 c hcm (zgv _ _ _);refine ⟨_,(zaf (zat (zay zaz (zdy (zet hr) (zbi (zlh rfl) rfl T.qc0 boot_dict (zaa (zay zaN (zay zaz (pv 0) (pv 1) (fun _ _=>rfl)) zae (fun _ _=>rfl)) zad)) (pv 3) (fun _ _=>rfl)) (pv 2) (fun _ _=>rfl)))),?_⟩;refine ⟨_,rfl,_,rfl,_,_,_,_,rfl,rfl,SqL.of hbr,zbI hx,_,_,_,_,rfl,rfl,SqT.of hb,rfl,?_⟩;refine ⟨j,ys,kvs,rfl,SqL.of hj,h1,?_,fun d hd=>?_⟩
 ·rw[h2];exact List.Pairwise.map (R:=fun a b:Nat=>a≠b) _ (fun a b (n:a≠b) z=>n (by have:=Sum.inl.inj z;omega)) (zgv ps k _)
 have sd:=zag hd (.dK kvs);refine ⟨_,rfl,d,.ref sa,rfl,?_,?_⟩
 ·have:=DGet.k (k:=(.inl (c:Int))) (zac (H:=H) (a:=d) (o:=.dK kvs));rw[hv]at this;exact this
 refine ⟨_,rfl,_,_,_,_,rfl,rfl,SqL.of (sd _ _ hsa),zbI (v:=nV (stN (zak ps rows c) ((zak ps rows k).take m))) ?_,q _ sd⟩;rw[yal];unfold zhg;rw[yal,ybt (by omega)];rfl
def Kp0 (H H':Hp):Prop:=∀ b o,(∀ tab,o≠.tbl tab)→H b=some o→H' b=some o
theorem zjZ {K:Frag}{H H':Hp}(k:Kp0 H H'):∀{es:List (Int×Int)} {ws:List V},zar K H es ws→zar K H' es ws
 | _,_,.nil=>.nil
 | _,_,.cons h t=>by
  refine .cons ?_ (zjZ k t);obtain ⟨a,x1,x2,rfl,hT,e1,e2⟩:=(show hasP K H _ _ from h);exact ⟨a,x1,x2,rfl,k _ _ (fun _ z=>nomatch z) hT,e1,e2⟩
theorem zkq {K:Frag}{H H':Hp}{ps:List Nat}{rows:List (List Int)}{js:List Nat}{qs:List Addr}(k:Kp0 H H')(h:zaD K H ps rows js qs):zaD K H' ps rows js qs:=zaT (fun j q ⟨ws,h1,h2⟩=>⟨ws,k _ _ (fun _ z=>by cases z) h1,zjZ k h2⟩) h
theorem zrO {H H':Hp}{ps:List Nat}{rows:List (List Int)}{js:List Nat}{xs:List V}(k:Kp0 H H')(h:Paired (BrAt [] H ps rows) js xs):Paired (BrAt [] H' ps rows) js xs:=zaT (fun j x ⟨b,o,j',ys,h1,h2,h3,h4,h5,h6,h7⟩=>
 ⟨b,o,j',ys,h1,h2,h3,k _ _ (fun _ z=>by cases z) h4,k _ _ (fun _ z=>by cases z) h5,k _ _ (fun _ z=>by cases z) h6,zaT (fun c y ⟨a,s,g1,g2,g3,g4⟩=>⟨a,s,g1,g2,k _ _ (fun _ z=>by cases z) g3,k _ _ (fun _ z=>by cases z) g4⟩) h7⟩) h
theorem zo9 {σ:L2.St}{H:Hp}{Q:Bool→Hp→Prop}(h:Q true H):tYes σ H Q:=h
theorem Kp0.of {H H1:Hp}(a:Same H H1):Kp0 H H1:=fun c o _ h=>a c o h
theorem zjQ {rows:List (List Int)}{r:List Int}(h:r∈rows):r.length≤zcv rows:=by
 unfold zcv
 induction rows with
 | nil=>cases h
 | cons a l ih=>
  rw[yax,yaS];rcases yat.mp h with z | z
  ·rw[z];omega
  ·have:=ih z;omega
theorem zoI {rows:List (List Int)}{k:Nat}(h:k < rows.length):zbx rows k∈rows:=by
 unfold zbx;rw[yad,yac h];exact yay h
theorem zie (T:Txt K mg)(qaF:DF K mg "_law_children" zcE zca):FC P w K mg base 1 "_law_children" zca (zcS K):=by
 refine qaF.ok qbI (fun vs H Q E h=>?_) (fun f cdv A outer s H vs Q E hr h=>?_)
 ·obtain ⟨t,ps,k,rfl,_⟩:=h;rfl
 obtain ⟨t,ps,k,rfl,ht,hz,q⟩:=h;refine ⟨_,(zaf (zat (zbG (N:=["_law_k","_law_tree_here","_law_knot"]) (own:=1) (cap:=[0,1]) rfl (zaW rfl T.qad (zaa (zam zal rfl T.qag boot_len (zaa (pv 0) zad)) zad)) ⟨rfl,rfl,rfl,rfl,rfl,rfl⟩ (fun _ _ _ _ _=>(zan (i:=0) (show List.Nodup (["_law_k","_law_tree_here","_law_knot"]:List Str) by decide +kernel) rfl (Or.inl rfl))) (fun _ _ _ _ _=>(zdt (zau zcO (zay (zgl (K:=K)) (pv 1) (pv 0) (fun _ _=>rfl)) (pv 2) (zaA _)))) (fun _ _ _ _ _=>(pv 0))))),?_⟩;refine ⟨_,rfl,_,_,rfl,.inr (SqT.of ht),_,rfl,by omega,by rw[zaw];omega,fun D hD=>?_⟩;have el:((((zcp ps).length:Nat):Int)).toNat=ps.length+1:=by rw[zaw,ya9]
 rw[el];refine zck (n:=ps.length+1) (fun j σ H3=>∃ x0:Option V,σ=[x0,some (.ref t),some (.int k)]∧H3 D=some (.lst ((zaS ps k j).map nV))∧But D H H3) ?_ ?_ ?_
 ·exact ⟨_,rfl,zac,fun b o n e=>by rw[zai n];exact e⟩
 ·rintro j m σ H3 hm hj ⟨x0,rfl,h3,k3⟩;rw[ybg];have h3t:=k3 _ _ (zab ht hD) ht;have hlen:=zcX ps k j;refine ⟨_,rfl,_,rfl,_,_,_,_,rfl,rfl,SqT.of h3t,zgB hj,_,rfl,zh8 _ _ _,_,rfl,?_⟩;refine ite2 (fun c=>?_) (fun c=>?_)
  ·have c':par ps j=some k:=zhz.mp (yaE c);refine ⟨_,rfl,_,h3,zaq (by rw[yab];omega),m - 1,by omega,by omega,_,rfl,?_,fun b o n e=>by rw[zai n];exact k3 b o n e⟩;rw[zac,zdf,if_pos c',yai];rfl
  ·have c':¬ par ps j=some k:=fun z=>c (yah (zhz.mpr z));refine ⟨m - 1,by omega,by omega,_,rfl,?_,k3⟩;rw[h3,zdf,if_neg c',yaG]
 ·rintro σ H3 ⟨x0,rfl,h3,k3⟩;exact q D H3 hD (fun b o e=>k3 b o (zab e hD) e) h3
def zlN (K:Frag):Sp:=fun vs H Q _=>∃(r:Addr) (as:List Addr) (rows:List (List Int)),vs=[.ref r]∧H r=some (.tup (as.map V.ref))∧zaZ H as rows∧zcv rows≤900∧
 ∀(p:Addr) (H':Hp),Same H H'→H' p=some (.lst (rows.flatten.map V.int))→H p=none→Q (.ref p) H'
theorem zir (rows:List (List Int)):rows.flatten.length=zcv rows:=by
 unfold zcv;rw[List.length_flatten]
theorem zld {rows:List (List Int)}{i:Nat}{row:List Int}(h:rows[i]?=some row):(rows.take (i+1)).flatten=(rows.take i).flatten++row:=by
 obtain ⟨hi,rfl⟩:=yaf.mp h;rw[yaB hi,ybP];simp
theorem ziq (rows:List (List Int))(i:Nat):(rows.take i).flatten.length≤zcv rows:=by
 rw[← zir]
 conv=>rhs;rw[← ya2 i rows]
 rw[ybP,yak];omega
theorem znQ (T:Txt K mg)(qbs:DF K mg "_law_every" zeO zd2):FC P w K mg base 1 "_law_every" zd2 (zlN K):=by
 refine qbs.ok qaJ (fun vs H Q E h=>?_) (fun f cdv A outer s H vs Q E hr h=>?_)
 ·obtain ⟨r,as,rows,rfl,_⟩:=h;rfl
 obtain ⟨r,as,rows,rfl,hr0,hA,hz,q⟩:=h;have hal:=hA.length;refine ⟨_,(zah (zap (i:=1) qaJ.nd rfl (Or.inl rfl) (zaG zad))
   (zah (zaR PassesOwn.never rfl (zeh (pv 0)) (zan (i:=2) qaJ.nd rfl (Or.inl rfl)) (zaf (zap (i:=1) qaJ.nd rfl (Or.inl rfl) (zao zbO (pv 1) (zbi zbJ rfl T.qaY boot_list (zaa (pv 2) zad))))))
   (zaf (zat (pv 1))))),?_⟩
 refine ⟨(by show 0≤sizeLine;decide),fun p hp=>?_⟩;have sp:=zag hp (.lst []);refine ⟨_,rfl,r,rfl,⟨_,SqT.of (sp _ _ hr0)⟩,?_⟩;refine zgp (xs:=as.map V.ref) (fun i σ H2=>∃(c:Addr) (x2:Option V),σ=[some (.ref r),some (.ref c),x2]∧H2 c=some (.lst (((rows.take i).flatten).map V.int))∧Same H H2∧H c=none) ?_ ?_ ?_ ?_
 ·exact ⟨p,_,rfl,zac,sp,hp⟩
 ·rintro i σ H2 _ ⟨c,x2,rfl,_,s2,_⟩;exact SqT.of (s2 _ _ hr0)
 ·rintro i x σ H2 hx ⟨c,x2,rfl,h2,s2,hc⟩;rw[yal]at hx;obtain ⟨b,hb,rfl⟩:=ybh.mp hx;obtain ⟨row,hrow,h1b⟩:=zch hA hb;have h2b:=s2 _ _ h1b;have e:=zld hrow;have hz2:=ziq rows (i+1);rw[e,yak]at hz2;refine ⟨_,rfl,_,rfl,b,_,rfl,.inr (SqT.of h2b),fun l hl=>?_⟩;have sl:=zag hl (.lst (row.map V.int));refine ⟨c,l,_,_,rfl,rfl,sl _ _ h2,zac,ybw (zaq (by rw[yab,yab];omega)),fun u hu=>?_⟩;have su:=zag hu (.lst ((rows.take i).flatten.map V.int++row.map V.int));refine ⟨u,_,rfl,?_,s2.trans (Same.trans sl su),s2.free (sl.free hu)⟩;rw[zac,e,yai]
 ·rintro σ H2 ⟨c,x2,rfl,h2,s2,hc⟩;rw[yab,hal,yap (yaa _)]at h2;refine ⟨_,rfl,?_⟩;exact q c H2 s2 h2 hc
def zjG (K:Frag):Sp:=fun vs H Q _=>∃(d L:Addr),vs=[.ref d]∧LS K L d H∧
 ∀(st:Addr) (ps:List Nat) (rows:List (List Int)) (t rs:Addr) (as:List Addr) (H':Hp),zbs H' st ps rows t rs as→Keep d H H'→LS K L d H'→Q (.ref st) H'
theorem zkX (T:Txt K mg)(qbt:DF K mg "_law_stand" zeI zdW)(qaa:FC P w K mg base 2 "_law_take" za9 (zdr K))(qcL:FC P w K mg base 3 "_law_tree" zeY (zou K))(qcM:FC P w K mg base 5 "_law_rows" zeZ (zov K)):FC P w K mg base 6 "_law_stand" zdW (zjG K):=by
 refine qbt.ok qaK (fun vs H Q E h=>?_) (fun f cdv A outer s H vs Q E hr h=>?_)
 ·obtain ⟨d,L,rfl,_⟩:=h;rfl
 obtain ⟨d,L,rfl,hs,q⟩:=h;have ndT:∀{H':Hp} {a:Addr} {o:List V},LS K L d H'→H' a=some (.tup o)→a≠d:=fun {H' a o} s e z=>by
  obtain ⟨_,_,_,e2,_⟩:=s.ex;rw[← z,e]at e2;cases e2
 have ndL:∀{H':Hp} {a:Addr} {o:List V},LS K L d H'→H' a=some (.lst o)→a≠d:=fun {H' a o} s e z=>by
  obtain ⟨_,_,_,e2,_⟩:=s.ex;rw[← z,e]at e2;cases e2
 refine ⟨_,(zah (zfD (zay zaz (zaG (zaa (zbu (zaa zae (zaa zae zad))) (zaa (zbu (zaa zae (zaa zae zad))) (zaa (zbu (zaa zae (zaa zae zad))) (zaa (zbu (zaa zae (zaa zae zad))) zad))))) (zax qaa hr (zaa (pv 0) (zaa zae zad))) (fun _ _=>rfl)) (zge rfl (za5 (zan (i:=1) qaK.nd rfl (Or.inl rfl)) (za5 (zan (i:=2) qaK.nd rfl (Or.inl rfl)) zdx))))
   (zah (zap (i:=3) qaK.nd rfl (Or.inl rfl) (zax qcL hr (zaa (pv 0) (zaa (pv 1) zad))))
   (zaf (zat (zbu (zaa (pv 3) (zaa (zax qcM hr (zaa (pv 0) (zaa (zam zal rfl T.qag boot_len (zaa (pv 3) zad)) (zaa (pv 2) zad)))) zad))))))),?_⟩
 refine ⟨(by show 2≤sizeLine;decide),fun a1 ha1=>?_⟩;have e1:=zag ha1 (.tup [.int 8,.int 9]);have f1:upd H a1 (.tup [.int 8,.int 9]) a1=some (.tup [.int 8,.int 9]):=zac;generalize upd H a1 (.tup [.int 8,.int 9])=G1 at e1 f1 ⊢;refine ⟨(by show 2≤sizeLine;decide),fun a2 ha2=>?_⟩;have e2:=zag ha2 (.tup [.int 8,.int 9]);have f2:upd G1 a2 (.tup [.int 8,.int 9]) a2=some (.tup [.int 8,.int 9]):=zac;generalize upd G1 a2 (.tup [.int 8,.int 9])=G2 at e2 f2 ⊢;refine ⟨(by show 2≤sizeLine;decide),fun a3 ha3=>?_⟩;have e3:=zag ha3 (.tup [.int 4,.int 30]);have f3:upd G2 a3 (.tup [.int 4,.int 30]) a3=some (.tup [.int 4,.int 30]):=zac;generalize upd G2 a3 (.tup [.int 4,.int 30])=G3 at e3 f3 ⊢;refine ⟨(by show 2≤sizeLine;decide),fun a4 ha4=>?_⟩;have e4:=zag ha4 (.tup [.int 24,.int 4]);have f4:upd G3 a4 (.tup [.int 24,.int 4]) a4=some (.tup [.int 24,.int 4]):=zac;generalize upd G3 a4 (.tup [.int 24,.int 4])=G4 at e4 f4 ⊢;refine ⟨(by show 4≤sizeLine;decide),fun l hl=>?_⟩;have e5:=zag hl (.lst [.ref a1,.ref a2,.ref a3,.ref a4]);have f5:upd G4 l (.lst [.ref a1,.ref a2,.ref a3,.ref a4]) l=some (.lst [.ref a1,.ref a2,.ref a3,.ref a4]):=zac;generalize upd G4 l (.lst [.ref a1,.ref a2,.ref a3,.ref a4])=G5 at e5 f5 ⊢;have s0:Same H G5:=e1.trans (Same.trans e2 (Same.trans e3 (Same.trans e4 e5)));have hs5:=hs.same s0;refine ⟨_,rfl,d,L,4,rfl,by decide,hs5,fun v H1 v0 v4 k1 s1=>?_⟩;obtain ⟨x,m,n,hat,htup,hm0,hm1,hn1,hmn⟩:∃(x:Addr) (m n:Nat),atI [V.ref a1,V.ref a2,V.ref a3,V.ref a4] v=some (.ref x)∧H1 x=some (.tup [.int (m:Int),.int (n:Int)])∧0 < m∧m≤24∧n≤30∧m * n≤120:=by
  have z:v=0∨v=1∨v=2∨v=3:=by omega
  have g1:=Same.trans e2 (Same.trans e3 (Same.trans e4 e5)) _ _ f1;have g2:=Same.trans e3 (Same.trans e4 e5) _ _ f2;have g3:=Same.trans e4 e5 _ _ f3;have g4:=e5 _ _ f4;rcases z with rfl | rfl | rfl | rfl
  ·exact ⟨a1,8,9,rfl,k1 _ _ (ndT hs5 g1) g1,by decide,by decide,by decide,by decide⟩
  ·exact ⟨a2,8,9,rfl,k1 _ _ (ndT hs5 g2) g2,by decide,by decide,by decide,by decide⟩
  ·exact ⟨a3,4,30,rfl,k1 _ _ (ndT hs5 g3) g3,by decide,by decide,by decide,by decide⟩
  ·exact ⟨a4,24,4,rfl,k1 _ _ (ndT hs5 g4) g4,by decide,by decide,by decide,by decide⟩
 have k01:Keep d H H1:=fun b o nb e=>k1 _ _ nb (s0 _ _ e);refine ⟨_,_,_,_,rfl,rfl,SqL.of (k1 _ _ (ndL hs5 f5) f5),hat,?_⟩;refine ⟨x,_,rfl,SqT.of htup,rfl,_,_,rfl,_,_,rfl,rfl,?_⟩;clear hat htup f5 f4 f3 f2 f1 e1 e2 e3 e4 e5 k1 hs5 s0;refine ⟨_,rfl,_,rfl,d,L,m,rfl,by omega,s1,fun t ps H2 ht hT hpl h2 k2 s2=>?_⟩;refine ⟨_,rfl,_,rfl,_,rfl,_,_,rfl,.inr (SqT.of h2),_,rfl,d,L,(zcp ps).length,n,rfl,by rw[zaw];omega,by omega,s2,fun r as rows H3 hr3 hA hrl hR hf h3 k3 s3=>?_⟩;rw[zaw]at hrl;refine ⟨(by show 2≤sizeLine;decide),fun st hst=>?_⟩;have ss:=zag hst (.tup [.ref t,.ref r]);have hk:=zmz hf;have hkk:rows.length * n≤m * n:=Nat.mul_le_mul_right n (by omega);exact q st ps rows t r as _ ⟨zac,ss _ _ (k3 _ _ (ndT s2 h2) h2),ss _ _ h3,hA.ext ss,hrl,hT,hR,by omega,by omega⟩ (fun b o nb e=>ss _ _ (k3 _ _ nb (k2 _ _ nb (k01 _ _ nb e)))) (s3.same ss)
theorem zm5 {ps us:List Nat}{c ch:Nat}(h:zjs ps (us++[c]))(hp:par ps ch=some c):zjs ps ((us++[c])++[ch]):=zlf h fun _=>by
 rw[hp,yak,yaL,ybN,yad,ya7 (yaa _),yb1];rfl
def zoA (K:Frag):Sp:=fun vs H Q _=>∃(d L t:Addr) (ps:List Nat),vs=[.ref d,.ref t]∧H t=some (.tup (zcp ps))∧zaC ps∧ps.length≤40∧LS K L d H∧
 ∀(wa:Addr) (w:List Nat) (H':Hp),H wa=none→zdn H' wa ps w→Keep d H H'→LS K L d H'→Q (.ref wa) H'
theorem zpx (T:Txt K mg)(qcb:DF K mg "_law_way" zhn zf4)(qaa:FC P w K mg base 2 "_law_take" za9 (zdr K))(qbe:FC P w K mg base 1 "_law_children" zca (zcS K)):FC P w K mg base 3 "_law_way" zf4 (zoA K):=by
 refine qcb.ok qbf (fun vs H Q E h=>?_) (fun f cdv A outer s H vs Q E hr h=>?_)
 ·obtain ⟨d,L,t,ps,rfl,_⟩:=h;rfl
 obtain ⟨d,L,t,ps,rfl,ht,hT,hl,hs,q⟩:=h;have ndT:∀{H':Hp} {a:Addr} {o:List V},LS K L d H'→H' a=some (.tup o)→a≠d:=fun {H' a o} s e z=>by
  obtain ⟨_,_,_,e2,_⟩:=s.ex;rw[← z,e]at e2;cases e2
 have nd:∀{H':Hp} {a:Addr},LS K L d H'→H' a=none→a≠d:=fun {H' a} s e z=>by
  obtain ⟨_,_,_,e2,_⟩:=s.ex;rw[← z,e]at e2;cases e2
 have free:∀{H':Hp} {a:Addr},Keep d H H'→LS K L d H'→H' a=none→H a=none:=fun {H' a} k s e=>by
  cases e2:H a with
  | none=>rfl
  | some o=>
   have:=k _ _ (nd s e) e2;rw[e]at this;cases this
 refine ⟨_,(zah (zap (i:=2) qbf.nd rfl (Or.inl rfl) (zaG (zaa (zax qaa hr (zaa (pv 0) (zaa (zam zal rfl T.qag boot_len (zaa (pv 1) zad)) zad))) zad)))
   (za3 (zbk (zau zcO (zax qaa hr (zaa (pv 0) (zaa zae zad))) zae (zaA _)) (zaf (zap (i:=2) qbf.nd rfl (Or.inl rfl) (zaG (zaa zae zad)))) zaB)
   (zah (zjT PassesOwn.never (PW.pt (zh9 (zau (zoL (List Int) (huD hr)) (zax qbe hr (zaa (pv 1) (zaa (zay zaz (pv 2) (zgG zeg zae) (fun _ _=>rfl)) zad))) (zaG zad) (zaA _)) (zgd (zau znD (zax qaa hr (zaa (pv 0) (zaa zae zad))) zae (zaA _))))) (zah (zap (i:=3) qbf.nd rfl (Or.inl rfl) (zax qbe hr (zaa (pv 1) (zaa (zay zaz (pv 2) (zgG zeg zae) (fun _ _=>rfl)) zad))))
   (zaf (zbv (zep F.plainAttrs_list F.slot_list_append F.type_list_append zaQ (pv 2) (zaa (zay zaz (pv 3) (zax qaa hr (zaa (pv 0) (zaa (zam zal rfl T.qag boot_len (zaa (pv 3) zad)) zad))) (fun _ _=>rfl)) zad))))))
   (zaf (zat (pv 2)))))),?_⟩
 refine ⟨_,rfl,_,rfl,_,_,rfl,.inr (SqT.of ht),d,L,_,rfl,by rw[zaw];omega,hs,fun v H1 v0 v1 k1 s1=>?_⟩;rw[zaw]at v1;obtain ⟨k0,rfl⟩:=zj3 v0;refine ⟨(by show 1≤sizeLine;decide),fun p hp=>?_⟩;have sp:=zag hp (.lst [nV k0]);have hpp:upd H1 p (.lst [nV k0]) p=some (.lst [nV k0]):=zac;have s1p:=s1.same sp;have k1p:Keep d H (upd H1 p (.lst [nV k0])):=fun b o nb e=>sp _ _ (k1 _ _ nb e);have hp0:=free k1 s1 hp;generalize upd H1 p (.lst [nV k0])=H2 at hpp s1p k1p ⊢;refine ⟨fun σ' H'=>∃(p:Addr) (k0:Nat),σ'=[some (.ref d),some (.ref t),some (.ref p),none]∧H' p=some (.lst [nV k0])∧k0 < ps.length+1∧H p=none∧Keep d H H'∧LS K L d H',?_,?_⟩
 ·refine ⟨_,rfl,d,L,2,rfl,by decide,s1p,fun v H3 _ _ k3 s3=>⟨rfl,_,rfl,?_⟩⟩;have hpd:p≠d:=nd s1 hp;have k03:Keep d H H3:=fun b o nb e=>k3 _ _ nb (k1p _ _ nb e);refine ite2 (fun _=>?_) (fun _=>?_)
  ·refine ⟨(by show 1≤sizeLine;decide),fun u hu=>?_⟩;have su:=zag hu (.lst [nV 0]);exact ⟨u,0,rfl,zac,by omega,free k03 s3 hu,fun b o nb e=>su _ _ (k03 _ _ nb e),s3.same su⟩
  ·exact ⟨p,k0,rfl,k3 _ _ hpd hpp,by omega,hp0,k03,s3⟩
 clear hpp s1p k1p hp0 sp hp k1 s1;rintro σ' H3 ⟨p,k0,rfl,h3,hk0,hp,k3,s3⟩;have hpd:p≠d:=nd hs hp;have htp:t≠p:=zab ht hp;have htd:=ndT hs ht;refine zlp (fun σ HW=>∃(us:List Nat) (c:Nat) (x3:Option V),σ=[some (.ref d),some (.ref t),some (.ref p),x3]∧HW p=some (.lst ((us++[c]).map nV))∧us.length≤c∧c < ps.length+1∧zjs ps (us++[c])∧(∀ x∈us++[c],x < ps.length+1)∧(∀ b o,b≠d→b≠p→H b=some o→HW b=some o)∧LS K L d HW)
  (fun σ HW=>∃(w:List Nat) (x3:Option V),σ=[some (.ref d),some (.ref t),some (.ref p),x3]∧zdn HW p ps w∧(∀ b o,b≠d→b≠p→H b=some o→HW b=some o)∧LS K L d HW)
  (fun _ H2=>match H2 p with | some (.lst xs)=>1000 - xs.length | _=>0) ?_ ?_ ?_ ?_
 ·refine ⟨[],k0,_,rfl,h3,yaF _,hk0,fun t ht=>?_,fun x hx=>?_,fun b o nb _ e=>k3 _ _ nb e,s3⟩
  ·rw[ybD,yaL]at ht;omega
  ·rw[yam.mp hx];exact hk0
 ·rintro σ HW ⟨us,c,x3,rfl,hw,hul,hc,hch,hkn,kw,sw⟩;have hwt:=kw _ _ htd htp ht;have done:∀{HX:Hp} {x3:Option V},(∀ b o,b≠d→HW b=some o→HX b=some o)→LS K L d HX→∃(w:List Nat) (x3':Option V),[some (V.ref d),some (.ref t),some (.ref p),x3]=[some (.ref d),some (.ref t),some (.ref p),x3']∧zdn HX p ps w∧(∀ b o,b≠d→b≠p→H b=some o→HX b=some o)∧LS K L d HX:=fun {HX x3} k s=>
   ⟨us++[c],x3,rfl,⟨k _ _ hpd hw,by rw[yak,yaL];omega,by simp,hch,hkn⟩,fun b o n1 n2 e=>k _ _ n1 (kw _ _ n1 n2 e),s⟩
  refine ⟨_,rfl,_,rfl,_,rfl,_,_,_,_,rfl,rfl,SqL.of hw,zne,t,ps,c,rfl,hwt,by omega,fun cl HX hcl sx hx=>?_⟩;refine ⟨(by show 0≤sizeLine;decide),fun e he=>?_⟩;have se:=zag he (.lst []);have sxe:=sx.trans se;have swe:=sw.same sxe;refine ⟨(zaS ps c (ps.length+1)).map (fun n:Nat=>(n:Int)),[],⟨_,_,rfl,SqL.of (se _ _ hx),zj2⟩,⟨_,_,rfl,SqL.of zac,.nil⟩,_,rfl,?_⟩;generalize upd HX e (.lst [])=HE at sxe swe ⊢;refine ite2 (fun cne=>?_) (fun _=>?_)
  ·refine ⟨_,rfl,d,L,6,rfl,by decide,swe,fun v H4 _ _ k4 s4=>?_⟩;have k04:∀ b o,b≠d→HW b=some o→H4 b=some o:=fun b o nb e=>k4 _ _ nb (sxe _ _ e);refine ⟨_,_,rfl,rfl,_,rfl,?_⟩;refine ite2 (fun _=>?_) (fun _=>?_)
   ·have h4:=k04 _ _ hpd hw;have h4t:=k04 _ _ htd hwt;refine ⟨_,rfl,_,rfl,_,rfl,_,_,_,_,rfl,rfl,SqL.of h4,zne,t,ps,c,rfl,h4t,by omega,fun c2 H5 hc2 s5 h5=>?_⟩;have hcne:zaS ps c (ps.length+1)≠[]:=fun z=>by
     rw[z]at cne;cases cne
    have hcmem:=fun m=>zaE (ps:=ps) (k:=c) (n:=ps.length+1) (j:=m);have hcl:=zcX ps c (ps.length+1);generalize zaS ps c (ps.length+1)=cs at hcne h5 hcmem hcl;have hpos:0 < cs.length:=ycr.mpr hcne;have h5p:=s5 _ _ h4;have s45:=s4.same s5;refine ⟨_,rfl,.inl ⟨rfl,_,SqL.of h5p⟩,_,rfl,_,rfl,_,rfl,_,_,rfl,.inl (SqL.of h5),d,L,_,rfl,by rw[yab];omega,s45,fun v2 H6 v20 v21 k6 s6=>?_⟩;rw[yab]at v21;obtain ⟨j,rfl⟩:=zj3 v20;have hj:j < cs.length:=by omega
    have h6:=k6 _ _ hpd h5p;have hc2d:c2≠d:=nd s4 hc2;refine ⟨_,_,_,_,rfl,rfl,SqL.of (k6 _ _ hc2d h5),zel hj,?_⟩;have hm:cs.getD j 0∈cs:=by
     rw[yad,yac hj];exact yay hj
    generalize cs.getD j 0=ch at hm ⊢;obtain ⟨hchn,hchp⟩:=(hcmem ch).mp hm;have hlt:=(zaP hT hchp).1;refine ⟨_,_,_,rfl,rfl,h6,zaq (by rw[yab,yak,yaL];omega),?_⟩;have k06:∀ b o,b≠d→HW b=some o→H6 b=some o:=fun b o nb e=>k6 _ _ nb (s5 _ _ (k04 _ _ nb e));refine ⟨⟨us++[c],ch,_,rfl,?_,?_,hchn,?_,?_,fun b o n1 n2 e=>?_,?_⟩,?_⟩
    ·rw[zac,yai (l₂:=[ch])];rfl
    ·rw[yak,yaL];omega
    ·exact zm5 hch hchp
    ·intro x hx;rcases yao.mp hx with z | z
     ·exact hkn x z
     ·rw[yam.mp z];exact hchn
    ·rw[zai n2];exact k06 _ _ n1 (kw _ _ n1 n2 e)
    ·exact LS.put hs hp (fun b o n1 n2 e=>k06 _ _ n1 (kw _ _ n1 n2 e)) s6
    ·show (match upd H6 p _ p with | some (.lst xs)=>1000 - xs.length | _=>0) < (match HW p with | some (.lst xs)=>1000 - xs.length | _=>0)
     rw[zac,hw];show 1000 - (((us++[c]).map nV)++[nV ch]).length < 1000 - ((us++[c]).map nV).length;rw[yak,yab,yak,yaL,yaL];omega
   ·exact done k04 s4
  ·refine iteF ?_;exact done (fun b o _ e=>sxe _ _ e) swe
 ·refine zlE (fun σ H Q Q' m h=>?_) (fun σ H Q Q' m h=>?_)
  ·obtain ⟨y1,e1,y2,e2,y3,e3,y4,y5,y6,y7,e4,e5,e6,e7,t,ps,k,e8,e9,e10,q⟩:=h;refine ⟨y1,e1,y2,e2,y3,e3,y4,y5,y6,y7,e4,e5,e6,e7,t,ps,k,e8,e9,e10,fun p H' a1 a2 a3=>?_⟩;obtain ⟨z1,z2⟩:=q p H' a1 a2 a3;refine ⟨z1,fun e he=>?_⟩;obtain ⟨as,bs,g1,g2,b,g3,q⟩:=z2 e he;exact ⟨as,bs,g1,g2,b,g3,m _ _ q⟩
  ·obtain ⟨y1,e1,d,L,z,e2,e3,e4,q⟩:=h;refine ⟨y1,e1,d,L,z,e2,e3,e4,fun v H' a1 a2 a3 a4=>?_⟩;obtain ⟨i,j,g1,g2,b,g3,q⟩:=q v H' a1 a2 a3 a4;exact ⟨i,j,g1,g2,b,g3,m _ _ q⟩
 rintro σ HW ⟨w,x3,rfl,W,kw,sw⟩;refine ⟨_,rfl,?_⟩;exact q p w HW hp W (fun b o nb e=>kw _ _ nb (zab e hp) e) sw
def zlP (K:Frag):Sp:=fun vs H Q _=>∃(d L st:Addr) (ps:List Nat) (rows:List (List Int)) (t rs:Addr) (as:List Addr),vs=[.ref d,.ref st]∧zbs H st ps rows t rs as∧LS K L d H∧
 ∀(key:Int) (H':Hp),Keep d H H'→LS K L d H'→Q (.int key) H'
theorem znS (T:Txt K mg)(qav:DF K mg "_law_asked_key" zb7 zbV)(qcy:FC P w K mg base 1 "_law_every" zd2 (zlN K))(qaa:FC P w K mg base 2 "_law_take" za9 (zdr K))(qb9:FC P w K mg base 3 "_law_key" ze0 (zno K)):FC P w K mg base 4 "_law_asked_key" zbV (zlP K):=by
 refine qav.ok qar (fun vs H Q E h=>?_) (fun f cdv A outer s H vs Q E hr h=>?_)
 ·obtain ⟨d,L,st,ps,rows,t,rs,as,rfl,_⟩:=h;rfl
 obtain ⟨d,L,st,ps,rows,t,rs,as,rfl,S,hs,q⟩:=h;have ndT:∀{H':Hp} {a:Addr} {o:List V},LS K L d H'→H' a=some (.tup o)→a≠d:=fun {H' a o} s e z=>by
  obtain ⟨_,_,_,e2,_⟩:=s.ex;rw[← z,e]at e2;cases e2
 refine ⟨_,(zah (zap (i:=2) qar.nd rfl (Or.inl rfl) (zax qcy hr (zaa (zay zaN (pv 1) zae (fun _ _=>rfl)) zad)))
   (za3 (zbk (PW.pt (zgc (zau (zj0 (List Int) (huD hr)) (pv 2) (zaG zad) (zaA _)) (zeU (zau zcO (zax qaa hr (zaa (pv 0) (zaa zae zad))) zae (zaA _))))) (zaf (zat (zax qb9 hr (zaa (pv 0) zad)))) zaB)
   (zah (zap (i:=3) qar.nd rfl (Or.inl rfl) (zao zbb (zao zaO (zay zaz (pv 2) (zax qaa hr (zaa (pv 0) (zaa (zam zal rfl T.qag boot_len (zaa (pv 2) zad)) zad))) (fun _ _=>rfl)) (zax qaa hr (zaa (pv 0) (zaa zae zad)))) zae))
   (zaf (zat (zam (zfl rfl) rfl T.qcF boot_max (zaa (zao zbb zae (zao ze6 zae zae)) (zaa (zam (zm8 rfl) rfl T.qc2 boot_min (zaa (zao zbb (zao ze6 zae zae) zae) (zaa (pv 3) zad))) zad)))))))),?_⟩
 refine ⟨_,rfl,_,_,_,_,rfl,rfl,SqT.of S.st,rfl,rs,as,rows,rfl,S.rs,S.at_,by have:=S.keys;omega,fun p H1 s1 h1 hp=>?_⟩;have hs1:=hs.same s1;have hpd:p≠d:=fun z=>by
  obtain ⟨_,_,_,e2,_⟩:=hs.ex;rw[← z,hp]at e2;cases e2
 have hfl:=zir rows;have hkeys:=S.keys;generalize rows.flatten=fl at h1 hfl;refine ⟨fun σ' H'=>σ'=[some (.ref d),some (.ref st),some (.ref p),none]∧H' p=some (.lst (fl.map V.int))∧fl≠[]∧Keep d H H'∧LS K L d H',?_,?_⟩
 ·refine ⟨_,rfl,(by show 0≤sizeLine;decide),fun e he=>?_⟩;have se:=zag he (.lst []);refine ⟨fl,[],⟨_,_,rfl,SqL.of (se _ _ h1),zar.ints⟩,⟨_,_,rfl,SqL.of zac,.nil⟩,_,rfl,?_⟩;have h2:=se _ _ h1;have s2:=hs1.same se;have k2:Keep d H (upd H1 e (.lst [])):=fun b o _ z=>se _ _ (s1 _ _ z);generalize upd H1 e (.lst [])=H2 at h2 s2 k2 ⊢;have ret:∀{H3:Hp},Keep d H H3→LS K L d H3→zno K [.ref d] H3 Q E0:=fun {H3} k s=>⟨d,L,rfl,s,fun v H' _ _ k' s'=>q v H' (fun b o nb z=>k' _ _ nb (k _ _ nb z)) s'⟩;refine ite2 (fun _=>?_) (fun c=>?_)
  ·refine iteT ?_;exact ⟨_,rfl,ret k2 s2⟩
  ·have hne:fl≠[]:=fun z=>c (yah z);refine ⟨_,rfl,d,L,4,rfl,by decide,s2,fun v H3 _ _ k3 s3=>⟨rfl,_,rfl,?_⟩⟩;have k03:Keep d H H3:=fun b o nb z=>k3 _ _ nb (k2 _ _ nb z);refine ite2 (fun _=>?_) (fun _=>?_)
   ·exact ⟨_,rfl,ret k03 s3⟩
   ·exact ⟨rfl,k3 _ _ hpd h2,hne,k03,s3⟩
 rintro σ' H2 ⟨rfl,h2,hne,k2,s2⟩;have hpos:0 < fl.length:=ycr.mpr hne;refine ⟨_,rfl,_,rfl,_,rfl,_,_,rfl,.inl (SqL.of h2),d,L,_,rfl,by rw[yab];omega,s2,fun v H3 v0 v1 k3 s3=>?_⟩;rw[yab]at v1;obtain ⟨j,rfl⟩:=zj3 v0;have hat:atI (fl.map V.int) (j:Int)=some (.int (fl.getD j 0)):=zbI (by rw[yal,yac (show j < fl.length by omega),yad,yac (show j < fl.length by omega)];rfl);refine ⟨_,_,_,_,rfl,rfl,SqL.of (k3 _ _ hpd h2),hat,_,rfl,d,L,3,rfl,by decide,s3,fun v2 H4 _ _ k4 s4=>?_⟩;refine ⟨_,_,rfl,rfl,_,_,rfl,rfl,?_⟩;refine ⟨_,_,rfl,rfl,⟨by decide,by decide,by decide⟩,_,_,rfl,rfl,_,_,rfl,rfl,⟨by decide,by decide,by decide⟩,_,_,rfl,rfl,_,rfl,_,_,rfl,_,_,rfl,?_⟩;exact q _ _ (fun b o nb e=>k4 _ _ nb (k3 _ _ nb (k2 _ _ nb e))) s4
def zb4 (H:Hp)(ps:List Nat)(rows:List (List Int))(key:Int)(k:Nat)(z:V):Prop:=∃ t,z=.ref t∧H t=some (.tup [.int (k:Nat),.int ((zaF (zak ps rows k) key:Nat):Int),.int ((ownB rows k key:Nat):Int)])
theorem za7 {H H':Hp}{ps:List Nat}{rows:List (List Int)}{key:Int}{ks:List Nat}{zs:List V}(k:∀ b us,H b=some (.tup us)→H' b=some (.tup us))(h:Paired (zb4 H ps rows key) ks zs):Paired (zb4 H' ps rows key) ks zs:=zaT (fun _ _ ⟨t,e1,e2⟩=>⟨t,e1,k _ _ e2⟩) h
def cntB (l:List Int)(key:Int):Nat:=(l.filter fun x=>decide (x < key)).length
def zjJ (K:Frag):Sp:=fun vs H Q _=>∃(r:Addr) (row:List Int) (key:Int),vs=[.ref r,.int key]∧(H r=some (.lst (row.map V.int))∨H r=some (.tup (row.map V.int)))∧row.length≤900∧∀ H',Same H H'→Q (.int (cntB row key:Nat)) H'
theorem zmb (T:Txt K mg)(qbu:DF K mg "_law_below" zeP zd3):FC P w K mg base 1 "_law_below" zd3 (zjJ K):=by
 refine qbu.ok qcj (fun vs H Q E h=>?_) (fun f cdv A outer s H vs Q E hr h=>?_)
 ·obtain ⟨r,row,key,rfl,_⟩:=h;rfl
 obtain ⟨r,row,key,rfl,h0,hz,q⟩:=h;refine ⟨_,(zaf (zat (zam zal rfl T.qag boot_len (zaa (zbG (N:=["_law_one","_law_key_here"]) (own:=1) (cap:=[1]) rfl (zqA (pv 0)) ⟨rfl,rfl,rfl,rfl,rfl,rfl⟩ (fun _ _ _ _ _=>(zan (i:=0) (show List.Nodup (["_law_one","_law_key_here"]:List Str) by decide +kernel) rfl (Or.inl rfl))) (fun _ _ _ _ _=>(zdt (zau ziX (pv 0) (pv 1) (zaA _)))) (fun _ _ _ _ _=>(pv 0))) zad)))),?_⟩;have hs:∀(D:Addr) (i m:Nat) (x:V) (σ:L2.St) (H2:Hp),(row.map V.int)[i]?=some x→i+m=(row.map V.int).length→(∃ x0:Option V,σ=[x0,some (.int key)]∧H2 D=some (.lst (((row.take i).filter fun x=>decide (x < key)).map V.int))∧But D H H2)→zhN 0 x σ H2 fun σ2 H2=>zpa (tOp (rI0 fun i j=>.bl (decide (i < j))) (tVar 0) (tVar 1)) σ2 H2 fun b H3=>if b=true then tVar 0 σ2 H3 fun y H4=>∃ zs,H4 D=some (.lst zs)∧zs.length < sizeLine∧∃ m',m' < m∧i+1+m'=(row.map V.int).length∧∃ x0:Option V,σ2=[x0,some (.int key)]∧upd H4 D (.lst (zs++[y])) D=some (.lst (((row.take (i+1)).filter fun x=>decide (x < key)).map V.int))∧But D H (upd H4 D (.lst (zs++[y]))) else ∃ m',m' < m∧i+1+m'=(row.map V.int).length∧∃ x0:Option V,σ2=[x0,some (.int key)]∧H3 D=some (.lst (((row.take (i+1)).filter fun x=>decide (x < key)).map V.int))∧But D H H3:=by
  rintro D i m x σ H2 hx hm ⟨x0,rfl,h2,k2⟩;rw[yal]at hx;obtain ⟨y,hy,rfl⟩:=ybh.mp hx;obtain ⟨hi,rfl⟩:=yaf.mp hy;rw[yab]at hm;have hfl:=ybk (fun x=>decide (x < key)) (row.take i);rw[yaj]at hfl;rw[yaB hi,ya6];refine ⟨_,rfl,_,rfl,_,_,rfl,rfl,_,rfl,?_⟩;refine ite2 (fun c=>?_) (fun c=>?_)
  ·refine ⟨_,rfl,_,h2,zaq (by rw[yab];omega),m - 1,by omega,by rw[yab];omega,_,rfl,?_,fun b o n e=>by rw[zai n];exact k2 b o n e⟩;have ef:[row[i]].filter (fun x=>decide (x < key))=[row[i]]:=ya5 (p:=fun x=>decide (x < key)) c;rw[zac,yai,ef];rfl
  ·refine ⟨m - 1,by omega,by rw[yab];omega,_,rfl,?_,k2⟩;have ef:[row[i]].filter (fun x=>decide (x < key))=[]:=ybj (p:=fun x=>decide (x < key)) c;rw[h2,ef,yaG]
 have hd:∀(D:Addr),H D=none→∀(σ:L2.St) (H2:Hp),(∃ x0:Option V,σ=[x0,some (.int key)]∧H2 D=some (.lst (((row.take (row.map V.int).length).filter fun x=>decide (x < key)).map V.int))∧But D H H2)→∃ p ys,[V.ref D]=[.ref p]∧(SqL K H2 p ys∨SqT K H2 p ys)∧Q (.int (ys.length:Nat)) H2:=by
  rintro D hD σ H2 ⟨x0,rfl,h2,k2⟩;rw[yab,yap (yaa _)]at h2;refine ⟨D,_,rfl,.inl (SqL.of h2),?_⟩;have q2:=q H2 fun b o e=>k2 b o (zab e hD) e;unfold cntB at q2;rw[yab];exact q2
 rcases h0 with h0 | h0
 ·refine ⟨_,rfl,r,rfl,.inl ⟨⟨_,SqL.of h0⟩,fun D hD=>?_⟩⟩;exact zbz (xs:=row.map V.int) (fun i σ H2=>∃ x0:Option V,σ=[x0,some (.int key)]∧H2 D=some (.lst (((row.take i).filter fun x=>decide (x < key)).map V.int))∧But D H H2) ⟨_,rfl,zac,fun b o n e=>by rw[zai n];exact e⟩ (fun i σ H2 _ zq0=>(by obtain ⟨x0,_,_,k2⟩:=zq0;exact k2.sq (SqL.of h0) hD)) (hs D) (hd D hD)
 ·refine ⟨_,rfl,r,rfl,.inr ⟨⟨_,SqT.of h0⟩,fun D hD=>?_⟩⟩;exact zed (xs:=row.map V.int) (fun i σ H2=>∃ x0:Option V,σ=[x0,some (.int key)]∧H2 D=some (.lst (((row.take i).filter fun x=>decide (x < key)).map V.int))∧But D H H2) ⟨_,rfl,zac,fun b o n e=>by rw[zai n];exact e⟩ (fun i σ H2 _ zq0=>(by obtain ⟨x0,_,_,k2⟩:=zq0;exact SqT.of (k2 _ _ (zab h0 hD) h0))) (hs D) (hd D hD)
def zjH (K:Frag):Sp:=fun vs H Q _=>∃(st pf wa:Addr) (key:Int) (ps:List Nat) (rows:List (List Int)) (t rs:Addr) (as qs:List Addr) (wy:List Nat),vs=[.ref st,.ref pf,.ref wa,.int key]∧zbs H st ps rows t rs as∧H pf=some (.lst (qs.map V.ref))∧zaD K H ps rows (List.range (ps.length+1)) qs∧zdn H wa ps wy∧
 ∀(D:Addr) (zs:List V) (H':Hp),H D=none→Same H H'→H' D=some (.lst zs)→Paired (zb4 H' ps rows key) wy zs→Q (.ref D) H'
theorem zl8 (T:Txt K mg)(qbv:DF K mg "_law_paper" zeJ zdX)(qbV:FC P w K mg base 1 "_law_below" zd3 (zjJ K)):FC P w K mg base 2 "_law_paper" zdX (zjH K):=by
 refine qbv.ok qaL (fun vs H Q E h=>?_) (fun f cdv A outer s H vs Q E hr h=>?_)
 ·obtain ⟨st,pf,wa,key,ps,rows,t,rs,as,qs,wy,rfl,_⟩:=h;rfl
 obtain ⟨st,pf,wa,key,ps,rows,t,rs,as,qs,wy,rfl,S,hpf,hF,W,q⟩:=h;refine ⟨_,(zah (zap (i:=4) qaL.nd rfl (Or.inl rfl) (zaG zad))
   (zah (zaR PassesOwn.never rfl (zbq (pv 2)) (zan (i:=5) qaL.nd rfl (Or.inl rfl)) (zah (zap (i:=6) qaL.nd rfl (Or.inl rfl) (zax qbV hr (zaa (zbG (N:=["_law_entry"]) (own:=1) (cap:=[]) rfl (zbq (zay zaz (pv 1) (pv 5) (fun _ _=>rfl))) ⟨rfl,rfl,rfl,rfl,rfl,rfl⟩ (fun _ _ _ _ _=>(zan (i:=0) (show List.Nodup (["_law_entry"]:List Str) by decide +kernel) rfl (Or.inl rfl))) (fun _ _ _ _ _=>zbF) (fun _ _ _ _ _=>(zay (zgl (K:=K)) (pv 0) zae (fun _ _=>rfl)))) (zaa (pv 3) zad))))
   (zaf (zbv (zep F.plainAttrs_list F.slot_list_append F.type_list_append zaQ (pv 4) (zaa (zbu (zaa (pv 5) (zaa (pv 6) (zaa (zax qbV hr (zaa (zay zaN (zay zaN (pv 0) zae (fun _ _=>rfl)) (pv 5) (fun _ _=>rfl)) (zaa (pv 3) zad))) zad)))) zad))))))
   (zaf (zat (pv 4))))),?_⟩
 have hwl:=W.len;refine ⟨(by show 0≤sizeLine;decide),fun p hp=>?_⟩;have sp:=zag hp (.lst []);refine ⟨_,rfl,wa,rfl,⟨_,SqL.of (sp _ _ W.at_)⟩,?_⟩;refine zcM (xs:=wy.map nV) (fun i σ H2=>∃(x5 x6:Option V) (us:List V),σ=[some (.ref st),some (.ref pf),some (.ref wa),some (.int key),some (.ref p),x5,x6]∧H2 p=some (.lst us)∧Paired (zb4 H2 ps rows key) (wy.take i) us∧But p H H2) ?_ ?_ ?_ ?_
 ·exact ⟨_,_,[],rfl,zac,.nil,fun b o n e=>by rw[zai n];exact e⟩
 ·rintro i σ H2 _ ⟨x5,x6,us,rfl,_,_,k2⟩;exact k2.sq (SqL.of W.at_) hp
 ·rintro i x σ H2 hx ⟨x5,x6,us,rfl,h2,hP,k2⟩;have hi:=(yaf.mp hx).1;rw[yab]at hi;rw[zqd hi]at hx;obtain rfl:=yae hx;have hkn:=W.kn _ (zjy hi);have ewy:wy.take (i+1)=wy.take i++[wy.getD i 0]:=zni hi;have hul:=Paired.length hP;rw[yaj]at hul;rw[ewy];generalize wy.getD i 0=k at hkn ⊢;have s2:Same H H2:=fun b o e=>k2 b o (zab e hp) e;have hF2:=zkq (.of s2) hF;have S2:=S.same s2;obtain ⟨qk,hqk,wk,hwk,hak⟩:=zdS hF2 hkn;have hwk2:=hak.length;have hfl:=zdd S.T S.len (rows:=rows) hkn;have hkeys:=S.keys;refine ⟨_,rfl,_,rfl,_,_,_,_,rfl,rfl,SqL.of (s2 _ _ hpf),zbI (v:=.ref qk) (by rw[yal,hqk];rfl),qk,rfl,⟨_,SqL.of hwk⟩,fun D hD=>?_⟩;refine zbz (xs:=wk) (fun j σ H5=>∃(x0:Option V),σ=[x0]∧H5 D=some (.lst ((((zak ps rows k).take j).map (·.1)).map V.int))∧But D H2 H5) ?_ ?_ ?_ ?_
  ·exact ⟨_,rfl,zac,fun b o n e=>by rw[zai n];exact e⟩
  ·rintro j σ H5 _ ⟨x0,rfl,_,k5⟩;exact k5.sq (SqL.of hwk) hD
  ·rintro j m x σ H5 hx hm ⟨x0,rfl,h5,k5⟩;have hj:=(yaf.mp hx).1;obtain ⟨e,he,bb,x1,x2,rfl,hb,e1,e2⟩:∃ e,(zak ps rows k)[j]?=some e∧hasP K H2 e x:=zeq hak hx;have e1':x1=.int e.1:=e1;subst e1';have h5b:=k5 _ _ (zab hb hD) hb;refine zcK ?_;refine ⟨_,rfl,_,_,_,_,rfl,rfl,SqT.of h5b,rfl,_,h5,zaq (by rw[yab,yab,yaj];omega),m - 1,by omega,by omega,_,rfl,?_,fun b o n e=>by rw[zai n];exact k5 b o n e⟩;rw[zac,yaB (by omega),yai,yai,(yaf.mp he).2];rfl
  rintro σ H5 ⟨x0,rfl,h5,k5⟩;rw[← hwk2,yap (yaa _)]at h5;have s5:Same H2 H5:=fun b o e=>k5 b o (zab e hD) e;refine ⟨_,rfl,D,(zak ps rows k).map (·.1),key,rfl,.inl h5,by rw[yab];omega,fun H6 s6=>?_⟩;have eb:cntB ((zak ps rows k).map (·.1)) key=zaF (zak ps rows k) key:=by
   unfold cntB zaF;rw[List.filter_map,yab];rfl
  rw[eb];have s26:=s5.trans s6;have S6:=S2.same s26;obtain ⟨b,hb1,hb2⟩:=S6.at_.get (k:=k) (by rw[S.len];exact hkn);have hrl:(zbx rows k).length≤900:=yar (zjQ (zoI (by rw[S.len];exact hkn))) (by omega);refine ⟨_,rfl,.inl ⟨rfl,_,SqL.of (s26 _ _ h2)⟩,_,rfl,_,rfl,_,rfl,_,_,_,_,rfl,rfl,SqT.of S6.st,rfl,_,rfl,_,_,_,_,rfl,rfl,SqT.of S6.rs,zdI hb1,_,rfl,b,zbx rows k,key,rfl,.inr hb2,hrl,fun H7 s7=>?_⟩;have s27:=s26.trans s7;have eo:cntB (zbx rows k) key=ownB rows k key:=rfl;rw[eo];refine ⟨(by show 3≤sizeLine;decide),fun a1 ha1=>?_⟩;have h7p:=s27 _ _ h2;have na:p≠a1:=zab h7p ha1;have sa:=zag ha1 (.tup [nV k,.int ((zaF (zak ps rows k) key:Nat):Int),.int ((ownB rows k key:Nat):Int)]);have haa:upd H7 a1 (.tup [nV k,.int ((zaF (zak ps rows k) key:Nat):Int),.int ((ownB rows k key:Nat):Int)]) a1=some (.tup [nV k,.int ((zaF (zak ps rows k) key:Nat):Int),.int ((ownB rows k key:Nat):Int)]):=zac;generalize upd H7 a1 (.tup [nV k,.int ((zaF (zak ps rows k) key:Nat):Int),.int ((ownB rows k key:Nat):Int)])=H8 at sa haa ⊢;have s28:=s27.trans sa;have h8p:=sa _ _ h7p;have nD:∀{x:Addr} {us:List V},H8 x=some (.tup us)→x≠p:=fun {x us} h z=>by
   rw[z,h8p]at h;cases h
  refine ⟨_,_,_,rfl,rfl,h8p,zaq (by omega),?_⟩;refine ⟨_,_,us++[.ref a1],rfl,zac,?_,fun b o n e=>by rw[zai n];exact s28 _ _ (k2 b o n e)⟩;exact zc7 (zaT (fun _ _ zq0=>(by obtain ⟨t,e1,e2⟩:=zq0;exact ⟨t,e1,by rw[zai (nD (s28 _ _ e2))];exact s28 _ _ e2⟩)) hP) ⟨a1,rfl,by rw[zai (nD haa)];exact haa⟩
 rintro σ H2 ⟨x5,x6,us,rfl,h2,hP,k2⟩;rw[yab,yap (yaa _)]at hP;exact ⟨_,rfl,q p us H2 hp (fun b o e=>k2 b o (zab e hp) e) h2 hP⟩
abbrev Tr3:=Int×Int×Int
inductive zbS (K:Frag)(H:Hp):V→Option Tr3→Prop where
 | good (u:Addr) (a b c:Int) (h:H u=some (.tup [.int a,.int b,.int c])):zbS K H (.ref u) (some (a,b,c))
 | kind (x:V) (t:String) (ty:TyOf K H x (.type t)) (h:kitO t "tuple" = some false):zbS K H x none
 | long (u:Addr) (zs:List V) (h:H u=some (.tup zs)) (hz:zs.length≠3):zbS K H (.ref u) none
 | part (u:Addr) (x y z:V) (b1 b2 b3:Bool) (h:H u=some (.tup [x,y,z])) (h1:za1 K H x b1) (h2:za1 K H y b2) (h3:za1 K H z b3) (hf:(b1 && b2 && b3)=false):zbS K H (.ref u) none
def zjK (K:Frag):Sp:=fun vs H Q _=>∃(x:V) (o:Option Tr3),vs=[x]∧zbS K H x o∧∀ H',Same H H'→Q (.bl o.isSome) H'
theorem _root_.L2.TyOf.same {K:Frag}{H H':Hp}{x:V}{n:String}(s:Same H H')(h:TyOf K H x (.type n)):TyOf K H' x (.type n):=by
 cases h with
 | non=>exact .non
 | bl b=>exact .bl b
 | int i=>exact .int i
 | str y=>exact .str y
 | flt y=>exact .flt y
 | lst e=>exact .lst (s _ _ e)
 | frz e=>exact .frz (s _ _ e)
 | tup e=>exact .tup (s _ _ e)
 | dK e=>exact .dK (s _ _ e)
 | dT e=>exact .dT (s _ _ e)
theorem za1.same {K:Frag}{H H':Hp}{x:V}{b:Bool}(s:Same H H')(h:za1 K H x b):za1 K H' x b:=by
 cases h with
 | int i=>exact .int i
 | bl b=>exact .bl b
 | oth x t ty h2=>exact .oth x t (ty.same s) h2
theorem zbS.same {K:Frag}{H H':Hp}{x:V}{o:Option Tr3}(s:Same H H')(h:zbS K H x o):zbS K H' x o:=by
 cases h with
 | good u a b c h=>exact .good u a b c (s _ _ h)
 | kind x t ty h=>exact .kind x t (ty.same s) h
 | long u zs h hz=>exact .long u zs (s _ _ h) hz
 | part u x y z b1 b2 b3 h h1 h2 h3 hf=>exact .part u x y z b1 b2 b3 (s _ _ h) (h1.same s) (h2.same s) (h3.same s) hf
theorem zn2 {c A B:Prop}[Decidable c](hc:¬ c)(h:A):if (!decide c)=true then A else B:=by
 rw[yaq hc];exact h
theorem zme (T:Txt K mg)(qbw:DF K mg "is_line" zeR zd5)(qa9:FC P w K mg base 1 "is_whole" zcr (ziS K)):FC P w K mg base 2 "is_line" zd5 (zjK K):=by
 refine qbw.ok qch (fun vs H Q E h=>?_) (fun f cdv A outer s H vs Q E hr h=>?_)
 ·obtain ⟨x,o,rfl,_⟩:=h;rfl
 obtain ⟨x,o,rfl,hL,q⟩:=h;refine ⟨_,(za3 (zbk (PW.pt (zgc (zdu (zdj (zam zcd rfl T.qac boot_isinstance (zaa (pv 0) (zaa (zc6 (v:=.ty "tuple") rfl T.qbj boot_tuple rfl) zad))))) (zeU (zau ziW (zam zal rfl T.qag boot_len (zaa (pv 0) zad)) zae (zaA _))))) (zaf (zat zbR)) zaB)
   (zaf (zat (zam (zgx rfl) rfl T.qcP boot_all (zaa (zbG (N:=["part"]) (own:=1) (cap:=[]) rfl (zeh (pv 0)) ⟨rfl,rfl,rfl,rfl,rfl,rfl⟩ (fun _ _ _ _ _=>(zan (i:=0) (show List.Nodup (["part"]:List Str) by decide +kernel) rfl (Or.inl rfl))) (fun _ _ _ _ _=>zbF) (fun _ _ _ _ _=>(zax qa9 hr (zaa (pv 0) zad)))) zad))))),?_⟩
 have key:(∃ t,TyOf K H x (.type t)∧kitO t "tuple" = some false∧o.isSome=false)∨(∃ u zs,x=.ref u∧H u=some (.tup zs)∧zs.length≠3∧o.isSome=false)∨∃ u x1 x2 x3 b1 b2 b3,x=.ref u∧H u=some (.tup [x1,x2,x3])∧za1 K H x1 b1∧za1 K H x2 b2∧za1 K H x3 b3∧o.isSome=(b1 && b2 && b3):=by
  cases hL with
  | good u a b c h=>exact .inr (.inr ⟨u,_,_,_,true,true,true,rfl,h,.int a,.int b,.int c,rfl⟩)
  | kind x t ty h=>exact .inl ⟨t,ty,h,rfl⟩
  | long u zs h hz=>exact .inr (.inl ⟨u,zs,rfl,h,hz,rfl⟩)
  | part u x y z b1 b2 b3 h h1 h2 h3 hf=>exact .inr (.inr ⟨u,x,y,z,b1,b2,b3,rfl,h,h1,h2,h3,hf.symm⟩)
 clear hL;rcases key with ⟨t,ty,hk,e⟩ | ⟨u,zs,rfl,hu,hz,e⟩ | ⟨u,x1,x2,x3,b1,b2,b3,rfl,hu,h1,h2,h3,e⟩
 ·rw[e]at q;refine ⟨fun _ _=>False,?_,fun _ _ z=>z.elim⟩;refine ⟨_,rfl,_,_,_,_,rfl,ty,hk,_,rfl,?_⟩;exact iteT (q H fun _ _ e=>e)
 ·rw[e]at q;refine ⟨fun _ _=>False,?_,fun _ _ z=>z.elim⟩;refine ⟨_,rfl,_,_,_,_,rfl,.tup hu,zkg,_,rfl,?_⟩;refine iteF ?_;refine ⟨_,rfl,_,_,rfl,.inr (SqT.of hu),rfl,_,rfl,?_⟩;refine zn2 (fun z=>hz (by have:=V.int.inj z;omega)) (q H fun _ _ e=>e)
 ·rw[e]at q;refine ⟨fun σ' H'=>σ'=[some (.ref u)]∧H=H',?_,?_⟩
  ·refine ⟨_,rfl,_,_,_,_,rfl,.tup hu,zkg,_,rfl,?_⟩;refine iteF ?_;refine ⟨_,rfl,_,_,rfl,.inr (SqT.of hu),rfl,_,rfl,?_⟩;exact zit rfl ⟨rfl,rfl⟩
  rintro _ _ ⟨rfl,rfl⟩;refine ⟨_,rfl,u,rfl,⟨_,SqT.of hu⟩,fun D hD=>?_⟩;have hget:∀(i:Nat) (v:V),[x1,x2,x3][i]?=some v→∃ b,[b1,b2,b3][i]?=some b∧za1 K H v b:=fun i v hv=>by
   rcases i with _ | _ | _ | i
   ·cases hv;exact ⟨_,rfl,h1⟩
   ·cases hv;exact ⟨_,rfl,h2⟩
   ·cases hv;exact ⟨_,rfl,h3⟩
   ·cases hv
  refine zed (xs:=[x1,x2,x3]) (fun i σ H2=>∃ x0:Option V,σ=[x0]∧H2 D=some (.lst (([b1,b2,b3].take i).map V.bl))∧But D H H2) ?_ ?_ ?_ ?_
  ·exact ⟨_,rfl,zac,fun b o n e=>by rw[zai n];exact e⟩
  ·rintro i σ H2 _ ⟨x0,rfl,_,k2⟩;exact SqT.of (k2 _ _ (zab hu hD) hu)
  ·rintro i m v σ H2 hv hm ⟨x0,rfl,h2',k2⟩;have hi:=(yaf.mp hv).1;obtain ⟨b,hb,hw⟩:=hget i v hv;have s2:Same H H2:=fun b o e=>k2 b o (zab e hD) e;have hm3:i+m=3:=hm;have hi3:i < 3:=hi;refine zcK ?_;refine ⟨_,rfl,_,b,rfl,hw.same s2,_,h2',zaq (by rw[yab,yaj];omega),m - 1,by omega,(by show i+1+(m - 1)=3;omega),_,rfl,?_,fun b o n e=>by rw[zai n];exact k2 b o n e⟩;obtain ⟨hj,rfl⟩:=yaf.mp hb;rw[zac,yaB hj,yai];rfl
  ·rintro σ H2 ⟨x0,rfl,h2',k2⟩;refine ⟨D,[b1,b2,b3],rfl,SqL.of h2',?_⟩;have:=q H2 fun b o e=>k2 b o (zab e hD) e;have e3:[b1,b2,b3].all id=(b1 && b2 && b3):=by cases b1 <;> cases b2 <;> cases b3 <;> rfl
   rw[e3];exact this
def zh2 (K:Frag):Sp:=fun vs H Q _=>∃(q:Addr) (at_ key:Int) (ws:List V) (es:List En),vs=[.ref q,.int at_,.int key]∧H q=some (.lst ws)∧zar K H es ws∧Rise es∧es.length≤2000∧Q (.bl (decide (at_=((zaF es key:Nat):Int)))) H
theorem zkU (T:Txt K mg)(qaw:DF K mg "is_place_in" zb8 zbW):FC P w K mg base 1 "is_place_in" zbW (zh2 K):=by
 refine qaw.ok qbC (fun vs H Q E h=>?_) (fun f cdv A outer s H vs Q E hr h=>?_)
 ·obtain ⟨q,a,key,ws,es,rfl,_⟩:=h;rfl
 obtain ⟨q,a,key,ws,es,rfl,hq,hw,hr',hz,Q0⟩:=h;refine ⟨_,(za3 (zbk (zdu (znt zl3 zl3 zae (pv 1) (zam zal rfl T.qag boot_len (zaa (pv 0) zad)))) (zaf (zat zbR)) zaB)
   (za3 (zbk (PW.pt (zh9 (zau znD (pv 1) zae (zaA _)) (zgd (zau znE (zay zaN (zay zaz (pv 0) (zao zbb (pv 1) zae) (fun _ _=>rfl)) zae (fun _ _=>rfl)) (pv 2) (zaA _))))) (zaf (zat zbR)) zaB)
   (zaf (zat (zrA (zgf zcO (pv 1) (zam zal rfl T.qag boot_len (zaa (pv 0) zad)) (zaA _)) (zjV (zgf znE (zay zaN (zay zaz (pv 0) (pv 1) (fun _ _=>rfl)) zae (fun _ _=>rfl)) (pv 2) (zaA _)))))))),?_⟩
 have wl:=hw.length;have hF:=zf1 hr';have hle:=zcy es key;have hget:∀ i,i < es.length→∃ b e y,ws[i]?=some (.ref b)∧es[i]?=some e∧H b=some (.tup [.int e.1,y])∧(e.1 < key↔i < zaF es key):=fun i hi=>by
  obtain ⟨v,hv⟩:∃ v,ws[i]?=some v:=⟨_,yac (by omega)⟩;obtain ⟨e,he,b,y1,y2,rfl,hb,f1,f2⟩:=hw.get hv;have e1:y1=.int e.1:=f1;subst e1;refine ⟨b,e,y2,hv,he,hb,?_⟩;obtain ⟨hi',rfl⟩:=yaf.mp he;obtain ⟨z1,z2⟩:=zcx (key:=key) hF;constructor
  ·intro h;refine yck fun c=>?_;refine z2 es[i] ?_ h;rw[List.mem_drop_iff_getElem];exact ⟨i - zaF es key,by omega,by congr 1;omega⟩
  ·intro h;refine z1 es[i] ?_;rw[ycA];exact ⟨i,by omega,rfl⟩
 have no:a≠((zaF es key:Nat):Int)→Q (.bl false) H:=fun z=>by
  rw[yaq z]at Q0;exact Q0
 refine ⟨fun σ' H'=>σ'=[some (.ref q),some (.int a),some (.int key)]∧H=H'∧0≤a∧a≤(es.length:Int),?_,?_⟩
 ·refine ⟨_,rfl,_,_,rfl,rfl,_,rfl,?_⟩;refine ite2 (fun c=>?_) (fun c=>?_)
  ·have c':(0:Int)≤a:=yaE c;refine ⟨_,rfl,_,_,rfl,.inl (SqL.of hq),_,_,rfl,rfl,_,rfl,?_⟩;rw[← wl];by_cases c2:a≤(es.length:Int)
   ·rw[yah c2];exact iteF ⟨rfl,rfl,c',c2⟩
   ·rw[yaq c2];exact iteT (no (by omega))
  ·have c':¬ (0:Int)≤a:=fun z=>c (yah z);exact ⟨_,rfl,iteT (no (by omega))⟩
 rintro _ _ ⟨rfl,rfl,h0,h1⟩;obtain ⟨n,rfl⟩:∃ n:Nat,a=n:=⟨a.toNat,by omega⟩;refine ⟨fun σ' H'=>σ'=[some (.ref q),some (.int n),some (.int key)]∧H=H'∧n≤zaF es key,?_,?_⟩
 ·refine ⟨_,rfl,_,_,rfl,rfl,_,rfl,?_⟩;refine ite2 (fun c=>?_) (fun c=>?_)
  ·have c':(0:Int) < (n:Int):=yaE c;obtain ⟨b,e,y,hb1,hb2,hb3,hb4⟩:=hget (n - 1) (by omega);have hat:atI ws ((n:Int) - 1)=some (.ref b):=by
    rw[show (n:Int) - 1=((n - 1:Nat):Int) by omega];exact zbI hb1
   refine ⟨_,rfl,_,rfl,_,_,rfl,rfl,_,_,_,_,rfl,rfl,SqL.of hq,hat,_,_,_,_,rfl,rfl,SqT.of hb3,rfl,_,rfl,_,_,rfl,rfl,_,rfl,?_⟩;by_cases c2:key≤e.1
   ·rw[yah c2];exact iteT (no (by omega))
   ·rw[yaq c2];exact iteF ⟨rfl,rfl,by omega⟩
  ·have c':¬ (0:Int) < (n:Int):=fun z=>c (yah z);exact iteF ⟨rfl,rfl,by omega⟩
 rintro _ _ ⟨rfl,rfl,hn⟩;refine ⟨_,rfl,_,rfl,_,_,rfl,.inl (SqL.of hq),rfl,_,rfl,?_⟩;rw[← wl];by_cases c:n=es.length
 ·rw[yah (show V.int (n:Int)=V.int (es.length:Int) by rw[c])];refine iteT ?_;rw[yah (show (n:Int)=((zaF es key:Nat):Int) by omega)]at Q0;exact Q0
 ·rw[yaq (fun z=>c (by have:=V.int.inj z;omega))];refine iteF ?_;obtain ⟨b,e,y,hb1,hb2,hb3,hb4⟩:=hget n (by omega);refine ⟨_,rfl,_,rfl,_,_,_,_,rfl,rfl,SqL.of hq,zbI hb1,_,_,_,_,rfl,rfl,SqT.of hb3,rfl,_,rfl,_,_,rfl,rfl,?_⟩;have e1:decide (key≤e.1)=decide ((n:Int)=((zaF es key:Nat):Int)):=by
   rw[ybl,decide_eq_true_iff,decide_eq_true_iff];omega
  show Q (.bl (decide (key≤e.1))) H;rw[e1];exact Q0
def zoy (K:Frag):Sp:=fun vs H Q _=>∃(br u v:Addr) (ps:List Nat) (rows:List (List Int)) (xs:List V) (k c:Nat) (key:Int),vs=[.ref br,.ref u,.ref v]∧H br=some (.lst xs)∧Paired (BrAt [] H ps rows) (List.range (ps.length+1)) xs∧zaC ps∧za2 rows∧ps.length≤40∧k < ps.length+1∧par ps c=some k∧zb4 H ps rows key k (.ref u)∧zb4 H ps rows key c (.ref v)∧∀ H',Same H H'→Q (.bl true) H'
theorem zpw (T:Txt K mg)(qaq:DF K mg "is_near_start" zbM zbD)(qcn:FC P w K mg base 1 "start_in" zc3 (zlH K)):FC P w K mg base 2 "is_near_start" zbD (zoy K):=by
 refine qaq.ok qay (fun vs H Q E h=>?_) (fun f cdv A outer s H vs Q E hr h=>?_)
 ·obtain ⟨br,u,v,ps,rows,xs,k,c,key,rfl,_⟩:=h;rfl
 obtain ⟨br,u,v,ps,rows,xs,k,c,key,rfl,hbr,hB,hT,hR,few,hk,hc,⟨u',e1,hu⟩,⟨v',e2,hv⟩,q⟩:=h;cases e1
 cases e2
 refine ⟨_,(zah (zap (i:=3) qay.nd rfl (Or.inl rfl) (zax qcn hr (zaa (pv 0) (zaa (zay zaN (pv 1) zae (fun _ _=>rfl)) (zaa (zay zaN (pv 1) zae (fun _ _=>rfl)) (zaa (zay zaN (pv 2) zae (fun _ _=>rfl)) zad))))))
   (zaf (zat (zjX zl3 zl3 (pv 3) (zay zaN (pv 2) zae (fun _ _=>rfl)) (zao zaO (pv 3) (zhw rfl T.qaN)))))),?_⟩
 refine ⟨_,rfl,_,rfl,_,_,_,_,rfl,rfl,SqT.of hu,rfl,_,rfl,_,_,_,_,rfl,rfl,SqT.of hu,rfl,_,rfl,_,_,_,_,rfl,rfl,SqT.of hv,rfl,[],br,ps,rows,xs,k,c,zaF (zak ps rows k) key,rfl,hbr,hB,hT,hk,hc,zcy _ _,fun H1 s1=>?_⟩;refine ⟨_,rfl,_,rfl,_,_,_,_,rfl,rfl,SqT.of (s1 _ _ hv),rfl,_,_,rfl,rfl,_,rfl,?_⟩;have NO:=zpF hT hR few hk hc (rows:=rows) key;have n1:=NO.lo;have n2:=NO.hi;rw[yah (show ((stN (zak ps rows c) ((zak ps rows k).take (zaF (zak ps rows k) key)):Nat):Int)≤((zaF (zak ps rows c) key:Nat):Int) by omega)];refine iteT ?_;refine ⟨_,rfl,_,_,rfl,rfl,_,_,rfl,rfl,?_⟩;show Q (.bl (decide _)) H1;rw[yah (show ((zaF (zak ps rows c) key:Nat):Int)≤((stN (zak ps rows c) ((zak ps rows k).take (zaF (zak ps rows k) key)):Nat):Int)+2 by omega)];exact q _ s1
theorem zkC {os:List (Option Tr3)}(h:∀ o∈os,o.isSome=true):∃ ts:List Tr3,os=ts.map some:=by
 induction os with
 | nil=>exact ⟨[],rfl⟩
 | cons o os ih=>
  obtain ⟨ts,e⟩:=ih fun x hx=>h x (yaD _ hx);obtain ⟨t,et⟩:=yct.mp (h o yaC);exact ⟨t::ts,by rw[e,et];rfl⟩
theorem zbS.some_at {K:Frag}{H:Hp}{x:V}{t:Tr3}(h:zbS K H x (some t)):∃ u,x=.ref u∧H u=some (.tup [.int t.1,.int t.2.1,.int t.2.2]):=by
 cases h with
 | good u a b c h=>exact ⟨u,rfl,h⟩
def zfN (ps:List Nat)(rows:List (List Int))(key:Int)(k:Nat):Tr3:=((k:Int),((zaF (zak ps rows k) key:Nat):Int),((ownB rows k key:Nat):Int))
def dueO (ps:List Nat)(rows:List (List Int))(key:Int)(wy:List Nat):List (Option Tr3):=wy.map fun k=>some (zfN ps rows key k)
def zoz (K:Frag):Sp:=fun vs H Q _=>∃(st wa pp:Addr) (key:Int) (ps:List Nat) (rows:List (List Int)) (t rs:Addr) (as:List Addr) (wy:List Nat) (zs:List V) (os:List (Option Tr3)),vs=[.ref st,.ref wa,.int key,.ref pp]∧zbs H st ps rows t rs as∧zdn H wa ps wy∧H pp=some (.lst zs)∧Paired (zbS K H) zs os∧zs.length≤200∧∀ H',Same H H'→Q (.bl (decide (os=dueO ps rows key wy))) H'
theorem zpz (T:Txt K mg)(qbx:DF K mg "lets_by" zeG zdU)(qco:FC P w K mg base 4 "need_way" zc4 (zox K))(qcz:FC P w K mg base 2 "is_line" zd5 (zjK K))(qcc:FC P w K mg base 8 "full_rows" zcJ (zlM K))(qbW:FC P w K mg base 2 "bridges_of" zcb (zoE K))(qbS:FC P w K mg base 1 "is_place_in" zbW (zh2 K))(qby:FC P w K mg base 2 "is_near_start" zbD (zoy K)):FC P w K mg base 9 "lets_by" zdU (zoz K):=by
 refine qbx.ok qaI (fun vs H Q E h=>?_) (fun f cdv A outer s H vs Q E hr h=>?_)
 ·obtain ⟨st,wa,pp,key,ps,rows,t,rs,as,wy,zs,os,rfl,_⟩:=h;rfl
 obtain ⟨st,wa,pp,key,ps,rows,t,rs,as,wy,zs,os,rfl,S,W,hpp,hP,hz,q⟩:=h;refine ⟨_,(zav (zbv (zax qco hr (zaa (zay zaN (pv 0) zae (fun _ _=>rfl)) (zaa (pv 1) zad))))
   (zb0 (zbk (PW.pt (zgc (zdu (zdj (zam zcd rfl T.qac boot_isinstance (zaa (pv 3) (zaa (zc6 (v:=.ty "list") rfl T.qaY boot_list rfl) zad))))) (zeU (zdu (zdj (zam (zgx rfl) rfl T.qcP boot_all (zaa (zbG (N:=["thing"]) (own:=1) (cap:=[]) rfl (zbq (pv 3)) ⟨rfl,rfl,rfl,rfl,rfl,rfl⟩ (fun _ _ _ _ _=>(zan (i:=0) (show List.Nodup (["thing"]:List Str) by decide +kernel) rfl (Or.inl rfl))) (fun _ _ _ _ _=>zbF) (fun _ _ _ _ _=>(zax qcz hr (zaa (pv 0) zad)))) zad))))))) (zaf (zat zbR)) zaB)
   (zb0 (zbk (zau (zoL (List Int) (huD hr)) (zbG (N:=["line"]) (own:=1) (cap:=[]) rfl (zbq (pv 3)) ⟨rfl,rfl,rfl,rfl,rfl,rfl⟩ (fun _ _ _ _ _=>(zan (i:=0) (show List.Nodup (["line"]:List Str) by decide +kernel) rfl (Or.inl rfl))) (fun _ _ _ _ _=>zbF) (fun _ _ _ _ _=>(zay (zgl (K:=K)) (pv 0) zae (fun _ _=>rfl)))) (pv 1) (zaA _)) (zaf (zat zbR)) zaB)
   (zav (zap (i:=4) qaI.nd rfl (Or.inl rfl) (zax qcc hr (zaa (pv 0) zad)))
   (zav (zap (i:=5) qaI.nd rfl (Or.inr rfl) (zax qbW hr (zaa (zay zaN (pv 0) zae (fun _ _=>rfl)) (zaa (pv 4) zad))))
   (zav (zaR PassesOwn.never rfl (zbq (pv 3)) (zan (i:=6) qaI.nd rfl (Or.inl rfl)) (zaf (zbk (PW.pt (zgc (zdu (zdj (zax qbS hr (zaa (zay zaz (pv 4) (zay zaN (pv 6) zae (fun _ _=>rfl)) (fun _ _=>rfl)) (zaa (zay zaN (pv 6) zae (fun _ _=>rfl)) (zaa (pv 2) zad)))))) (zeU (zau ziW (zay zaN (pv 6) zae (fun _ _=>rfl)) (zay zaz (zay zaN (zay zaz (pv 5) (zay zaN (pv 6) zae (fun _ _=>rfl)) (fun _ _=>rfl)) zae (fun _ _=>rfl)) (zay zaN (pv 6) zae (fun _ _=>rfl)) (fun _ _=>rfl)) (zaA _))))) (zaf (zat zbR)) zaB)))
   (zaf (zat (zam (zgx rfl) rfl T.qcP boot_all (zaa (zbG (N:=["line","below","bridges"]) (own:=2) (cap:=[5]) rfl (zlX rfl T.qcQ (zaa (pv 3) (zaa (zaI za8 (pv 3) (zaL zae) zba) zad))) ⟨rfl,rfl,rfl,rfl,rfl,rfl⟩ (fun _ _ _ _ _=>(zlZ (K:=K) (n:=2) rfl (za5 (zan (i:=0) (show List.Nodup (["line","below","bridges"]:List Str) by decide +kernel) rfl (Or.inl rfl)) (za5 (zan (i:=1) (show List.Nodup (["line","below","bridges"]:List Str) by decide +kernel) rfl (Or.inl rfl)) zdx)))) (fun _ _ _ _ _=>zbF) (fun _ _ _ _ _=>(zax qby hr (zaa (pv 2) (zaa (pv 0) (zaa (pv 1) zad)))))) zad)))))))))),?_⟩
 intro N1 n1;have few:=S.few;have hlen:=S.len;have hkeys:=S.keys;have wl:=W.len;have zl:=hP.length;refine ⟨_,rfl,_,_,_,_,rfl,rfl,SqT.of S.st,rfl,_,rfl,t,wa,ps,wy,rfl,S.tr,by omega,W,n1 _ _ ?_⟩;have no:∀ H',Same H H'→os≠dueO ps rows key wy→Q (.bl false) H':=fun H' s' z=>by
  have:=q H' s';rw[yaq z]at this;exact this
 refine ⟨fun σ' H'=>σ'=[some (.ref st),some (.ref wa),some (.int key),some (.ref pp),none,none,none]∧Same H H'∧∀ o∈os,o.isSome=true,?_,?_⟩
 ·intro N2 n2;refine ⟨_,rfl,_,_,_,_,rfl,.lst hpp,zoP,_,rfl,iteF ?_⟩;refine ⟨_,rfl,pp,rfl,⟨_,SqL.of hpp⟩,fun D hD=>?_⟩;refine zbz (xs:=zs) (fun i σ H2=>∃ x0:Option V,σ=[x0]∧H2 D=some (.lst (((os.take i).map Option.isSome).map V.bl))∧But D H H2) ?_ ?_ ?_ ?_
  ·exact ⟨_,rfl,zac,fun b o n e=>by rw[zai n];exact e⟩
  ·rintro i σ H2 _ ⟨x0,rfl,_,k2⟩;exact SqL.of (k2 _ _ (zab hpp hD) hpp)
  ·rintro i m v σ H2 hv hm ⟨x0,rfl,h2,k2⟩;have hi:=(yaf.mp hv).1;obtain ⟨o,ho,hL⟩:=zch hP hv;have s2:Same H H2:=fun b o e=>k2 b o (zab e hD) e;refine zcK ?_;refine ⟨_,rfl,v,o,rfl,hL.same s2,fun H3 s3=>?_⟩;refine ⟨_,s3 _ _ h2,zaq (by rw[yab,yab,yaj];omega),m - 1,by omega,by omega,_,rfl,?_,fun b o n e=>by rw[zai n];exact s3 _ _ (k2 b o n e)⟩;obtain ⟨hj,rfl⟩:=yaf.mp ho;rw[zac,yaB hj,yai,yai];rfl
  ·rintro σ H2 ⟨x0,rfl,h2,k2⟩;have s2:Same H H2:=fun b o e=>k2 b o (zab e hD) e;rw[zl,yap (yaa _)]at h2;refine ⟨D,os.map Option.isSome,rfl,SqL.of h2,_,rfl,?_⟩;by_cases c:∀ o∈os,o.isSome=true
   ·have e1:(os.map Option.isSome).all id=true:=yaN.mpr fun b hb=>by
     obtain ⟨o,ho,rfl⟩:=yaH.mp hb;exact c o ho
    rw[e1];exact iteF (n2 _ _ ⟨rfl,s2,c⟩)
   ·have e1:(os.map Option.isSome).all id=false:=by
     refine ybO.mpr fun z=>c fun o ho=>?_;exact yaN.mp z _ (List.mem_map_of_mem ho)
    rw[e1];refine iteT (no H2 s2 fun z=>c fun o ho=>?_);rw[z]at ho;obtain ⟨k,_,rfl⟩:=yaH.mp ho;rfl
 rintro _ H1 ⟨rfl,s1,hsome⟩;obtain ⟨ts,rfl⟩:=zkC hsome;clear hsome;rw[yab]at zl;have tl:ts.length=zs.length:=zl.symm;have hG:∀(i:Nat) (v:V),zs[i]?=some v→∃(u:Addr) (h:i < ts.length),v=.ref u∧H u=some (.tup [.int ts[i].1,.int ts[i].2.1,.int ts[i].2.2]):=fun i v hv=>by
  obtain ⟨o,ho,hL⟩:=zch hP hv;rw[yal]at ho;obtain ⟨t,ht,rfl⟩:=ybh.mp ho;obtain ⟨hi,rfl⟩:=yaf.mp ht;obtain ⟨u,e,hu⟩:=hL.some_at;exact ⟨u,hi,e,hu⟩
 clear hP;have hpp1:=s1 _ _ hpp;refine ⟨fun σ' H'=>σ'=[some (.ref st),some (.ref wa),some (.int key),some (.ref pp),none,none,none]∧Same H H'∧ts.map (·.1)=wy.map (fun n:Nat=>(n:Int)),?_,?_⟩
 ·intro N2 n2;refine ⟨_,rfl,pp,rfl,⟨_,SqL.of hpp1⟩,fun D hD=>?_⟩;refine zbz (xs:=zs) (fun i σ H2=>∃ x0:Option V,σ=[x0]∧H2 D=some (.lst (((ts.take i).map (·.1)).map V.int))∧But D H1 H2) ?_ ?_ ?_ ?_
  ·exact ⟨_,rfl,zac,fun b o n e=>by rw[zai n];exact e⟩
  ·rintro i σ H2 _ ⟨x0,rfl,_,k2⟩;exact SqL.of (k2 _ _ (zab hpp1 hD) hpp1)
  ·rintro i m v σ H2 hv hm ⟨x0,rfl,h2,k2⟩;obtain ⟨u,hi,rfl,hu⟩:=hG i v hv;have hu1:=s1 _ _ hu;refine zcK ?_;refine ⟨_,rfl,_,_,_,_,rfl,rfl,SqT.of (k2 _ _ (zab hu1 hD) hu1),rfl,?_⟩;refine ⟨_,h2,zaq (by rw[yab,yab,yaj];omega),m - 1,by omega,by omega,_,rfl,?_,fun b o n e=>by rw[zai n];exact k2 b o n e⟩;rw[zac,yaB hi,yai,yai];rfl
  ·rintro σ H2 ⟨x0,rfl,h2,k2⟩;have s2:Same H1 H2:=fun b o e=>k2 b o (zab e hD) e;have s02:=s1.trans s2;rw[← tl,yap (yaa _)]at h2;refine ⟨_,rfl,ts.map (·.1),wy.map (fun n:Nat=>(n:Int)),⟨D,_,rfl,SqL.of h2,zar.ints⟩,⟨_,_,rfl,SqL.of (s02 _ _ W.at_),zj2⟩,_,rfl,?_⟩;by_cases c:ts.map (·.1)=wy.map (fun n:Nat=>(n:Int))
   ·exact zit c (n2 _ _ ⟨rfl,s02,c⟩)
   ·refine zn2 c (no H2 s02 fun z=>c ?_);have z2:ts=wy.map (zfN ps rows key):=by
     have e0:dueO ps rows key wy=(wy.map (zfN ps rows key)).map some:=by unfold dueO;rw[ybf];rfl
     rw[e0]at z;exact ycF (fun a b h=>yae h) |>.mp z
    rw[z2,ybf];rfl
 clear hpp1 s1;rintro _ H1 ⟨rfl,s1,hfst⟩;have el:ts.length=wy.length:=by have:=congrArg List.length hfst;rwa[yab,yab]at this
 have hk:∀ i (h:i < ts.length),ts[i].1=((wy.getD i 0:Nat):Int)∧wy.getD i 0 < ps.length+1:=fun i h=>by
  have h2:i < wy.length:=by omega
  have:=congrArg (fun l=>l[i]?) hfst;simp only[yal,yac h,yac h2,ycf]at this;refine ⟨?_,W.kn _ (zjy h2)⟩;rw[yad,yac h2];exact yae this
 intro N3 n3;refine ⟨_,rfl,st,ps,rows,t,rs,as,rfl,S.same s1,fun pf qf H2 hpf s2 h2f nd hqf np F=>n3 _ _ ?_⟩;have s02:=s1.trans s2;intro N4 n4;refine ⟨_,rfl,_,_,_,_,rfl,rfl,SqT.of (s02 _ _ S.st),rfl,_,rfl,st,ps,rows,t,rs,as,pf,qf,rfl,S.same s02,h2f,F,fun br xs H3 hbr s3 h3b hB=>n4 _ _ ?_⟩;have s03:=s02.trans s3;have F3:=zkq (.of s3) F;have h3f:=s3 _ _ h2f;have hpp3:=s03 _ _ hpp;intro N5 n5;refine ⟨_,rfl,pp,rfl,⟨_,SqL.of hpp3⟩,?_⟩;refine zcM (xs:=zs) (fun i σ H'=>∃ x6:Option V,σ=[some (.ref st),some (.ref wa),some (.int key),some (.ref pp),some (.ref pf),some (.ref br),x6]∧H3=H'∧∀ j (h:j < ts.length),j < i→ts[j]=zfN ps rows key (wy.getD j 0)) ?_ ?_ ?_ ?_
 ·exact ⟨_,rfl,rfl,fun j _ hj=>absurd hj (ych _)⟩
 ·rintro i σ H' _ ⟨x6,rfl,rfl,_⟩;exact SqL.of hpp3
 ·rintro i v σ H' hv ⟨x6,rfl,rfl,old⟩;refine zn6 fun N B R hN hB' hR=>?_;obtain ⟨u,hi,rfl,hu⟩:=hG i v hv;have hu3:=s03 _ _ hu;obtain ⟨ek,hkn⟩:=hk i hi;rw[ek]at hu3;obtain ⟨qk,hqk,wk,hwk,hak⟩:=zdS F3 hkn;obtain ⟨xb,hxb,bb,ob,jb,yb,rfl,_,_,hbb,hob,_,_⟩:=zdS hB hkn;have hfl:=zdd S.T S.len (rows:=rows) hkn;have hri:=zaV S.T S.R hkn (rows:=rows);have bad:ts[i]≠zfN ps rows key (wy.getD i 0)→Q (.bl false) H3:=fun z=>no H3 s03 fun w=>z (by
   have:=congrArg (fun l=>l[i]?) w;unfold dueO at this;have h2:i < wy.length:=by omega
   simp only[yal,yac hi,yac h2,ycf]at this;rw[yad,yac h2];exact yae (yae this))
  obtain ⟨k,ek0⟩:∃ k,wy.getD i 0=k:=⟨_,rfl⟩;rw[ek0]at ek hkn hu3 hqk hak hxb hbb hob hfl hri bad;refine ⟨_,rfl,_,rfl,_,_,_,_,rfl,rfl,SqT.of hu3,rfl,_,_,_,_,rfl,rfl,SqL.of h3f,zdI hqk,_,rfl,_,_,_,_,rfl,rfl,SqT.of hu3,rfl,_,rfl,qk,ts[i].2.1,key,wk,_,rfl,hwk,hak,hri,by omega,_,rfl,?_⟩;by_cases c:ts[i].2.1=((zaF (zak ps rows k) key:Nat):Int)
  ·rw[yah c];rw[c]at hu3;refine iteF ?_;refine ⟨_,rfl,_,_,_,_,rfl,rfl,SqT.of hu3,rfl,_,rfl,_,rfl,_,_,_,_,rfl,rfl,SqT.of hu3,rfl,_,_,_,_,rfl,rfl,SqL.of h3b,zbI hxb,_,_,_,_,rfl,rfl,SqT.of hbb,rfl,_,rfl,_,_,_,_,rfl,rfl,SqT.of hu3,rfl,_,_,_,_,rfl,rfl,SqL.of hob,znA S.T S.R hkn key,rfl,_,rfl,?_⟩;by_cases c2:ts[i].2.2=((ownB rows k key:Nat):Int)
   ·refine zit (show V.int _=V.int _ by rw[c2]) (hN _ _ ⟨_,rfl,rfl,fun j hj hji=>?_⟩);rcases Nat.lt_or_ge j i with z | z
    ·exact old j hj z
    ·have:j=i:=by omega
     subst this;rw[ek0];exact Prod.ext ek (Prod.ext c c2)
   ·refine zn2 (fun z=>c2 (V.int.inj z)) (hR _ _ (bad fun z=>c2 ?_));rw[z];rfl
  ·rw[yaq c];refine iteT (hR _ _ (bad fun z=>c ?_));rw[z];rfl
 ·rintro σ H' ⟨x6,rfl,rfl,old⟩;refine n5 _ _ ?_;have ets:ts=wy.map (zfN ps rows key):=by
   refine List.ext_getElem (by rw[yab];exact el) fun i h1 h2=>?_;rw[old i h1 (by omega),List.getElem_map,yad,yac (by omega)];rfl
  have yes:∀ H',Same H H'→Q (.bl true) H':=fun H' s'=>by
   have:=q H' s';rw[yah (show ts.map some=dueO ps rows key wy by rw[ets];unfold dueO;rw[ybf];rfl)]at this;exact this
  have trip:∀(i:Nat) (v:V),zs[i]?=some v→zb4 H3 ps rows key (wy.getD i 0) v:=fun i v hv=>by
   obtain ⟨u,hi,rfl,hu⟩:=hG i v hv;refine ⟨u,rfl,?_⟩;have:=s03 _ _ hu;rw[old i hi (by omega)]at this;exact this
  refine ⟨_,rfl,_,rfl,1,rfl,pp,_,rfl,SqL.of hpp3,fun p hp=>?_⟩;rw[show (1:Int)=((1:Nat):Int) from rfl,ziA];have g4:=zag hp (.lst (zs.drop 1));have w4:upd H3 p (.lst (zs.drop 1)) p=some (.lst (zs.drop 1)):=zac;generalize upd H3 p (.lst (zs.drop 1))=H4 at g4 w4 ⊢;have hpp4:=g4 _ _ hpp3;refine ⟨pp,p,rfl,⟨_,SqL.of hpp4⟩,⟨_,SqL.of w4⟩,fun D hD=>?_⟩;have hdl:(zs.drop 1).length=zs.length - 1:=yaP;refine zm1 (xs:=zs) (ys:=zs.drop 1) (by omega) (fun i σ H5=>∃ x0 x1:Option V,σ=[x0,x1,some (.ref br)]∧H5 D=some (.lst ((List.replicate i true).map V.bl))∧But D H4 H5) ?_ ?_ ?_ ?_
  ·exact ⟨_,_,rfl,zac,fun b o n e=>by rw[zai n];exact e⟩
  ·rintro i σ H5 _ ⟨x0,x1,rfl,_,k5⟩;exact ⟨SqL.of (k5 _ _ (zab hpp4 hD) hpp4),SqL.of (k5 _ _ (zab w4 hD) w4)⟩
  ·rintro i m x y σ H5 r hx hy hm ⟨x0,x1,rfl,h5,k5⟩ hr0;rw[ybV]at hy;obtain ⟨u,eu,hu⟩:=trip i x hx;obtain ⟨v,ev,hv⟩:=trip (1+i) y hy;subst eu ev;have hi1:1+i < zs.length:=(yaf.mp hy).1;have gr:=zag hr0 (.tup [V.ref u,V.ref v]);have wr:upd H5 r (.tup [V.ref u,V.ref v]) r=some (.tup [V.ref u,V.ref v]):=zac;generalize upd H5 r (.tup [V.ref u,V.ref v])=H6 at gr wr ⊢;have s36:Same H3 H6:=g4.trans (Same.trans (fun b o e=>k5 b o (zab e hD) e) gr);refine ⟨r,_,rfl,SqT.of wr,rfl,_,_,rfl,_,_,rfl,rfl,?_⟩;refine zo9 (iteT ?_);have hpar:par ps (wy.getD (1+i) 0)=some (wy.getD i 0):=by rw[Nat.add_comm];exact W.ch i (by omega)
   refine ⟨_,rfl,_,rfl,_,rfl,br,u,v,ps,rows,xs,wy.getD i 0,wy.getD (1+i) 0,key,rfl,s36 _ _ h3b,zrO (.of s36) hB,S.T,S.R,few,W.kn _ (zjy (by omega)),hpar,⟨u,rfl,s36 _ _ hu⟩,⟨v,rfl,s36 _ _ hv⟩,fun H7 s7=>?_⟩;refine ⟨_,s7 _ _ (gr _ _ h5),zaq (by rw[yab,ya8];omega),m - 1,by omega,by omega,_,_,rfl,?_,fun b o n e=>by rw[zai n];exact s7 _ _ (gr _ _ (k5 b o n e))⟩;rw[zac,ycD,yai];rfl
  ·rintro σ H5 ⟨x0,x1,rfl,h5,k5⟩;refine ⟨D,List.replicate (zs.drop 1).length true,rfl,SqL.of h5,?_⟩;have e1:(List.replicate (zs.drop 1).length true).all id=true:=yaN.mpr fun b hb=>List.eq_of_mem_replicate hb;rw[e1];exact yes H5 (s03.trans (g4.trans fun b o e=>k5 b o (zab e hD) e))
def Gv (t:TE)(σ:L2.St)(H:Hp)(R:V→Hp→Prop):Prop:=∀ H1,Same H H1→∀ Q:VK,(∀ x H2,Same H1 H2→R x H2→Q x H2)→t σ H1 Q
def GvA (t:TA)(σ:L2.St)(H:Hp)(R:List V→Hp→Prop):Prop:=∀ H1,Same H H1→∀ Q:List V→Hp→Prop,(∀ x H2,Same H1 H2→R x H2→Q x H2)→t σ H1 Q
def GvO (t:TO)(σ:L2.St)(H:Hp)(o:Option Int):Prop:=∀ H1,Same H H1→∀ Q:Option Int→Hp→Prop,Q o H1→t σ H1 Q
theorem Same.refl (H:Hp):Same H H:=fun _ _ h=>h
theorem Gv.mono {t:TE}{σ:L2.St}{H:Hp}{R R':V→Hp→Prop}(h:Gv t σ H R)(m:∀ x H2,Same H H2→R x H2→R' x H2):Gv t σ H R':=fun H1 s Q q=>h H1 s Q fun x H2 s2 r=>q x H2 s2 (m x H2 (s.trans s2) r)
theorem zfJ {i:Nat}{σ:L2.St}{H:Hp}{x:V}{R:V→Hp→Prop}(e:σ[i]?=some (some x))(r:∀ H1,Same H H1→R x H1):Gv (tVar i) σ H R:=fun H1 s Q q=>⟨x,e,q x H1 (Same.refl _) (r H1 s)⟩
theorem zbn {σ:L2.St}{H:Hp}:GvO ziR σ H none:=fun _ _ _ q=>q
theorem zdE {i:Nat}{σ:L2.St}{H:Hp}{x:Int}(e:σ[i]?=some (some (.int x))):GvO (ziQ (tVar i)) σ H (some x):=fun _ _ _ q=>⟨_,e,x,rfl,q⟩
theorem zea {i:Nat}{σ:L2.St}{H:Hp}{x k:Int}(e:σ[i]?=some (some (.int x))):GvO (ziQ (tOp (rI0 fun i j=>V.int (i+j)) (tVar i) (tC (V.int k)))) σ H (some (x+k)):=fun _ _ _ q=>⟨_,e,x,k,rfl,rfl,_,rfl,q⟩
def LP (n:Nat)(E:V→Hp→Prop)(x:V)(H:Hp):Prop:=∃ a zs,x=.ref a∧H a=some (.lst zs)∧zs.length≤n∧∀ z∈zs,E z H
def zfP (E:V→Hp→Prop):Prop:=∀ x H H',Same H H'→E x H→E x H'
theorem zcW {σ:L2.St}{H:Hp}{E:V→Hp→Prop}{n m:Nat}{t u:TE}(hE:zfP E)(h1:Gv t σ H (LP n E))(h2:Gv u σ H (LP m E))(hl:n+m≤100000):Gv (tOp rCat t u) σ H (LP (n+m) E):=fun H1 s1 Q q=>
 h1 H1 s1 _ fun x H2 s2 r1=>h2 H2 (s1.trans s2) _ fun y H3 s3 r2=>by
  obtain ⟨a,xs,rfl,ha,la,ea⟩:=r1;obtain ⟨b,ys,rfl,hb,lb,eb⟩:=r2;refine ⟨a,b,_,_,rfl,rfl,s3 _ _ ha,hb,yar (Nat.add_le_add la lb) (yar hl (by decide)),fun p hp=>?_⟩;have sp:=zag hp (.lst (xs++ys));refine q _ _ (s2.trans (s3.trans sp)) ⟨p,_,rfl,zac,by rw[yak];omega,fun z hz=>?_⟩;rcases yao.mp hz with h | h
  ·exact hE _ _ _ (s3.trans sp) (ea z h)
  ·exact hE _ _ _ sp (eb z h)
theorem zof {xs:List V}{lo hi:Option Int}{z:V}(h:z∈cutV xs lo hi):z∈xs:=ybE (ybz h)
theorem zog (xs:List V)(lo hi:Option Int):(cutV xs lo hi).length≤xs.length:=by
 unfold cutV;rw[yaj,yaP];omega
theorem zbo {K:Frag}{σ:L2.St}{H:Hp}{E:V→Hp→Prop}{n i:Nat}{x:V}{tl th:TO}{lo hi:Option Int}(hE:zfP E)(e:σ[i]?=some (some x))(h:LP n E x H)(hl:GvO tl σ H lo)(hh:GvO th σ H hi):Gv (tSl (rSlL K) (tVar i) tl th) σ H (LP n E):=fun H1 s1 Q q=>by
 obtain ⟨a,zs,rfl,ha,la,ea⟩:=h;refine ⟨_,e,hl H1 s1 _ (hh H1 s1 _ ⟨a,zs,rfl,SqL.of (s1 _ _ ha),fun p hp=>?_⟩)⟩;have sp:=zag hp (.lst (cutV zs lo hi));exact q _ _ sp ⟨p,_,rfl,zac,yar (zog _ _ _) la,fun z hz=>hE _ _ _ (s1.trans sp) (ea z (zof hz))⟩
theorem zb2 {σ:L2.St}{H:Hp}{E:V→Hp→Prop}:GvA tNil σ H (fun xs H'=>xs.length=0∧∀ x∈xs,E x H'):=fun H1 _ Q q=>q [] H1 (Same.refl _) ⟨rfl,fun _ h=>absurd h ybs⟩
theorem zaJ {σ:L2.St}{H:Hp}{E:V→Hp→Prop}{n:Nat}{t:TE}{ts:TA}(hE:zfP E)(h:Gv t σ H E)(hs:GvA ts σ H (fun xs H'=>xs.length=n∧∀ x∈xs,E x H')):GvA (zlD t ts) σ H (fun xs H'=>xs.length=n+1∧∀ x∈xs,E x H'):=fun H1 s1 Q q=>
 h H1 s1 _ fun x H2 s2 r=>hs H2 (s1.trans s2) _ fun xs H3 s3 r3=>q _ _ (s2.trans s3) ⟨by rw[yaI,r3.1],fun z hz=>by
  rcases yat.mp hz with rfl | h
  ·exact hE _ _ _ s3 r
  ·exact r3.2 z h⟩
theorem zfK {σ:L2.St}{H:Hp}{E:V→Hp→Prop}{n:Nat}{ts:TA}(hE:zfP E)(hs:GvA ts σ H (fun xs H'=>xs.length=n∧∀ x∈xs,E x H'))(hn:n≤1000:=by decide):Gv (tLst ts) σ H (LP n E):=fun H1 s1 Q q=>
 hs H1 s1 _ fun xs H2 s2 r=>⟨by rw[r.1];exact yar hn (by decide),fun p hp=>q _ _ (s2.trans (zag hp _)) ⟨p,xs,rfl,zac,Nat.le_of_eq r.1,fun z hz=>hE _ _ _ (zag hp _) (r.2 z hz)⟩⟩
theorem LP.mono {n:Nat}{E:V→Hp→Prop}(hE:zfP E):zfP (LP n E):=fun x H H' s h=>by
 obtain ⟨a,zs,rfl,ha,la,ea⟩:=h;exact ⟨a,zs,rfl,s _ _ ha,la,fun z hz=>hE _ _ _ s (ea z hz)⟩
theorem LP.le {n m:Nat}{E:V→Hp→Prop}{x:V}{H:Hp}(h:LP n E x H)(hn:n≤m:=by decide):LP m E x H:=by
 obtain ⟨a,zs,rfl,ha,la,ea⟩:=h;exact ⟨a,zs,rfl,ha,yar la hn,ea⟩
def del (H:Hp)(L:List Addr):Hp:=fun b=>if b∈L then none else H b
theorem zmT {H:Hp}{L:List Addr}{b:Addr}(h:b∉L):del H L b=H b:=if_neg h
theorem zmU {H:Hp}{L:List Addr}{b:Addr}{o:HO}(e:del H L b=some o):b∉L∧H b=some o:=by
 unfold del at e;by_cases c:b∈L
 ·rw[if_pos c]at e;cases e
 ·rw[if_neg c]at e;exact ⟨c,e⟩
theorem zku {H H':Hp}{L:List Addr}(s:Same H H'):Same (del H L) (del H' L):=fun b o e=>by
 obtain ⟨n,h⟩:=zmU e;rw[zmT n];exact s _ _ h
theorem zkv {H H':Hp}{d:Addr}(k:Keep d H H'):Same (del H [d]) (del H' [d]):=fun b o e=>by
 obtain ⟨n,h⟩:=zmU e;rw[zmT n];exact k _ _ (fun z=>n (yam.mpr z)) h
theorem zoc {H:Hp}{L:List Addr}:Same (del H L) H:=fun b o e=>(zmU e).2
theorem zek {H:Hp}{d a:Addr}{o:HO}(n:a≠d)(h:H a=some o):del H [d] a=some o:=by
 rw[zmT (fun z=>n (yam.mp z))];exact h
def Pt (K:Frag)(d:Addr)(x:V)(H:Hp):Prop:=zk9 x=true∧∃ b,za1 K (del H [d]) x b
theorem Pt.same {K:Frag}{d:Addr}:zfP (Pt K d):=fun x H H' s ⟨g,b,h⟩=>⟨g,b,h.same (zku s)⟩
theorem Pt.keep {K:Frag}{d:Addr}{x:V}{H H':Hp}(k:Keep d H H')(h:Pt K d x H):Pt K d x H':=by
 obtain ⟨g,b,h⟩:=h;exact ⟨g,b,h.same (zkv k)⟩
theorem Pt.int {K:Frag}{d:Addr}{H:Hp}(i:Int):Pt K d (.int i) H:=⟨rfl,true,.int i⟩
theorem Pt.oth {K:Frag}{d:Addr}{H:Hp}{x:V}{t:String}(g:zk9 x=true)(ty:TyOf K (del H [d]) x (.type t))(h:kitO t "int" = some false):Pt K d x H:=⟨g,false,.oth x t ty h⟩
theorem zmh {K:Frag}{L d a:Addr}{H:Hp}(s:LS K L d H)(e:H a=none):a≠d:=fun z=>by
 obtain ⟨_,_,_,e2,_⟩:=s.ex;rw[← z,e]at e2;cases e2
theorem zgg {K:Frag}{L d a:Addr}{H:Hp}{o:HO}(s:LS K L d H)(e:H a=some o)(n:∀ kvs,o≠.dK kvs):a≠d:=fun z=>by
 obtain ⟨_,_,_,e2,_⟩:=s.ex;rw[← z,e]at e2;exact n _ (yae e2)
theorem zjn {zs:List V}{n:Int}(h0:0≤n)(h1:n < zs.length):∃ z,z∈zs∧atI zs n=some z:=by
 obtain ⟨j,rfl⟩:∃ j:Nat,n=j:=⟨n.toNat,by omega⟩;have hj:j < zs.length:=by omega
 exact ⟨zs[j],yay hj,zbI (yac hj)⟩
def zlI (K:Frag):Sp:=fun vs H Q _=>∃(d L st:Addr) (n:Int) (ps:List Nat) (rows:List (List Int)) (t rs:Addr) (as:List Addr),vs=[.ref d,.ref st,.int n]∧zbs H st ps rows t rs as∧LS K L d H∧(0≤n∧n≤100000)∧
 ∀(x:V) (H':Hp),Pt K d x H'→Keep d H H'→LS K L d H'→Q x H'
theorem znH (T:Txt K mg)(qbz:DF K mg "_law_other" zeK zdY)(qaa:FC P w K mg base 2 "_law_take" za9 (zdr K)):FC P w K mg base 3 "_law_other" zdY (zlI K):=by
 refine qbz.ok qa4 (fun vs H Q E h=>?_) (fun f cdv A outer s H vs Q E hr h=>?_)
 ·obtain ⟨d,L,st,n,ps,rows,t,rs,as,rfl,_⟩:=h;rfl
 obtain ⟨d,L,st,n,ps,rows,t,rs,as,rfl,S,hs,hn,q⟩:=h;refine ⟨_,(zah (zap (i:=3) qa4.nd rfl (Or.inl rfl) (zaG (zaa (zao zaO (pv 2) zae) (zaa (zao zbb (pv 2) zae) (zaa (zao zaO (pv 2) zae) (zaa (zao zbb zae (pv 2)) (zaa zae (zaa zbR (zaa zbR (zaa zl0 (zaa (zbi zm6 rfl T.qc7 boot_str (zaa (pv 2) zad)) (zaa (zao ze6 zae zae) zad))))))))))))
   (zah (zap (i:=3) qa4.nd rfl (Or.inl rfl) (zao zbO (pv 3) (zaG (zaa (zao zbb zae (zao ze6 zae zae)) (zaa (zbu (zaa (pv 2) zad)) (zaa (zaG (zaa (pv 2) zad)) (zaa (zam zal rfl T.qag boot_len (zaa (zay zaN (pv 1) zae (fun _ _=>rfl)) zad)) (zaa (zao zaO (pv 2) zae) (zaa (zao zbb (pv 2) zae) zad)))))))))
   (zaf (zat (zay zaz (pv 3) (zax qaa hr (zaa (pv 0) (zaa (zam zal rfl T.qag boot_len (zaa (pv 3) zad)) zad))) (fun _ _=>rfl)))))),?_⟩
 have hlog:n.natAbs.log2 < 1920:=by
  by_cases c:n.natAbs=0
  ·rw[c];decide
  ·rw[Nat.log2_lt c];exact yba (show n.natAbs≤2 ^ 20 by omega) (Nat.pow_lt_pow_right (by decide) (by decide))
 refine ⟨_,rfl,_,_,rfl,rfl,_,rfl,_,_,rfl,rfl,_,rfl,_,_,rfl,rfl,_,rfl,_,_,rfl,rfl,?_⟩;refine ⟨_,rfl,n,rfl,hlog,?_⟩;refine ⟨_,_,rfl,rfl,⟨by decide,by decide,by decide⟩,(by show 10≤sizeLine;decide),fun l1 hl1=>?_⟩;have s1:=zag hl1 (.lst [.int (n+1),.int (n - 1),.int (n+2),.int (0 - n),.int 0,.bl true,.bl false,.non,.str (Str.ofString (toString n)),.int (10 ^ (59:Int).toNat)]);have h1:upd H l1 (.lst [.int (n+1),.int (n - 1),.int (n+2),.int (0 - n),.int 0,.bl true,.bl false,.non,.str (Str.ofString (toString n)),.int (10 ^ (59:Int).toNat)]) l1=some (.lst [.int (n+1),.int (n - 1),.int (n+2),.int (0 - n),.int 0,.bl true,.bl false,.non,.str (Str.ofString (toString n)),.int (10 ^ (59:Int).toNat)]):=zac;generalize upd H l1 (.lst [.int (n+1),.int (n - 1),.int (n+2),.int (0 - n),.int 0,.bl true,.bl false,.non,.str (Str.ofString (toString n)),.int (10 ^ (59:Int).toNat)])=H1 at s1 h1 ⊢;have ls1:=hs.same s1;refine ⟨_,rfl,_,_,rfl,rfl,⟨by decide,by decide,by decide⟩,_,_,rfl,rfl,_,rfl,(by show 1≤sizeLine;decide),fun u hu=>?_⟩;have s2:=zag hu (.tup [.int n]);have h2:upd H1 u (.tup [.int n]) u=some (.tup [.int n]):=zac;have nu:=zmh ls1 hu;have ls2:=ls1.same s2;generalize upd H1 u (.tup [.int n])=H2 at s2 h2 ls2 ⊢;refine ⟨_,rfl,(by show 1≤sizeLine;decide),fun g hg=>?_⟩;have s3:=zag hg (.lst [.int n]);have h3:upd H2 g (.lst [.int n]) g=some (.lst [.int n]):=zac;have ng:=zmh ls2 hg;have ls3:=ls2.same s3;generalize upd H2 g (.lst [.int n])=H3 at s3 h3 ls3 ⊢;have s13:=s2.trans s3;have s03:=s1.trans s13;refine ⟨_,rfl,_,_,_,_,rfl,rfl,SqT.of (s03 _ _ S.st),rfl,_,_,rfl,.inr (SqT.of (s03 _ _ S.tr)),_,rfl,_,_,rfl,rfl,_,rfl,_,_,rfl,rfl,(by show 6≤sizeLine;decide),fun l2 hl2=>?_⟩;rw[zaw];have s4:=zag hl2 (.lst [.int (0 - 10 ^ (59:Int).toNat),.ref u,.ref g,.int ((ps.length+1:Nat):Int),.int (n+1),.int (n - 1)]);have h4:upd H3 l2 (.lst [.int (0 - 10 ^ (59:Int).toNat),.ref u,.ref g,.int ((ps.length+1:Nat):Int),.int (n+1),.int (n - 1)]) l2=some (.lst [.int (0 - 10 ^ (59:Int).toNat),.ref u,.ref g,.int ((ps.length+1:Nat):Int),.int (n+1),.int (n - 1)]):=zac;generalize upd H3 l2 (.lst [.int (0 - 10 ^ (59:Int).toNat),.ref u,.ref g,.int ((ps.length+1:Nat):Int),.int (n+1),.int (n - 1)])=H4 at s4 h4 ⊢;refine ⟨l1,l2,_,_,rfl,rfl,s4 _ _ (s13 _ _ h1),h4,(by show 16≤sizeLine;decide),fun l3 hl3=>?_⟩;obtain ⟨zs,ezs⟩:∃ zs:List V,zs=[V.int (n+1),.int (n - 1),.int (n+2),.int (0 - n),.int 0,.bl true,.bl false,.non,.str (Str.ofString (toString n)),.int (10 ^ (59:Int).toNat)]++[.int (0 - 10 ^ (59:Int).toNat),.ref u,.ref g,.int ((ps.length+1:Nat):Int),.int (n+1),.int (n - 1)]:=⟨_,rfl⟩;rw[← ezs];have s5:=zag hl3 (.lst zs);have h5:upd H4 l3 (.lst zs) l3=some (.lst zs):=zac;have n3:=zmh (ls3.same s4) hl3;generalize upd H4 l3 (.lst zs)=H5 at s5 h5 ⊢;have s05:=s03.trans (s4.trans s5);have ls5:=ls3.same (s4.trans s5);have zl:zs.length=16:=by rw[ezs];rfl
 have all:∀ z∈zs,Pt K d z H5:=by
  have c1:=zek nu (s5 _ _ (s4 _ _ (s3 _ _ h2)));have c2:=zek ng (s5 _ _ (s4 _ _ h3));intro z hz;rw[ezs]at hz;simp only[List.cons_append,ybD,yat,ybs,or_false]at hz;rcases hz with rfl | rfl | rfl | rfl | rfl | rfl | rfl | rfl | rfl | rfl | rfl | rfl | rfl | rfl | rfl | rfl
  ·exact .int _
  ·exact .int _
  ·exact .int _
  ·exact .int _
  ·exact .int _
  ·exact ⟨rfl,false,.bl _⟩
  ·exact ⟨rfl,false,.bl _⟩
  ·exact .oth rfl .non zqW
  ·exact .oth rfl (.str _) zqU
  ·exact .int _
  ·exact .int _
  ·exact .oth rfl (.tup c1) zqS
  ·exact .oth rfl (.lst c2) zqX
  ·exact .int _
  ·exact .int _
  ·exact .int _
 clear ezs;refine ⟨_,rfl,_,rfl,_,rfl,_,_,rfl,.inl (SqL.of h5),?_⟩;rw[zl];refine ⟨d,L,16,rfl,by decide,ls5,fun v H6 v0 v1 k6 s6=>?_⟩;obtain ⟨z,hzm,hat⟩:=zjn v0 (show v < zs.length by rw[zl];omega);refine ⟨_,_,_,_,rfl,rfl,SqL.of (k6 _ _ n3 h5),hat,?_⟩;exact q z H6 ((all z hzm).keep k6) (fun b o n e=>k6 _ _ n (s05 _ _ e)) s6
section
variable {K:Frag}{H:Hp}{a b:Addr}{xs ys:List V}{n:Nat}{Q:VK}
theorem zoG (h:H a=some (.tup xs))(q:∀ v H',Same H H'→H' v=some (.tup (xs.take n))→Q (.ref v) H'):rSlX K (.ref a) none (some (n:Int)) H Q:=
 ⟨a,xs,rfl,SqT.of h,fun z=>q a H (fun _ _ e=>e) (by
  have:=z.2;rw[zem]at this;rw[yap (by omega)];exact h),fun _ p hp=>q p _ (zag hp _) (by rw[zac,zp2])⟩
theorem znr (h:H a=some (.tup xs))(q:∀ v H',Same H H'→H' v=some (.tup (xs.drop n))→Q (.ref v) H'):rSlX K (.ref a) (some (n:Int)) none H Q:=
 ⟨a,xs,rfl,SqT.of h,fun z=>q a H (fun _ _ e=>e) (by
  have:=z.1;rw[zem]at this;have e:xs.drop n=xs:=by
   rcases Nat.eq_zero_or_pos n with y | y
   ·rw[y];rfl
   ·have:xs=[]:=List.length_eq_zero_iff.mp (by omega);rw[this];exact List.drop_nil
  rw[e];exact h),fun _ p hp=>q p _ (zag hp _) (by rw[zac,ziA])⟩
theorem zky (ha:H a=some (.tup xs))(hb:H b=some (.tup ys))(hy:ys≠[])(hl:xs.length+ys.length≤sizeLine)(q:∀ v H',Same H H'→H' v=some (.tup (xs++ys))→Q (.ref v) H'):zpj K (.ref a) (.ref b) H Q:=
 ⟨a,b,xs,ys,rfl,rfl,SqT.of ha,SqT.of hb,hy,hl,fun z=>q b H (fun _ _ e=>e) (by rw[z];exact hb),fun _ p hp=>q p _ (zag hp _) zac⟩
theorem zok (ha:H a=some (.tup xs))(hb:H b=some (.tup ys))(hl:xs.length+ys.length≤sizeLine)(q:∀ v H',Same H H'→H' v=some (.tup (xs++ys))→Q (.ref v) H'):zqy K (.ref a) (.ref b) H Q:=
 ⟨a,b,xs,ys,rfl,rfl,SqT.of ha,SqT.of hb,hl,fun z=>q b H (fun _ _ e=>e) (by rw[z];exact hb),fun _=>⟨fun z=>q a H (fun _ _ e=>e) (by rw[z,yaG];exact ha),fun _ p hp=>q p _ (zag hp _) zac⟩⟩
end
theorem zlQ {n:Nat}(h:n≤2000):n < sizeLine:=yba h (by decide)
theorem zlT {H:Hp}{as:List Addr}{rows:List (List Int)}(h:zaZ H as rows):zaZ H (as.drop 1++as.take 1) (rows.drop 1++rows.take 1):=by
 cases h with
 | nil=>exact .nil
 | cons a t=>exact zaZ.snoc t a
theorem zod {as:List Addr}:cutV (as.map V.ref) (some 1) none=(as.drop 1).map V.ref:=by
 unfold cutV;rw[show HT.sIx (as.map V.ref).length 0 (some 1)=min 1 (as.map V.ref).length from rfl,show HT.sIx (as.map V.ref).length (as.map V.ref).length none=(as.map V.ref).length from rfl];cases as with
 | nil=>rfl
 | cons a l=>
  rw[show min 1 (List.map V.ref (a::l)).length=1 by rw[yab,yaI];omega];show (l.map V.ref).take _=l.map V.ref;rw[yap (by rw[yab,yab,yaI];omega)]
theorem zoe {as:List Addr}:cutV (as.map V.ref) none (some 1)=(as.take 1).map V.ref:=by
 unfold cutV;rw[show HT.sIx (as.map V.ref).length 0 none=0 from rfl,show HT.sIx (as.map V.ref).length (as.map V.ref).length (some 1)=min 1 (as.map V.ref).length from rfl];cases as with
 | nil=>rfl
 | cons a l=>
  rw[show min 1 (List.map V.ref (a::l)).length=1 by rw[yab,yaI];omega];rfl
theorem zpg {K:Frag}{H:Hp}{a:Addr}{as:List Addr}{Q:VK}(h:H a=some (.tup (as.map V.ref)))(q:∀ y H7,Same H H7→H7 y=some (.tup ((as.take 1).map V.ref))→Q (.ref y) H7):rSlX K (.ref a) none (some 1) H Q:=by
 refine ⟨a,_,rfl,SqT.of h,fun z=>?_,fun _ p hp=>?_⟩
 ·refine q a H (fun _ _ e=>e) ?_;have z2:min 1 (as.map V.ref).length=(as.map V.ref).length:=z.2;rw[yab]at z2;rw[yap (by omega)];exact h
 ·rw[zoe];exact q p _ (zag hp _) zac
theorem KeepT.rows {H H':Hp}(e:∀ b o,H b=some (.tup o)→H' b=some (.tup o)):∀{as:List Addr} {rows:List (List Int)},zaZ H as rows→zaZ H' as rows
 | _,_,.nil=>.nil
 | _,_,.cons h t=>.cons (e _ _ h) (KeepT.rows e t)
theorem KeepT.stand {H H':Hp}{st t rs:Addr}{ps:List Nat}{rows:List (List Int)}{as:List Addr}(S:zbs H st ps rows t rs as)(e:∀ b o,H b=some (.tup o)→H' b=some (.tup o)):zbs H' st ps rows t rs as:=
 ⟨e _ _ S.st,e _ _ S.tr,e _ _ S.rs,KeepT.rows e S.at_,S.len,S.T,S.R,S.few,S.keys⟩
theorem zks {K:Frag}{H:Hp}{p:Addr}{ps:List Nat}{rows:List (List Int)}:∀{n:Nat} {qs:List Addr} (m:Nat),qs.length=n→(∀(j:Nat) (q:Addr),qs[j]?=some q→∃ ws,H q=some (.lst ws)∧zar K H (zak ps rows (m+j)) ws)→zaD K H ps rows (List.range' m n) qs
 | _,[],_,rfl,_=>.nil
 | _,q::qs,m,rfl,h=>by
  refine .cons (h 0 q rfl) (zks (p:=p) (m+1) rfl fun j q' hj=>?_);have:=h (j+1) q' hj;rwa[show m+(j+1)=m+1+j by omega]at this
theorem FA.fulls {K:Frag}{H:Hp}{p:Addr}{ps:List Nat}{rows:List (List Int)}{n:Nat}{qs:List Addr}(h:FA K H p qs n (zak ps rows)):zaD K H ps rows (List.range n) qs:=by
 rw[List.range_eq_range'];exact zks (p:=p) 0 h.len fun j q hj=>by
  rw[ybG];exact h.get j q hj
def El (K:Frag)(d:Addr)(x:V)(H:Hp):Prop:=zk9 x=true∧∃ o,zbS K (del H [d]) x o
theorem El.same {K:Frag}{d:Addr}:zfP (El K d):=fun x H H' s ⟨g,o,h⟩=>⟨g,o,h.same (zku s)⟩
theorem El.keep {K:Frag}{d:Addr}{x:V}{H H':Hp}(k:Keep d H H')(h:El K d x H):El K d x H':=by
 obtain ⟨g,o,h⟩:=h;exact ⟨g,o,h.same (zkv k)⟩
theorem El.tup {K:Frag}{d u:Addr}{H:Hp}{a b c:Int}(n:u≠d)(h:H u=some (.tup [.int a,.int b,.int c])):El K d (.ref u) H:=⟨rfl,_,.good u a b c (zek n h)⟩
theorem El.long {K:Frag}{d u:Addr}{H:Hp}{zs:List V}(n:u≠d)(h:H u=some (.tup zs))(hz:zs.length≠3):El K d (.ref u) H:=⟨rfl,_,.long u zs (zek n h) hz⟩
theorem El.three {K:Frag}{d u:Addr}{H:Hp}{x y z:V}(n:u≠d)(h:H u=some (.tup [x,y,z]))(hx:Pt K d x H)(hy:Pt K d y H)(hz:Pt K d z H):El K d (.ref u) H:=by
 refine ⟨rfl,?_⟩;obtain ⟨_,b1,h1⟩:=hx;obtain ⟨_,b2,h2⟩:=hy;obtain ⟨_,b3,h3⟩:=hz;by_cases c:(b1 && b2 && b3)=true
 ·have wi:∀{x:V},za1 K (del H [d]) x true→∃ i,x=.int i:=fun {x} h=>by
   cases h with
   | int i=>exact ⟨i,rfl⟩
  rw[ya1,ya1]at c;obtain ⟨⟨rfl,rfl⟩,rfl⟩:=c;obtain ⟨i,rfl⟩:=wi h1;obtain ⟨j,rfl⟩:=wi h2;obtain ⟨k,rfl⟩:=wi h3;exact ⟨_,.good u i j k (zek n h)⟩
 ·exact ⟨_,.part u x y z b1 b2 b3 (zek n h) h1 h2 h3 (ybO.mpr c)⟩
theorem zmv:kitO "list" "tuple" = some false:=by decide +kernel
def LQ (n:Nat)(E:V→Hp→Prop)(x:V)(H:Hp):Prop:=∃ a zs,x=.ref a∧H a=some (.lst zs)∧zs.length=n∧∀ z∈zs,E z H
theorem LQ.mono {n:Nat}{E:V→Hp→Prop}(hE:zfP E):zfP (LQ n E):=fun x H H' s h=>by
 obtain ⟨a,zs,rfl,ha,la,ea⟩:=h;exact ⟨a,zs,rfl,s _ _ ha,la,fun z hz=>hE _ _ _ s (ea z hz)⟩
theorem zkp {σ:L2.St}{H:Hp}{E:V→Hp→Prop}{n:Nat}{ts:TA}(hE:zfP E)(hs:GvA ts σ H (fun xs H'=>xs.length=n∧∀ x∈xs,E x H'))(hn:n≤1000:=by decide):Gv (tLst ts) σ H (LQ n E):=fun H1 s1 Q q=>
 hs H1 s1 _ fun xs H2 s2 r=>⟨by rw[r.1];exact yar hn (by decide),fun p hp=>q _ _ (s2.trans (zag hp _)) ⟨p,xs,rfl,zac,r.1,fun z hz=>hE _ _ _ (zag hp _) (r.2 z hz)⟩⟩
theorem zoS {σ:L2.St}{H:Hp}{E:V→Hp→Prop}{n m:Nat}{t u:TE}(hE:zfP E)(h1:Gv t σ H (LQ n E))(h2:Gv u σ H (LQ m E))(hl:n+m≤100000):Gv (tOp rCat t u) σ H (LQ (n+m) E):=fun H1 s1 Q q=>
 h1 H1 s1 _ fun x H2 s2 r1=>h2 H2 (s1.trans s2) _ fun y H3 s3 r2=>by
  obtain ⟨a,xs,rfl,ha,la,ea⟩:=r1;obtain ⟨b,ys,rfl,hb,lb,eb⟩:=r2;refine ⟨a,b,_,_,rfl,rfl,s3 _ _ ha,hb,yar (by omega) (yar hl (by decide)),fun p hp=>?_⟩;have sp:=zag hp (.lst (xs++ys));refine q _ _ (s2.trans (s3.trans sp)) ⟨p,_,rfl,zac,by rw[yak];omega,fun z hz=>?_⟩;rcases yao.mp hz with h | h
  ·exact hE _ _ _ (s3.trans sp) (ea z h)
  ·exact hE _ _ _ sp (eb z h)
def zoF (K:Frag):Sp:=fun vs H Q _=>∃(d L st pp:Addr) (ps:List Nat) (rows:List (List Int)) (t rs:Addr) (as:List Addr) (zs:List V),vs=[.ref d,.ref st,.ref pp]∧zbs H st ps rows t rs as∧LS K L d H∧H pp=some (.lst zs)∧0 < zs.length∧zs.length≤45∧(∀ z∈zs,∃(u:Addr) (a b c:Nat),z=.ref u∧H u=some (.tup [.int a,.int b,.int c])∧a≤2000∧b≤2000∧c≤2000)∧
 ∀(D:Addr) (zs':List V) (H':Hp),H' D=some (.lst zs')→zs'.length≤100→(∀ z∈zs',El K d z H')→Keep d H H'→LS K L d H'→Q (.ref D) H'
theorem zpD (T:Txt K mg)(qbT:DF K mg "_law_bent" zfY ze2)(qaa:FC P w K mg base 2 "_law_take" za9 (zdr K))(qcA:FC P w K mg base 3 "_law_other" zdY (zlI K)):FC P w K mg base 4 "_law_bent" ze2 (zoF K):=by
 refine qbT.ok qaf (fun vs H Q E h=>?_) (fun f cdv A outer s H vs Q E hr h=>?_)
 ·obtain ⟨d,L,st,pp,ps,rows,t,rs,as,zs,rfl,_⟩:=h;rfl
 obtain ⟨d,L,st,pp,ps,rows,t,rs,as,zs,rfl,S,hs,hpp,hz0,hz1,hA,q⟩:=h;refine ⟨_,(zav (zap (i:=3) qaf.nd rfl (Or.inl rfl) (zax qaa hr (zaa (pv 0) (zaa (zam zal rfl T.qag boot_len (zaa (pv 2) zad)) zad))))
   (zav (zap (i:=4) qaf.nd rfl (Or.inl rfl) (zay zaz (pv 2) (pv 3) (fun _ _=>rfl)))
   (zav (zap (i:=5) qaf.nd rfl (Or.inl rfl) (zax qaa hr (zaa (pv 0) (zaa zae zad))))
   (zav (zap (i:=6) qaf.nd rfl (Or.inl rfl) (zax qaa hr (zaa (pv 0) (zaa zae zad))))
   (zb0 (zbk (zau ziX (pv 6) zae (zaA _)) (zav (zap (i:=4) qaf.nd rfl (Or.inl rfl) (zao zps (zao ziY (zaI zga (pv 4) zba (zaL (pv 5))) (zbu (zaa (zax qcA hr (zaa (pv 0) (zaa (pv 1) (zaa (zay zaN (pv 4) (pv 5) (fun _ _=>rfl)) zad)))) zad))) (zaI zga (pv 4) (zaL (zao zaO (pv 5) zae)) zba)))
   (zaf (zat (zao zbO (zao zbO (zaI za8 (pv 2) zba (zaL (pv 3))) (zaG (zaa (pv 4) zad))) (zaI za8 (pv 2) (zaL (zao zaO (pv 3) zae)) zba))))) zaB)
   (zav (zap (i:=7) qaf.nd rfl (Or.inl rfl) (zax qaa hr (zaa (pv 0) (zaa (zam zal rfl T.qag boot_len (zaa (pv 2) zad)) zad))))
   (zav (zap (i:=8) qaf.nd rfl (Or.inl rfl) (zaG (zaa (pv 2) (zaa (pv 2) (zaa (zao zbO (zao zbO (zaI za8 (pv 2) zba (zaL (pv 3))) (zaG (zaa (zbi zbJ rfl T.qaY boot_list (zaa (pv 4) zad)) zad))) (zaI za8 (pv 2) (zaL (zao zaO (pv 3) zae)) zba)) (zaa (zao zbO (zao zbO (zaI za8 (pv 2) zba (zaL (pv 3))) (zaG (zaa (zaI zga (pv 4) zba (zaL (pv 5))) zad))) (zaI za8 (pv 2) (zaL (zao zaO (pv 3) zae)) zba)) zad))))))
   (zav (zap (i:=8) qaf.nd rfl (Or.inl rfl) (zao zbO (pv 8) (zaG (zaa (zao zbO (zao zbO (zaI za8 (pv 2) zba (zaL (pv 3))) (zaG (zaa (zao ziY (pv 4) (zbu (zaa zae zad))) zad))) (zaI za8 (pv 2) (zaL (zao zaO (pv 3) zae)) zba)) (zaa (zao zbO (zaI za8 (pv 2) zba (zaL (pv 3))) (zaI za8 (pv 2) (zaL (zao zaO (pv 3) zae)) zba)) zad)))))
   (zav (zap (i:=8) qaf.nd rfl (Or.inl rfl) (zao zbO (pv 8) (zaG (zaa (zao zbO (zao zbO (zaI za8 (pv 2) zba (zaL (pv 3))) (zaG (zaa (pv 4) zad))) (zaI za8 (pv 2) (zaL (pv 3)) zba)) (zaa (zao zbO (zao zbO (zaI za8 (pv 2) zba (zaL (pv 7))) (zaG (zaa (pv 4) zad))) (zaI za8 (pv 2) (zaL (zao zaO (pv 7) zae)) zba)) zad)))))
   (zaf (zat (zay zaz (pv 8) (zao zbb (pv 6) zae) (fun _ _=>rfl))))))))))))),?_⟩
 have npp:pp≠d:=zgg hs hpp (fun _ z=>nomatch z);intro N1 n1;refine ⟨_,rfl,_,rfl,_,_,rfl,.inl (SqL.of hpp),d,L,_,rfl,⟨by omega,by omega⟩,hs,fun at_ H1 a0 a1 k1 s1=>n1 _ _ ?_⟩;obtain ⟨i,rfl⟩:∃ i:Nat,at_=i:=⟨at_.toNat,by omega⟩;have hi:i < zs.length:=by omega
 obtain ⟨u,a,b,c,eu,hu,ba,bb,bc⟩:=hA zs[i] (yay hi);have nu:u≠d:=zgg hs hu (fun _ z=>nomatch z);have hpp1:=k1 _ _ npp hpp;intro N2 n2;refine ⟨_,rfl,_,rfl,_,_,_,_,rfl,rfl,SqL.of hpp1,zbI (v:=.ref u) (by rw[yac hi,eu]),n2 _ _ ?_⟩;intro N3 n3;refine ⟨_,rfl,d,L,3,rfl,by decide,s1,fun sp H2 p0 p1 k2 s2=>n3 _ _ ?_⟩;intro N4 n4;refine ⟨_,rfl,d,L,12,rfl,by decide,s2,fun wy H3 w0 w1 k3 s3=>n4 _ _ ?_⟩;have k03:=k1.trans (k2.trans k3);have hpp3:=k03 _ _ npp hpp;have hu3:=k03 _ _ nu hu;have lp:∀{H':Hp},Keep d H H'→∀ z∈zs,El K d z H':=fun {H'} k z hz=>by
  obtain ⟨v,a,b,c,rfl,hv,_⟩:=hA z hz;have nv:v≠d:=zgg hs hv (fun _ z=>nomatch z);exact El.tup nv (k _ _ nv hv)
 have S3:=KeepT.stand S fun b us e=>k03 _ _ (zgg hs e (fun _ z=>nomatch z)) e;clear k1 s1 k2 s2 hpp1;refine ⟨fun σ' H'=>σ'=[some (.ref d),some (.ref st),some (.ref pp),some (.int i),some (.ref u),some (.int sp),some (.int wy),none,none]∧H3=H'∧¬ wy < 4,?_,?_⟩
 ·intro N5 n5;refine ⟨_,rfl,_,_,rfl,rfl,_,rfl,?_⟩;refine ite2 (fun cw=>?_) (fun cw=>n5 _ _ ⟨rfl,rfl,fun z=>cw (yah z)⟩);obtain ⟨sn,rfl⟩:∃ sn:Nat,sp=sn:=⟨sp.toNat,by omega⟩;intro N6 n6;refine ⟨_,rfl,_,rfl,_,rfl,zoG (n:=sn) hu3 fun v1 H4 s4 h4=>?_⟩;have hu4:=s4 _ _ hu3;have s3':=s3.same s4;obtain ⟨m,hm,hmb⟩:∃ m:Nat,atI [V.int a,.int b,.int c] (sn:Int)=some (.int m)∧m≤2000:=by
   have:sn=0∨sn=1∨sn=2:=by omega
   rcases this with rfl | rfl | rfl
   ·exact ⟨a,rfl,ba⟩
   ·exact ⟨b,rfl,bb⟩
   ·exact ⟨c,rfl,bc⟩
  refine ⟨_,rfl,_,rfl,_,rfl,_,rfl,_,_,_,_,rfl,rfl,SqT.of hu4,hm,d,L,st,(m:Int),ps,rows,t,rs,as,rfl,S3.same s4,s3',⟨by omega,by omega⟩,fun x H5 px k5 s5=>?_⟩;refine ⟨(by show 1≤sizeLine;decide),fun v2 hv2=>?_⟩;have s6:=zag hv2 (.tup [x]);have h6:upd H5 v2 (.tup [x]) v2=some (.tup [x]):=zac;generalize upd H5 v2 (.tup [x])=H6 at s6 h6 ⊢;have n1':v1≠d:=zgg s3' h4 (fun _ z=>nomatch z);have h4':=s6 _ _ (k5 _ _ n1' h4);refine zky h4' h6 (fun z=>nomatch z) (by rw[yaj];show _+1≤sizeLine;have:100≤sizeLine:=(by decide);omega) fun v3 H7 s7 h7=>?_;have hu7:=s7 _ _ (s6 _ _ (k5 _ _ nu hu4));refine ⟨_,rfl,_,rfl,_,_,rfl,rfl,_,rfl,?_⟩;unfold ziR;dsimp only;rw[show (sn:Int)+1=((sn+1:Nat):Int) from rfl];refine znr hu7 fun v4 H8 s8 h8=>?_;have k38:Keep d H3 H8:=fun b o n e=>s8 _ _ (s7 _ _ (s6 _ _ (k5 _ _ n (s4 _ _ e))));refine zok (s8 _ _ h7) h8 (by rw[yak,yaj,yaP];show _+1+_≤sizeLine;have:100≤sizeLine:=(by decide);simp only[yaI,ybB];omega) fun v5 H9 s9 h9=>n6 _ _ ?_;have k39:Keep d H3 H9:=fun b o n e=>s9 _ _ (k38 b o n e);have s59:=s6.trans (s7.trans (s8.trans s9));have ls9:=s5.same s59;have n5':v5≠d:=zgg ls9 h9 (fun _ z=>nomatch z);have pt9:=Pt.same _ _ _ s59 px;have e5:El K d (.ref v5) H9:=by
   have:sn=0∨sn=1∨sn=2:=by omega
   rcases this with rfl | rfl | rfl
   ·exact El.three n5' h9 pt9 (.int _) (.int _)
   ·exact El.three n5' h9 (.int _) pt9 (.int _)
   ·exact El.three n5' h9 (.int _) (.int _) pt9
  have k09:=k03.trans k39;have LP9:LP 45 (El K d) (.ref pp) H9:=⟨pp,zs,rfl,k09 _ _ npp hpp,hz1,lp k09⟩;have G:=zcW (σ:=[some (.ref d),some (.ref st),some (.ref pp),some (.int i),some (.ref v5),some (.int sn),some (.int wy),none,none]) El.same (zcW El.same (zbo (K:=K) (i:=2) El.same rfl LP9 zbn (zdE (i:=3) (x:=(i:Int)) rfl)) (zfK El.same (zaJ El.same (zfJ (i:=4) (R:=El K d) rfl fun H1 s1=>El.same _ _ _ s1 e5) zb2)) (by decide)) (zbo (K:=K) (i:=2) El.same rfl LP9 (zea (i:=3) (x:=(i:Int)) (k:=1) rfl) zbn) (by decide);refine G H9 (Same.refl _) _ fun y HA sA hy=>?_;obtain ⟨D,ws,rfl,hD,hwl,hw⟩:=hy;exact q D ws HA hD (by omega) hw (fun b o n e=>sA _ _ (k09 b o n e)) (ls9.same sA)
 rintro _ _ ⟨rfl,rfl,hwy⟩;intro N5 n5;refine ⟨_,rfl,_,rfl,_,_,rfl,.inl (SqL.of hpp3),d,L,_,rfl,⟨by omega,by omega⟩,s3,fun oh H4 o0 o1 k4 s4=>n5 _ _ ?_⟩;have k04:=k03.trans k4;have hpp4:=k04 _ _ npp hpp;have hu4:=k04 _ _ nu hu;have LP4:LP 45 (El K d) (.ref pp) H4:=⟨pp,zs,rfl,hpp4,hz1,lp k04⟩;have e4:El K d (.ref u) H4:=El.tup nu hu4;have ndH:∀{H':Hp} {p:Addr},Same H4 H'→H' p=none→p≠d:=fun {H' p} s' e=>zmh (s4.same s') e;obtain ⟨sn,rfl⟩:∃ sn:Nat,sp=sn:=⟨sp.toNat,by omega⟩;intro N6 n6;refine zkp (E:=LP 91 (El K d)) (n:=4) (H:=H4) (LP.mono El.same) (zaJ (LP.mono El.same) (zfJ rfl fun H1 s1=>(LP.mono El.same _ _ _ s1 LP4).le) (zaJ (LP.mono El.same) (zfJ rfl fun H1 s1=>(LP.mono El.same _ _ _ s1 LP4).le) (zaJ (LP.mono El.same) (zcW (n:=46) (m:=45) El.same (zcW (n:=45) (m:=1) El.same (zbo El.same rfl LP4 zbn (zdE rfl)) (zfK El.same (zaJ El.same (fun H1 s1 Q q=>⟨_,rfl,u,_,rfl,.inr (SqT.of (s1 _ _ hu4)),fun p hp=>q _ _ (zag hp _) ⟨rfl,_,.kind _ _ (.lst (zek (ndH s1 hp) zac)) zmv⟩⟩) zb2)) (by decide)) (zbo El.same rfl LP4 (zea rfl) zbn) (by decide)) (zaJ (LP.mono El.same) (zcW (n:=46) (m:=45) El.same (zcW (n:=45) (m:=1) El.same (zbo El.same rfl LP4 zbn (zdE rfl)) (zfK El.same (zaJ El.same (fun H1 s1 Q q=>⟨_,rfl,_,rfl,_,rfl,zoG (n:=sn) (s1 _ _ hu4) fun v H2 s2 h2=>q _ _ s2 (El.long (zgg (s4.same (s1.trans s2)) h2 (fun _ z=>nomatch z)) h2 (by rw[yaj];simp only[yaI,ybB];omega))⟩) zb2)) (by decide)) (zbo El.same rfl LP4 (zea rfl) zbn) (by decide)) zb2)))) (by decide) H4 (Same.refl _) _ fun y5 H5 s5 r5=>n6 _ _ ?_;have LP5:=LP.mono El.same _ _ _ s5 LP4;have hu5:=s5 _ _ hu4;have ls5:=s4.same s5;have e5:=El.same _ _ _ s5 e4;intro N7 n7;refine zoS (E:=LP 91 (El K d)) (n:=4) (m:=2) (H:=H5) (LP.mono El.same) (zfJ rfl fun H1 s1=>LQ.mono (LP.mono El.same) _ _ _ s1 r5) (zkp (n:=2) (LP.mono El.same) (zaJ (LP.mono El.same) (zcW (n:=46) (m:=45) El.same (zcW (n:=45) (m:=1) El.same (zbo El.same rfl LP5 zbn (zdE rfl)) (zfK El.same (zaJ El.same (fun H1 s1 Q q=>⟨_,rfl,(by show 1≤sizeLine;decide),fun v hv=>zky (zag hv _ _ _ (s1 _ _ hu5)) zac (fun z=>nomatch z) (by show 4≤sizeLine;decide) fun v2 H2 s2 h2=>q _ _ ((zag hv _).trans s2) (El.long (zgg (ls5.same (s1.trans ((zag hv _).trans s2))) h2 (fun _ z=>nomatch z)) h2 (by show 4≠3;decide))⟩) zb2)) (by decide)) (zbo El.same rfl LP5 (zea rfl) zbn) (by decide)) (zaJ (LP.mono El.same) (Gv.mono (zcW (n:=45) (m:=45) El.same (zbo El.same rfl LP5 zbn (zdE rfl)) (zbo El.same rfl LP5 (zea rfl) zbn) (by decide)) fun x H2 _ r=>r.le) zb2))) (by decide) H5 (Same.refl _) _ fun y6 H6 s6 r6=>n7 _ _ ?_;have LP6:=LP.mono El.same _ _ _ s6 LP5;have e6:=El.same _ _ _ s6 e5;have ls6:=ls5.same s6;intro N8 n8;refine zoS (E:=LP 91 (El K d)) (n:=6) (m:=2) (H:=H6) (LP.mono El.same) (zfJ rfl fun H1 s1=>LQ.mono (LP.mono El.same) _ _ _ s1 r6) (zkp (n:=2) (LP.mono El.same) (zaJ (LP.mono El.same) (zcW (n:=46) (m:=45) El.same (zcW (n:=45) (m:=1) El.same (zbo El.same rfl LP6 zbn (zdE rfl)) (zfK El.same (zaJ El.same (zfJ rfl fun H1 s1=>El.same _ _ _ s1 e6) zb2)) (by decide)) (zbo El.same rfl LP6 (zdE rfl) zbn) (by decide)) (zaJ (LP.mono El.same) (zcW (n:=46) (m:=45) El.same (zcW (n:=45) (m:=1) El.same (zbo El.same rfl LP6 zbn (zdE rfl)) (zfK El.same (zaJ El.same (zfJ rfl fun H1 s1=>El.same _ _ _ s1 e6) zb2)) (by decide)) (zbo El.same rfl LP6 (zea rfl) zbn) (by decide)) zb2))) (by decide) H6 (Same.refl _) _ fun y7 H7 s7 r7=>n8 _ _ ?_;obtain ⟨a7,xs7,rfl,h7,l7,w7⟩:=r7;obtain ⟨z,hzm,hat⟩:=zjn (n:=wy - 4) (show 0≤wy - 4 by omega) (show wy - 4 < xs7.length by rw[l7];omega);refine ⟨_,rfl,_,rfl,_,_,rfl,rfl,_,_,_,_,rfl,rfl,SqL.of h7,hat,?_⟩;obtain ⟨D,ws,rfl,hD,hwl,hw⟩:=w7 z hzm;exact q D ws H7 hD (by omega) hw (fun b o n e=>s7 _ _ (s6 _ _ (s5 _ _ (k04 b o n e)))) (ls6.same s7)
def zh3 (K:Frag):Sp:=fun vs H Q _=>∃(x:V) (b:Bool),vs=[x]∧za1 K H x b∧Q (.bl b) H
theorem zkV (T:Txt K mg)(qbA:DF K mg "_law_whole" zeH zdV):FC P w K mg base 1 "_law_whole" zdV (zh3 K):=by
 refine qbA.ok qck (fun vs H Q E h=>?_) (fun f cdv A outer s H vs Q E hr h=>?_)
 ·obtain ⟨x,b,rfl,_⟩:=h;rfl
 obtain ⟨x,b,rfl,hw,q⟩:=h;refine ⟨_,(zaf (zat (zl1 (zam zcd rfl T.qac boot_isinstance (zaa (pv 0) (zaa (zc6 (v:=.ty "int") rfl T.qc1 boot_int rfl) zad))) (zjV (zoK (zam zcd rfl T.qac boot_isinstance (zaa (pv 0) (zaa (zc6 (v:=.ty "bool") rfl T.qcr boot_bool rfl) zad)))))))),?_⟩;cases hw with
 | int i=>
  refine ⟨_,rfl,_,_,_,_,rfl,.int _,zoQ,_,rfl,?_⟩;refine iteT ?_;exact ⟨_,rfl,_,_,_,_,rfl,.int _,zoR,_,rfl,q⟩
 | bl b=>
  refine ⟨_,rfl,_,_,_,_,rfl,.bl _,zq4,_,rfl,?_⟩;refine iteT ?_;exact ⟨_,rfl,_,_,_,_,rfl,.bl _,zmw,_,rfl,q⟩
 | oth x t ty h2=>
  refine ⟨_,rfl,_,_,_,_,rfl,ty,h2,_,rfl,?_⟩;exact iteF q
theorem zdq {K:Frag}{H:Hp}{ps:List Nat}{rows:List (List Int)}{key:Int}{ks:List Nat}{vs:List V}(h:Paired (zb4 H ps rows key) ks vs):zar K H ((ks.map (zfN ps rows key)).map fun t:Tr3=>(⟨[t.1,t.2.1,t.2.2]⟩:Tup Int)) vs:=by
 induction h with
 | nil=>exact .nil
 | cons h _ ih=>
  obtain ⟨t,rfl,e⟩:=h;exact .cons ⟨t,_,rfl,SqT.of e,.cons rfl (.cons rfl (.cons rfl .nil))⟩ ih
theorem zmq {K:Frag}{H:Hp}{zs:List V}{ts:List Tr3}(h:Paired (zbS K H) zs (ts.map some)):zar K H (ts.map fun t:Tr3=>(⟨[t.1,t.2.1,t.2.2]⟩:Tup Int)) zs:=by
 induction ts generalizing zs with
 | nil=>
  cases h
  exact .nil
 | cons t ts ih=>
  cases h with
  | cons a r=>
   obtain ⟨u,rfl,hu⟩:=a.some_at;exact .cons ⟨u,_,rfl,SqT.of hu,.cons rfl (.cons rfl (.cons rfl .nil))⟩ (ih r)
theorem zlx {ts us:List Tr3}(h:ts.map (fun t:Tr3=>(⟨[t.1,t.2.1,t.2.2]⟩:Tup Int))=us.map fun t:Tr3=>(⟨[t.1,t.2.1,t.2.2]⟩:Tup Int)):ts=us:=by
 refine ycF (fun a b h=>?_) |>.mp h;have:=congrArg Tup.l h;simp only[List.cons.injEq,and_true]at this;exact Prod.ext this.1 (Prod.ext this.2.1 this.2.2)
theorem zhQ {ps:List Nat}{rows:List (List Int)}{key:Int}{wy:List Nat}:dueO ps rows key wy=(wy.map (zfN ps rows key)).map some:=by unfold dueO;rw[ybf];rfl
theorem zjO {ts us:List Tr3}:ts.map some=us.map some↔ts=us:=⟨fun h=>ycF (fun a b h=>yae h) |>.mp h,fun h=>by rw[h]⟩
def zoB (K:Frag):Sp:=fun vs H Q _=>∃(pp du:Addr) (zs ys:List V) (os:List (Option Tr3)) (ps:List Nat) (rows:List (List Int)) (key:Int) (wy:List Nat),vs=[.ref pp,.ref du]∧H pp=some (.lst zs)∧Paired (zbS K H) zs os∧zs.length≤200∧H du=some (.lst ys)∧Paired (zb4 H ps rows key) wy ys∧∀ H',Same H H'→Q (.bl (decide (os=dueO ps rows key wy))) H'
theorem zpA (T:Txt K mg)(qcd:DF K mg "_law_due" zhq zf6)(qcB:FC P w K mg base 1 "_law_whole" zdV (zh3 K)):FC P w K mg base 2 "_law_due" zf6 (zoB K):=by
 refine qcd.ok qcg (fun vs H Q E h=>?_) (fun f cdv A outer s H vs Q E hr h=>?_)
 ·obtain ⟨pp,du,zs,ys,os,ps,rows,key,wy,rfl,_⟩:=h;rfl
 obtain ⟨pp,du,zs,ys,os,ps,rows,key,wy,rfl,hpp,hP,hz,hdu,hD,q⟩:=h;refine ⟨_,(zah (zaR PassesOwn.never rfl (zbq (pv 0)) (zan (i:=2) qcg.nd rfl (Or.inl rfl)) (zaf (zbk (PW.pt (zgc (zdu (zdj (zam zcd rfl T.qac boot_isinstance (zaa (pv 2) (zaa (zc6 (v:=.ty "tuple") rfl T.qbj boot_tuple rfl) zad))))) (zgc (zau ziW (zam zal rfl T.qag boot_len (zaa (pv 2) zad)) zae (zaA _)) (zeU (zau (znC (huD (α:=List Int) hr)) (zbG (N:=["_law_one"]) (own:=1) (cap:=[]) rfl (zeh (pv 2)) ⟨rfl,rfl,rfl,rfl,rfl,rfl⟩ (fun _ _ _ _ _=>(zan (i:=0) (show List.Nodup (["_law_one"]:List Str) by decide +kernel) rfl (Or.inl rfl))) (fun _ _ _ _ _=>(zdt (zdu (zdj (zax qcB hr (zaa (pv 0) zad)))))) (fun _ _ _ _ _=>(pv 0))) (zaG zad) (zaA _)))))) (zaf (zat zbR)) zaB)))
   (zaf (zat (zgf (zj0 (List (Tup Int)) (huD hr)) (pv 0) (pv 1) (zaA _))))),?_⟩
 have zl:=hP.length;refine ⟨_,rfl,pp,rfl,⟨_,SqL.of hpp⟩,?_⟩;refine zcM (xs:=zs) (fun i σ H'=>∃ x2:Option V,σ=[some (.ref pp),some (.ref du),x2]∧Same H H'∧∀ o∈os.take i,o.isSome=true) ?_ ?_ ?_ ?_
 ·exact ⟨_,rfl,(fun _ _ e=>e),fun o ho=>by simp at ho⟩
 ·rintro i σ H' _ ⟨x2,rfl,s',_⟩;exact SqL.of (s' _ _ hpp)
 ·rintro i v σ H2 hv ⟨x2,rfl,s2,old⟩;obtain ⟨o,ho,hL⟩:=zch hP hv;have hL2:=hL.same s2;have no:o.isSome=false→∀ H',Same H H'→Q (.bl false) H':=fun z H' s'=>by
   have:=q H' s';rw[yaq fun w=>?_]at this
   ·exact this
   ·rw[w,zhQ,yal]at ho;obtain ⟨t,_,rfl⟩:=ybh.mp ho;cases z
  have nx:o.isSome=true→∀ o'∈os.take (i+1),o'.isSome=true:=fun z o' ho'=>by
   obtain ⟨hi,rfl⟩:=yaf.mp ho;rw[yaB hi,yao,yam]at ho';rcases ho' with h | h
   ·exact old o' h
   ·rw[h];exact z
  have key3:(∃ t,TyOf K H2 v (.type t)∧kitO t "tuple" = some false∧o.isSome=false)∨(∃ u zs,v=.ref u∧H2 u=some (.tup zs)∧zs.length≠3∧o.isSome=false)∨∃ u x1 x2 x3 b1 b2 b3,v=.ref u∧H2 u=some (.tup [x1,x2,x3])∧za1 K H2 x1 b1∧za1 K H2 x2 b2∧za1 K H2 x3 b3∧o.isSome=(b1 && b2 && b3):=by
   cases hL2 with
   | good u a b c h=>exact .inr (.inr ⟨u,_,_,_,true,true,true,rfl,h,.int a,.int b,.int c,rfl⟩)
   | kind x t ty h=>exact .inl ⟨t,ty,h,rfl⟩
   | long u zs h hz=>exact .inr (.inl ⟨u,zs,rfl,h,hz,rfl⟩)
   | part u x y z b1 b2 b3 h h1 h2 h3 hf=>exact .inr (.inr ⟨u,x,y,z,b1,b2,b3,rfl,h,h1,h2,h3,hf.symm⟩)
  clear hL2 hL;rcases key3 with ⟨t,ty,hk,e⟩ | ⟨u,ws,rfl,hu,hz',e⟩ | ⟨u,x1,x2,x3,b1,b2,b3,rfl,hu,h1,h2,h3,e⟩
  ·refine ⟨_,rfl,_,_,_,_,rfl,ty,hk,_,rfl,?_⟩;exact iteT (no e H2 s2)
  ·refine ⟨_,rfl,_,_,_,_,rfl,.tup hu,zkg,_,rfl,?_⟩;refine iteF ?_;refine ⟨_,rfl,_,_,rfl,.inr (SqT.of hu),rfl,_,rfl,?_⟩;exact zn2 (fun z=>hz' (by have:=V.int.inj z;omega)) (no e H2 s2)
  ·refine ⟨_,rfl,_,_,_,_,rfl,.tup hu,zkg,_,rfl,?_⟩;refine iteF ?_;refine ⟨_,rfl,_,_,rfl,.inr (SqT.of hu),rfl,_,rfl,?_⟩;refine zit rfl ?_;have hget:∀(i:Nat) (v:V),[x1,x2,x3][i]?=some v→∃ b,[b1,b2,b3][i]?=some b∧za1 K H2 v b:=fun i v hv=>by
    rcases i with _ | _ | _ | i
    ·cases hv;exact ⟨_,rfl,h1⟩
    ·cases hv;exact ⟨_,rfl,h2⟩
    ·cases hv;exact ⟨_,rfl,h3⟩
    ·cases hv
   refine ⟨_,rfl,u,rfl,⟨_,SqT.of hu⟩,fun C hC=>?_⟩;refine zed (xs:=[x1,x2,x3]) (fun i σ H3=>∃(x0:Option V) (ws:List V),σ=[x0]∧H3 C=some (.lst ws)∧ws.length≤i∧ws.isEmpty=([b1,b2,b3].take i).all id∧But C H2 H3) ?_ ?_ ?_ ?_
   ·exact ⟨_,[],rfl,zac,yaa _,rfl,fun b o n e=>by rw[zai n];exact e⟩
   ·rintro i σ H3 _ ⟨x0,ws,rfl,_,_,_,k3⟩;exact SqT.of (k3 _ _ (zab hu hC) hu)
   ·rintro i m v σ H3 hv hm ⟨x0,ws,rfl,h3',hwl,hwe,k3⟩;have hi:=(yaf.mp hv).1;obtain ⟨b,hb,hw⟩:=hget i v hv;obtain ⟨hj,rfl⟩:=yaf.mp hb;have hm3:i+m=3:=hm;have hi3:i < 3:=hi;have s3:Same H2 H3:=fun b o e=>k3 b o (zab e hC) e;refine ⟨_,rfl,_,_,rfl,hw.same s3,_,rfl,?_⟩;rw[yaB hj,List.all_append];cases hbi:[b1,b2,b3][i] with
    | true=>
     refine iteF ⟨m - 1,by omega,(by show i+1+(m - 1)=3;omega),_,ws,rfl,h3',by omega,?_,k3⟩;rw[hwe];simp
    | false=>
     refine iteT ⟨_,rfl,_,h3',zaq (by omega),m - 1,by omega,(by show i+1+(m - 1)=3;omega),_,ws++[v],rfl,zac,by rw[yak,yaL];omega,?_,fun b o n e=>by rw[zai n];exact k3 b o n e⟩;simp
   ·rintro σ H3 ⟨x0,ws,rfl,h3',hwl,hwe,k3⟩;have s3:Same H2 H3:=fun b o e=>k3 b o (zab e hC) e;have e3:([b1,b2,b3].take [x1,x2,x3].length).all id=(b1 && b2 && b3):=by cases b1 <;> cases b2 <;> cases b3 <;> rfl
    rw[e3,← e]at hwe;refine ⟨(by show 0≤sizeLine;decide),fun l0 hl0=>?_⟩;have s4:=zag hl0 (.lst []);refine ⟨C,l0,ws,rfl,rfl,SqL.of (s4 _ _ h3'),SqL.of zac,_,rfl,?_⟩;rw[hwe];cases ho':o.isSome with
    | true=>exact iteF ⟨_,rfl,s2.trans (s3.trans s4),nx ho'⟩
    | false=>exact iteT (no ho' _ (s2.trans (s3.trans s4)))
 ·rintro σ H2 ⟨x2,rfl,s2,old⟩;rw[zl,yap (yaa _)]at old;obtain ⟨ts,rfl⟩:=zkC old;have P2:Paired (zbS K H2) zs (ts.map some):=pImp (fun _ _ h=>h.same s2) hP;refine ⟨_,rfl,_,rfl,_,_,⟨pp,_,rfl,SqL.of (s2 _ _ hpp),zmq P2⟩,⟨du,_,rfl,SqL.of (s2 _ _ hdu),zdq (za7 (fun _ _ e=>s2 _ _ e) hD)⟩,?_⟩;have:=q H2 s2;rw[zhQ]at this;have e1:decide (ts.map some=(wy.map (zfN ps rows key)).map some)=decide (ts.map (fun t:Tr3=>(⟨[t.1,t.2.1,t.2.2]⟩:Tup Int))=(wy.map (zfN ps rows key)).map fun t:Tr3=>(⟨[t.1,t.2.1,t.2.2]⟩:Tup Int)):=by
   rw[ybl,decide_eq_true_iff,decide_eq_true_iff,zjO];exact ⟨fun h=>by rw[h],zlx⟩
  rw[e1]at this;exact this
theorem zrh {K:Frag}{d:Addr}{H:Hp}{zs:List V}(h:∀ z∈zs,El K d z H):∃ os,Paired (zbS K (del H [d])) zs os:=by
 induction zs with
 | nil=>exact ⟨[],.nil⟩
 | cons z zs ih=>
  obtain ⟨os,P⟩:=ih fun x hx=>h x (yaD _ hx);obtain ⟨_,o,hL⟩:=h z yaC;exact ⟨o::os,.cons hL P⟩
theorem zdL {K:Frag}{H:Hp}{ps:List Nat}{rows:List (List Int)}{key:Int}{ks:List Nat}{vs:List V}(h:Paired (zb4 H ps rows key) ks vs):Paired (zbS K H) vs (dueO ps rows key ks):=by
 induction h with
 | nil=>exact .nil
 | cons h _ ih=>
  obtain ⟨t,rfl,e⟩:=h;exact .cons (.good t _ _ _ e) ih
theorem zqD (rows:List (List Int))(k:Nat)(key:Int):ownB rows k key≤(zbx rows k).length:=ybk _ _
structure zlj (K:Frag)(d:Addr)(H:Hp)(pp:Addr)(zs:List V):Prop where
 at_:H pp=some (.lst zs)
 len:zs.length≤100
 el:∀ z∈zs,El K d z H
theorem zlj.keep {K:Frag}{d L:Addr}{H H':Hp}{pp:Addr}{zs:List V}(h:zlj K d H pp zs)(ls:LS K L d H)(k:Keep d H H'):zlj K d H' pp zs:=⟨k _ _ (zgg ls h.at_ (fun _ z=>nomatch z)) h.at_,h.len,fun z hz=>(h.el z hz).keep k⟩
theorem zqV:kitO "NoneType" "tuple" = some false:=by decide +kernel
theorem zqY:kitO "int" "tuple" = some false:=by decide +kernel
theorem zq3:kitO "bool" "tuple" = some false:=by decide +kernel
theorem zqT:kitO "str" "tuple" = some false:=by decide +kernel
theorem zqZ:kitO "dict" "tuple" = some false:=by decide +kernel
theorem gv_c {σ:L2.St}{H:Hp}{v:V}{R:V→Hp→Prop}(r:∀ H1,Same H H1→R v H1):Gv (tC v) σ H R:=fun H1 s Q q=>q v H1 (Same.refl _) (r H1 s)
theorem zdn.short {H:Hp}{wa:Addr}{ps w:List Nat}(T:zaC ps)(W:zdn H wa ps w):w.length≤ps.length+1:=by
 have up:∀ i,i < w.length→i≤w.getD i 0:=fun i=>by
  induction i with
  | zero=>exact fun _=>yaF _
  | succ i ih=>
   intro h;have:=ih (by omega);have:=(zaP T (W.ch i h)).1;omega
 rcases Nat.eq_zero_or_pos w.length with z | z
 ·omega
 ·have h1:=up (w.length - 1) (by omega);have h2:=W.kn _ (zjy (show w.length - 1 < w.length by omega));omega
def zkL (K:Frag):Sp:=fun vs H Q _=>∃(a:Addr) (ns:List Int),vs=[.ref a]∧SqL K H a (ns.map V.int)∧ns.length≤63∧∀ H',Q (.bl true) H'
theorem zqL (T:Txt K mg)(qcU:DF K mg "law" zns zjU)(qcC:FC P w K mg base 1 "_law_begin" zd4 (zlO K))(qaa:FC P w K mg base 2 "_law_take" za9 (zdr K))(qcD:FC P w K mg base 6 "_law_stand" zdW (zjG K))(qcE:FC P w K mg base 3 "_law_way" zf4 (zoA K))(qaZ:FC P w K mg base 4 "_law_asked_key" zbV (zlP K))(qbX:FC P w K mg base 3 "_law_fulls" zd1 (zjI K))(qa0:FC P w K mg base 2 "_law_paper" zdX (zjH K))(qcN:FC P w K mg base 4 "_law_bent" ze2 (zoF K))(qcV:FC P w K mg base 2 "_law_due" zf6 (zoB K))(qaG:FC P w K mg base 9 "lets_by" zdU (zoz K)):FC P w K mg base 11 "law" zjU (zkL K):=by
 refine qcU.ok qam (fun vs H Q E h=>?_) (fun f cdv A outer s H vs Q E hr h=>?_)
 ·obtain ⟨a,ns,rfl,_⟩:=h;rfl
 obtain ⟨a,ns,rfl,hS,_,q⟩:=h;refine ⟨_,(zav (zap (i:=1) qam.nd rfl (Or.inl rfl) (zax qcC hr (zaa (pv 0) zad)))
   (zav (zap (i:=2) qam.nd rfl (Or.inl rfl) (zax qcD hr (zaa (pv 1) zad)))
   (zav (zap (i:=3) qam.nd rfl (Or.inl rfl) (zax qbX hr (zaa (zay zaN (pv 2) zae (fun _ _=>rfl)) (zaa (zay zaN (pv 2) zae (fun _ _=>rfl)) zad))))
   (zav (zap (i:=4) qam.nd rfl (Or.inl rfl) (zbu (zaa (zay zaN (pv 2) zae (fun _ _=>rfl)) (zaa (zao ziY (zaI zga (zay zaN (pv 2) zae (fun _ _=>rfl)) (zaL zae) zba) (zaI zga (zay zaN (pv 2) zae (fun _ _=>rfl)) zba (zaL zae))) zad))))
   (zav (zap (i:=5) qam.nd rfl (Or.inl rfl) (zax qbX hr (zaa (zay zaN (pv 4) zae (fun _ _=>rfl)) (zaa (zay zaN (pv 4) zae (fun _ _=>rfl)) zad))))
   (zav (zaR PassesOwn.never rfl (zaW rfl T.qad (zaa zae zad)) (zan (i:=6) qam.nd rfl (Or.inl rfl)) (zav (zap (i:=7) qam.nd rfl (Or.inl rfl) (zax qcE hr (zaa (pv 1) (zaa (zay zaN (pv 2) zae (fun _ _=>rfl)) zad))))
   (zav (zap (i:=8) qam.nd rfl (Or.inl rfl) (zax qaZ hr (zaa (pv 1) (zaa (pv 2) zad))))
   (zav (zap (i:=9) qam.nd rfl (Or.inl rfl) (zax qa0 hr (zaa (pv 2) (zaa (pv 3) (zaa (pv 7) (zaa (pv 8) zad))))))
   (zav (zap (i:=10) qam.nd rfl (Or.inl rfl) (pv 9))
   (zb0 (zbk (zau zcO (zax qaa hr (zaa (pv 1) (zaa zae zad))) zae (zaA _)) (zaf (zap (i:=10) qam.nd rfl (Or.inl rfl) (zax qa0 hr (zaa (pv 2) (zaa (pv 3) (zaa (pv 7) (zaa (zax qaZ hr (zaa (pv 1) (zaa (pv 2) zad))) zad))))))) zaB)
   (zb0 (zbk (zau zcO (zax qaa hr (zaa (pv 1) (zaa zae zad))) zae (zaA _)) (zaf (zap (i:=10) qam.nd rfl (Or.inl rfl) (zax qa0 hr (zaa (pv 2) (zaa (pv 3) (zaa (zax qcE hr (zaa (pv 1) (zaa (zay zaN (pv 2) zae (fun _ _=>rfl)) zad))) (zaa (pv 8) zad))))))) zaB)
   (zav (zap (i:=10) qam.nd rfl (Or.inl rfl) (zax qcN hr (zaa (pv 1) (zaa (pv 2) (zaa (pv 10) zad)))))
   (zb0 (zbk (zau zcO (zax qaa hr (zaa (pv 1) (zaa zae zad))) zae (zaA _)) (zaf (zap (i:=10) qam.nd rfl (Or.inl rfl) (zay zaz (zaG (zaa (zaG zad) (zaa (zaG (zaa zl0 zad)) (zaa (zaG (zaa zae zad)) (zaa (zaG (zaa zdk zad)) (zaa (zaG (zaa (zbu zad) zad)) (zaa (zaG (zaa (zaG zad) zad)) (zaa (zaG (zaa (pv 9) zad)) (zaa (zaG (zaa (zbu (zaa zae (zaa zae zad))) zad)) (zaa (zaG (zaa zhx zad)) (zaa (zaG (zaa zbR zad)) zad))))))))))) (zax qaa hr (zaa (pv 1) (zaa zae zad))) (fun _ _=>rfl)))) zaB)
   (zav (zap (i:=11) qam.nd rfl (Or.inl rfl) (zbi zbJ rfl T.qaY boot_list (zaa (pv 10) zad)))
   (zav (zaR PassesOwn.never rfl (zaW rfl T.qad (zaa zae zad)) (zan (i:=12) qam.nd rfl (Or.inl rfl)) (zav (zap (i:=13) qam.nd rfl (Or.inl rfl) (zax qaG hr (zaa (pv 2) (zaa (zbi zbJ rfl T.qaY boot_list (zaa (pv 7) zad)) (zaa (pv 8) (zaa (pv 11) zad))))))
   (zaf (zbk (PW.pt (zgc (zdu (zdj (zam zcd rfl T.qac boot_isinstance (zaa (pv 13) (zaa (zc6 (v:=.ty "bool") rfl T.qcr boot_bool rfl) zad))))) (zgc (zau ziW (pv 13) (zax qcV hr (zaa (pv 10) (zaa (pv 9) zad))) (zaA _)) (zeU (zau (zqI (huS hr)) (pv 11) (pv 10) (zaA _)))))) (zaf (zat zbR)) zaB))))
   (zav (zap (i:=14) qam.nd rfl (Or.inl rfl) (zax qa0 hr (zaa (pv 4) (zaa (pv 5) (zaa (pv 7) (zaa (pv 8) zad))))))
   (zb0 (zbk (PW.pt (zgc (zau zid (zax qaG hr (zaa (pv 4) (zaa (pv 7) (zaa (pv 8) (zaa (pv 14) zad))))) zbR (zaA _)) (zeU (zau zid (zax qaG hr (zaa (pv 2) (zaa (pv 7) (zaa (pv 8) (zaa (pv 9) zad))))) zbR (zaA _))))) (zaf (zat zbR)) zaB)
   (zb0 (zbk (zau ziW (zax qaG hr (zaa (pv 4) (zaa (pv 7) (zaa (pv 8) (zaa (pv 9) zad))))) (zgf (zj0 (List (Tup Int)) (huD hr)) (pv 14) (pv 9) (zaA _)) (zaA _)) (zaf (zat zbR)) zaB)
   (zaf (zbk (zau ziW (zax qaG hr (zaa (pv 2) (zaa (pv 7) (zaa (pv 8) (zaa (pv 14) zad))))) (zgf (zj0 (List (Tup Int)) (huD hr)) (pv 14) (pv 9) (zaA _)) (zaA _)) (zaf (zat zbR)) zaB))))))))))))))))
   (zaf (zat zbR)))))))),?_⟩
 intro N1 n1;refine ⟨_,rfl,a,ns,rfl,hS,fun d H1 _ g1 s1=>n1 _ _ ?_⟩;intro N2 n2;refine ⟨_,rfl,d,a,rfl,s1,fun st ps rows t rs as H2 S k2 s2=>n2 _ _ ?_⟩;have hfew:=S.few;have hkeys:=S.keys;have hal:=S.at_.length;have hlen:=S.len;intro N3 n3;refine ⟨_,rfl,_,_,_,_,rfl,rfl,SqT.of S.st,rfl,_,rfl,_,_,_,_,rfl,rfl,SqT.of S.st,rfl,t,rs,ps,rows,as,rfl,S.tr,S.rs,S.at_,S.len,S.T,S.R,S.few,S.keys,fun pf qf H3 _ s3 F3 _=>n3 _ _ ?_⟩;have S3:=S.same s3;have ls3:=s2.same s3;clear S s2 k2;have fin:∀(ro:Addr) (H6:Hp),Same H3 H6→H6 ro=some (.tup ((as.drop 1++as.take 1).map V.ref))→∀ ot,H6 ot=none→zbs (upd H6 ot (.tup [.ref t,.ref ro])) ot ps (rows.drop 1++rows.take 1) t ro (as.drop 1++as.take 1):=fun ro H6 s56 h6 ot hot=>by
  have so:=zag hot (.tup [.ref t,.ref ro]);have S6:=(S3.same s56).same so;refine ⟨zac,S6.tr,so _ _ h6,zlT S6.at_,?_,S3.T,⟨fun r hr=>?_,fun r hr=>?_⟩,S3.few,?_⟩
  ·rw[yak,yaP,yaj];omega
  ·rcases yao.mp hr with z | z
   ·exact S3.R.up r (ybE z)
   ·exact S3.R.up r (ybz z)
  ·rcases yao.mp hr with z | z
   ·exact S3.R.key r (ybE z)
   ·exact S3.R.key r (ybz z)
  ·have e:zcv (rows.drop 1++rows.take 1)=zcv rows:=by
    unfold zcv
    conv=>rhs;rw[← ya2 1 rows]
    rw[yai,yai,List.sum_append,List.sum_append];omega
   omega
 intro N4 n4;refine ⟨_,rfl,_,_,_,_,rfl,rfl,SqT.of S3.st,rfl,_,rfl,_,_,_,_,rfl,rfl,SqT.of S3.st,rfl,_,rfl,rs,_,rfl,SqT.of S3.rs,(fun z=>?_),(fun _ p1 hp1=>?_)⟩
 ·have z1:min 1 (as.map V.ref).length=0:=z.1;rw[yab]at z1;omega
 rw[zod];have sp1:=zag hp1 (.tup ((as.drop 1).map V.ref));have hpp1:upd H3 p1 (.tup ((as.drop 1).map V.ref)) p1=some (.tup ((as.drop 1).map V.ref)):=zac;generalize upd H3 p1 (.tup ((as.drop 1).map V.ref))=H6 at sp1 hpp1 ⊢;have S6:=S3.same sp1;have cat:∀(y:Addr) (H7:Hp) (Q:VK),Same H6 H7→H7 y=some (.tup ((as.take 1).map V.ref))→(∀(ro:Addr) (H8:Hp),Same H3 H8→H8 ro=some (.tup ((as.drop 1++as.take 1).map V.ref))→Q (.ref ro) H8)→zpj K (.ref p1) (.ref y) H7 Q:=fun y H7 Q s67 h7 hq=>by
  have hne:as.take 1≠[]:=fun z=>by
   have:=congrArg List.length z;rw[yaj,ybB]at this;omega
  refine ⟨p1,y,_,_,rfl,rfl,SqT.of (s67 _ _ hpp1),SqT.of h7,?_,ybw (zlQ (by rw[yab,yab,yaP,yaj];omega)),fun z=>?_,fun _ p hp=>?_⟩
  ·intro z;exact hne (List.map_eq_nil_iff.mp z)
  ·refine hq y H7 (sp1.trans s67) ?_;rw[List.map_eq_nil_iff.mp z,ybD];exact h7
  ·refine hq p _ (sp1.trans (s67.trans (zag hp _))) ?_;rw[zac,yai]
 refine ⟨_,rfl,_,_,_,_,rfl,rfl,SqT.of S6.st,rfl,_,rfl,zpg S6.rs fun y H7 s67 h7=>cat y H7 _ s67 h7 fun ro H8 s58 h8=>⟨(by show 2≤sizeLine;decide),fun ot hot=>n4 _ _ ?_⟩⟩;have So:=fin ro H8 s58 h8 ot hot;have s3o:Same H3 (upd H8 ot (.tup [.ref t,.ref ro])):=s58.trans (zag hot _);clear fin cat;generalize upd H8 ot (.tup [.ref t,.ref ro])=H9 at So s3o ⊢;have S9:=S3.same s3o;have F9:=F3.ext s3o.ext;have s9:=ls3.same s3o;clear s3o s58 h8 hot h7 s67 hpp1 sp1 S6 hp1 S3 F3 ls3;intro N5 n5;refine ⟨_,rfl,_,_,_,_,rfl,rfl,SqT.of So.st,rfl,_,rfl,_,_,_,_,rfl,rfl,SqT.of So.st,rfl,t,ro,ps,_,_,rfl,So.tr,So.rs,So.at_,So.len,So.T,So.R,So.few,So.keys,fun po qo H10 _ s10 FO _=>n5 _ _ ?_⟩;have S10:=S9.same s10;have SO10:=So.same s10;have F10:=F9.ext s10.ext;have ls10:=s9.same s10;clear S9 So F9 s9 s10;generalize hro:rows.drop 1++rows.take 1=rowsO at SO10 FO;generalize as.drop 1++as.take 1=asO at SO10;intro N6 n6;refine ⟨4,rfl,by decide,by decide,?_⟩;refine zbc (n:=4) (fun i σ HA=>∃ x6 x7 x8 x9 x10 x11 x12 x13 x14:Option V,σ=[some (.ref a),some (.ref d),some (.ref st),some (.ref pf),some (.ref ot),some (.ref po),x6,x7,x8,x9,x10,x11,x12,x13,x14]∧Ext H10 HA∧LS K a d HA) ?_ ?_ ?_
 ·exact ⟨_,_,_,_,_,_,_,_,_,rfl,.refl _,ls10⟩
 ·rintro i σ HA hi ⟨x6,x7,x8,x9,x10,x11,x12,x13,x14,rfl,eA,sA⟩;refine zn6 fun N B R hN hB' hR=>?_;have tpOf:∀{H':Hp},Ext H10 H'→∀ b o,H10 b=some (.tup o)→H' b=some (.tup o):=fun e b o h=>e _ _ h (fun _ z=>nomatch z);have SA:=KeepT.stand S10 (tpOf eA);have FA':=F10.ext eA;intro M1 m1;refine ⟨_,rfl,_,rfl,_,_,_,_,rfl,rfl,SqT.of SA.st,rfl,d,a,t,ps,rfl,SA.tr,SA.T,SA.few,sA,fun wa w HB hwa WB kB sB=>m1 _ _ ?_⟩;have eB:=sA.ext kB;have SB:=KeepT.stand SA fun b o h=>eB _ _ h (fun _ z=>nomatch z);intro M2 m2;refine ⟨_,rfl,_,rfl,d,a,st,ps,rows,t,rs,as,rfl,SB,sB,fun key HC kC sC=>m2 _ _ ?_⟩;have eBC:=sB.ext kC;have eAC:=eB.trans eBC;have SC:=KeepT.stand SA fun b o h=>eAC _ _ h (fun _ z=>nomatch z);have WC:zdn HC wa ps w:=⟨eBC _ _ WB.at_ (fun _ z=>nomatch z),WB.len,WB.ne,WB.ch,WB.kn⟩;have FC:=FA'.ext eAC;clear SB WB;intro M3 m3;refine ⟨_,rfl,_,rfl,_,rfl,_,rfl,st,pf,wa,key,ps,rows,t,rs,as,qf,w,rfl,SC,FC.at_,FC.fulls,WC,fun du zd HD hdu sD hdD PD=>m3 _ _ ?_⟩;have SD:=SC.same sD;have WD:=WC.same sD;have FD:=FC.ext sD.ext;have lsD:=sC.same sD;have eAD:=eAC.trans sD.ext;clear SC WC FC;have wl:=WD.len;have wne:=WD.ne;have fz:∀ k,k < ps.length+1→(zak ps rows k).length≤900:=fun k hk=>by
   have:=zdd SD.T SD.len (rows:=rows) hk;have:=SD.keys;omega
  have pap:∀{H':Hp} {w':List Nat} {wa':Addr} {key':Int} {p:Addr} {zs:List V},LS K a d H'→zdn H' wa' ps w'→H' p=some (.lst zs)→Paired (zb4 H' ps rows key') w' zs→0 < zs.length∧zs.length≤45∧∀ z∈zs,∃(u:Addr) (x y v:Nat),z=.ref u∧H' u=some (.tup [.int x,.int y,.int v])∧x≤2000∧y≤2000∧v≤2000:=fun {H' w' wa' key' p zs} _ W' _ P'=>by
   have l1:=P'.length;have l2:=W'.short SD.T;have l3:=ycr.mpr W'.ne;refine ⟨by omega,by omega,fun z hz=>?_⟩;obtain ⟨j,hj,rfl⟩:=yaW hz;obtain ⟨k,hk,u,eu,hu⟩:=zeq P' (yac hj);have hkn:=W'.kn k (yaO hk);have b1:=zcy (zak ps rows k) key';have b2:=fz k hkn;have b3:=zqD rows k key';have b4:(zbx rows k).length≤zcv rows:=zjQ (zoI (by omega));exact ⟨u,k,_,_,eu,hu,by omega,by omega,by omega⟩
  intro M4 m4;refine ⟨_,rfl,m4 _ _ ?_⟩;refine ⟨fun σ' HE=>∃(pp:Addr) (zs:List V) (w':List Nat) (wa':Addr) (key':Int),σ'=[some (.ref a),some (.ref d),some (.ref st),some (.ref pf),some (.ref ot),some (.ref po),some (.int (0+(i:Int))),some (.ref wa),some (.int key),some (.ref du),some (.ref pp),x11,x12,x13,x14]∧Ext HD HE∧LS K a d HE∧zdn HE wa' ps w'∧HE pp=some (.lst zs)∧Paired (zb4 HE ps rows key') w' zs,?_,?_⟩
  ·intro M5 m5;refine ⟨_,rfl,d,a,4,rfl,by decide,lsD,fun v HE _ _ kE sE=>⟨rfl,_,rfl,?_⟩⟩;have eE:=lsD.ext kE;have SE:=KeepT.stand SD fun b o h=>eE _ _ h (fun _ z=>nomatch z);have WE:zdn HE wa ps w:=⟨eE _ _ WD.at_ (fun _ z=>nomatch z),WD.len,WD.ne,WD.ch,WD.kn⟩;refine ite2 (fun _=>?_) (fun _=>m5 _ _ ⟨du,zd,w,wa,key,rfl,eE,sE,WE,eE _ _ hdD (fun _ z=>nomatch z),za7 (fun b o h=>eE _ _ h (fun _ z=>nomatch z)) PD⟩);refine ⟨_,rfl,_,rfl,_,rfl,_,rfl,_,rfl,d,a,st,ps,rows,t,rs,as,rfl,SE,sE,fun key' HF kF sF=>?_⟩;have eF:=eE.trans (sE.ext kF);have SF:=KeepT.stand SD fun b o h=>eF _ _ h (fun _ z=>nomatch z);have WF:zdn HF wa ps w:=⟨eF _ _ WD.at_ (fun _ z=>nomatch z),WD.len,WD.ne,WD.ch,WD.kn⟩;have FF:=FD.ext eF;refine ⟨st,pf,wa,key',ps,rows,t,rs,as,qf,w,rfl,SF,FF.at_,FF.fulls,WF,fun pp zp HG _ sG hpp PP=>?_⟩;exact m5 _ _ ⟨pp,zp,w,wa,key',rfl,eF.trans sG.ext,sF.same sG,WF.same sG,hpp,PP⟩
  rintro _ HE ⟨pp,zs,w',wa',key',rfl,eE,sE,WE',hpp,PP⟩;refine ⟨fun σ' HE=>∃(pp:Addr) (zs:List V) (w':List Nat) (wa':Addr) (key':Int),σ'=[some (.ref a),some (.ref d),some (.ref st),some (.ref pf),some (.ref ot),some (.ref po),some (.int (0+(i:Int))),some (.ref wa),some (.int key),some (.ref du),some (.ref pp),x11,x12,x13,x14]∧Ext HD HE∧LS K a d HE∧zdn HE wa' ps w'∧HE pp=some (.lst zs)∧Paired (zb4 HE ps rows key') w' zs,?_,?_⟩
  ·intro M5 m5;refine ⟨_,rfl,d,a,8,rfl,by decide,sE,fun v HF _ _ kF sF=>⟨rfl,_,rfl,?_⟩⟩;have eF:=sE.ext kF;have eDF:=eE.trans eF;have SF:=KeepT.stand SD fun b o h=>eDF _ _ h (fun _ z=>nomatch z);refine ite2 (fun _=>?_) (fun _=>m5 _ _ ⟨pp,zs,w',wa',key',rfl,eDF,sF,⟨eF _ _ WE'.at_ (fun _ z=>nomatch z),WE'.len,WE'.ne,WE'.ch,WE'.kn⟩,eF _ _ hpp (fun _ z=>nomatch z),za7 (fun b o h=>eF _ _ h (fun _ z=>nomatch z)) PP⟩);refine ⟨_,rfl,_,rfl,_,rfl,_,rfl,_,_,_,_,rfl,rfl,SqT.of SF.st,rfl,d,a,t,ps,rfl,SF.tr,SF.T,SF.few,sF,fun wb wB HG _ WG kG sG=>?_⟩;have eG:=eDF.trans (sF.ext kG);have SG:=KeepT.stand SD fun b o h=>eG _ _ h (fun _ z=>nomatch z);have FG:=FD.ext eG;refine ⟨_,rfl,st,pf,wb,key,ps,rows,t,rs,as,qf,wB,rfl,SG,FG.at_,FG.fulls,WG,fun pp zp HI _ sI hpp PP=>?_⟩;exact m5 _ _ ⟨pp,zp,wB,wb,key,rfl,eG.trans sI.ext,sG.same sI,WG.same sI,hpp,PP⟩
  clear eE sE WE' hpp PP;rintro _ HE ⟨pp,zs,w',wa',key',rfl,eE,sE,WE',hpp,PP⟩;have SE:=KeepT.stand SD fun b o h=>eE _ _ h (fun _ z=>nomatch z);obtain ⟨z0,z1,zA⟩:=pap sE WE' hpp PP;intro M6 m6;refine ⟨_,rfl,_,rfl,_,rfl,d,a,st,pp,ps,rows,t,rs,as,zs,rfl,SE,sE,hpp,z0,z1,zA,fun bp bz HF hbp bl bE kF sF=>m6 _ _ ?_⟩;have eF:=eE.trans (sE.ext kF);have BF:zlj K d HF bp bz:=⟨hbp,bl,bE⟩;clear SE WE' PP zA pap;refine ⟨fun σ' HG=>∃(pp:Addr) (zs:List V),σ'=[some (.ref a),some (.ref d),some (.ref st),some (.ref pf),some (.ref ot),some (.ref po),some (.int (0+(i:Int))),some (.ref wa),some (.int key),some (.ref du),some (.ref pp),x11,x12,x13,x14]∧Ext HD HG∧LS K a d HG∧zlj K d HG pp zs,?_,?_⟩
  ·intro M7 m7;refine ⟨_,rfl,d,a,9,rfl,by decide,sF,fun v HG _ _ kG sG=>⟨rfl,_,rfl,?_⟩⟩;have eG:=eF.trans (sF.ext kG);refine ite2 (fun _=>?_) (fun _=>m7 _ _ ⟨bp,bz,rfl,eG,sG,BF.keep sF kG⟩);have duG:HG du=some (.lst zd):=eG _ _ hdD (fun _ z=>nomatch z);have ndu:du≠d:=zgg sG duG (fun _ z=>nomatch z);have ndH:∀{H':Hp} {p:Addr},Same HG H'→H' p=none→p≠d:=fun {H' p} s' e=>zmh (sG.same s') e;have one:∀{t:TE} {σ:L2.St},Gv t σ HG (El K d)→Gv (tLst (zlD t tNil)) σ HG (LP 1 (El K d)):=fun h=>zfK El.same (zaJ El.same h zb2);have mo:=LP.mono (n:=1) (El.same (K:=K) (d:=d));unfold tAsg tOp;refine zkp (E:=LP 1 (El K d)) (n:=10) (H:=HG) mo (zaJ mo (Gv.mono (zfK (n:=0) El.same zb2) fun x H2 _ r=>r.le) (zaJ mo (one (gv_c fun H1 _=>⟨rfl,_,.kind _ _ .non zqV⟩)) (zaJ mo (one (gv_c fun H1 _=>⟨rfl,_,.kind _ _ (.int _) zqY⟩)) (zaJ mo (one (gv_c fun H1 _=>⟨rfl,_,.kind _ _ (.str _) zqT⟩)) (zaJ mo (one (fun H1 s1 Q q=>⟨(by show 0≤sizeLine;decide),fun p hp=>q _ _ (zag hp _) (El.long (ndH s1 hp) zac (by decide))⟩)) (zaJ mo (one (fun H1 s1 Q q=>⟨(by show 0≤sizeLine;decide),fun p hp=>q _ _ (zag hp _) ⟨rfl,_,.kind _ _ (.lst (zek (ndH s1 hp) zac)) zmv⟩⟩)) (zaJ mo (one (zfJ rfl fun H1 s1=>⟨rfl,_,.kind _ _ (.lst (zek ndu (s1 _ _ duG))) zmv⟩)) (zaJ mo (one (fun H1 s1 Q q=>⟨(by show 2≤sizeLine;decide),fun p hp=>q _ _ (zag hp _) (El.long (ndH s1 hp) zac (by show 2≠3;decide))⟩)) (zaJ mo (one (fun H1 s1 Q q=>fun p hp=>q _ _ (zag hp _) ⟨rfl,_,.kind _ _ (.dK (zek (ndH s1 hp) zac)) zqZ⟩)) (zaJ mo (one (gv_c fun H1 _=>⟨rfl,_,.kind _ _ (.bl _) zq3⟩)) zb2)))))))))) (by decide) HG (Same.refl _) _ fun y HH sH r=>?_;obtain ⟨a7,xs7,rfl,h7,l7,w7⟩:=r;have lsH:=sG.same sH;refine ⟨_,rfl,d,a,10,rfl,by decide,lsH,fun v HI v0 v1 kI sI=>?_⟩;obtain ⟨z,hzm,hat⟩:=zjn v0 (show v < xs7.length by rw[l7];omega);refine ⟨_,_,_,_,rfl,rfl,SqL.of (kI _ _ (zgg lsH h7 (fun _ z=>nomatch z)) h7),hat,?_⟩;obtain ⟨D,ws,rfl,hD,hwl,hw⟩:=w7 z hzm;have PH:zlj K d HH D ws:=⟨hD,by omega,hw⟩;exact m7 _ _ ⟨D,ws,rfl,eG.trans (sH.ext.trans (lsH.ext kI)),sI,PH.keep lsH kI⟩
  clear BF hbp bE kF eF sF;rintro _ HG ⟨pp,zs,rfl,eG,sG,PG⟩;obtain ⟨os,Pd⟩:=zrh PG.el;have PL:Paired (zbS K HG) zs os:=pImp (fun _ _ h=>h.same zoc) Pd;have good:zs.all zk9=true:=yaN.mpr fun z hz=>(PG.el z hz).1;have hzl:=PG.len;have hppG:=PG.at_;clear Pd PG;have tpG:∀ b o,HD b=some (.tup o)→HG b=some (.tup o):=fun b o h=>eG _ _ h (fun _ z=>nomatch z);have SG:=KeepT.stand SD tpG;have WG:zdn HG wa ps w:=⟨eG _ _ WD.at_ (fun _ z=>nomatch z),WD.len,WD.ne,WD.ch,WD.kn⟩;have duG:=eG _ _ hdD (fun _ z=>nomatch z);have PDG:Paired (zb4 HG ps rows key) w zd:=za7 tpG PD;have eAG:=eAD.trans eG;have e10:=eA.trans eAG;have SOG:=KeepT.stand SO10 (tpOf e10);have FOG:=FO.ext e10;clear SD WD FD lsD;intro M8 m8;refine ⟨_,rfl,pp,_,rfl,.inl (SqL.of hppG),fun g hg=>m8 _ _ ?_⟩;have sg:=zag hg (.lst zs);have hgg:upd HG g (.lst zs) g=some (.lst zs):=zac;generalize upd HG g (.lst zs)=HH at sg hgg ⊢;intro M9 m9;refine ⟨2,rfl,by decide,by decide,?_⟩;refine zbc (n:=2) (fun j σ HI=>∃ x12 x13:Option V,σ=[some (.ref a),some (.ref d),some (.ref st),some (.ref pf),some (.ref ot),some (.ref po),some (.int (0+(i:Int))),some (.ref wa),some (.int key),some (.ref du),some (.ref pp),some (.ref g),x12,x13,x14]∧Same HH HI) ?_ ?_ ?_
  ·exact ⟨_,_,rfl,fun _ _ e=>e⟩
  ·rintro j σ HI hj ⟨x12,x13,rfl,sI⟩;refine zn6 fun N' B' R' hN' hB'' hR'=>?_;have sGI:=sg.trans sI;intro M10 m10;refine ⟨_,rfl,_,rfl,wa,_,rfl,.inl (SqL.of (sGI _ _ WG.at_)),fun l hl=>?_⟩;have sl:=zag hl (.lst (w.map nV));have hll:upd HI l (.lst (w.map nV)) l=some (.lst (w.map nV)):=zac;generalize upd HI l (.lst (w.map nV))=HJ at sl hll ⊢;have sGJ:=sGI.trans sl;refine ⟨_,rfl,_,rfl,st,l,g,key,ps,rows,t,rs,as,w,zs,os,rfl,SG.same sGJ,⟨hll,WG.len,WG.ne,WG.ch,WG.kn⟩,sl _ _ (sI _ _ hgg),pImp (fun _ _ h=>h.same sGJ) PL,by omega,fun HK' sK=>m10 _ _ ?_⟩;have sGK:=sGJ.trans sK;have sIK:=sl.trans sK;refine ⟨_,rfl,_,_,_,_,rfl,.bl _,zmw,_,rfl,iteF ?_⟩;refine ⟨_,rfl,_,rfl,_,rfl,pp,du,zs,zd,os,ps,rows,key,w,rfl,sGK _ _ hppG,pImp (fun _ _ h=>h.same sGK) PL,by omega,sGK _ _ duG,za7 (fun _ _ e=>sGK _ _ e) PDG,fun HL sL=>⟨rfl,_,rfl,?_⟩⟩;refine zit rfl ?_;have sGL:=sGK.trans sL;refine ⟨_,rfl,_,rfl,g,pp,zs,rfl,rfl,SqL.of (sL _ _ (sIK _ _ (sI _ _ hgg))),SqL.of (sGL _ _ hppG),good,_,rfl,iteF ?_⟩;exact hN' _ _ ⟨_,_,rfl,sI.trans (sIK.trans sL)⟩
  rintro σ HI ⟨x12,x13,rfl,sI⟩;refine m9 _ _ ?_;have sGI:=sg.trans sI;have FOI:=FOG.ext sGI.ext;intro M11 m11;refine ⟨_,rfl,_,rfl,_,rfl,_,rfl,ot,po,wa,key,ps,rowsO,t,ro,asO,qo,w,rfl,SOG.same sGI,FOI.at_,FOI.fulls,WG.same sGI,fun th zt HJ hth sJ hthJ PT=>m11 _ _ ?_⟩;have sGJ:=sGI.trans sJ;have PTl:=PT.length;have PDl:=PDG.length;have wsh:=WG.short SG.T;refine ⟨fun σ' H'=>σ'=[some (.ref a),some (.ref d),some (.ref st),some (.ref pf),some (.ref ot),some (.ref po),some (.int (0+(i:Int))),some (.ref wa),some (.int key),some (.ref du),some (.ref pp),some (.ref g),x12,x13,some (.ref th)]∧Same HJ H',?_,?_⟩
  ·intro M12 m12;refine ⟨_,rfl,_,rfl,_,rfl,_,rfl,ot,wa,th,key,ps,rowsO,t,ro,asO,w,zt,_,rfl,SOG.same sGJ,WG.same sGJ,hthJ,zdL PT,by omega,fun HK' sK=>?_⟩;refine ⟨_,_,rfl,rfl,_,rfl,?_⟩;rw[yah rfl];refine iteF ?_;have sGK:=sGJ.trans sK;refine ⟨_,rfl,_,rfl,_,rfl,_,rfl,st,wa,du,key,ps,rows,t,rs,as,w,zd,_,rfl,SG.same sGK,WG.same sGK,sGK _ _ duG,zdL (za7 (fun _ _ e=>sGK _ _ e) PDG),by omega,fun HL sL=>?_⟩;refine ⟨_,_,rfl,rfl,_,rfl,?_⟩;rw[yah rfl];exact iteF (m12 _ _ ⟨rfl,sK.trans sL⟩)
  rintro _ HK' ⟨rfl,sK⟩;have sGK:=sGJ.trans sK;have PTK:Paired (zb4 HK' ps rowsO key) w zt:=za7 (fun _ _ e=>sK _ _ e) PT;have PDK:Paired (zb4 HK' ps rows key) w zd:=za7 (fun _ _ e=>sGK _ _ e) PDG;have cmp:∀(r1 r2:List (List Int)),decide (dueO ps r1 key w=dueO ps r2 key w)=decide ((w.map (zfN ps r1 key)).map (fun t:Tr3=>(⟨[t.1,t.2.1,t.2.2]⟩:Tup Int))=(w.map (zfN ps r2 key)).map fun t:Tr3=>(⟨[t.1,t.2.1,t.2.2]⟩:Tup Int)):=fun r1 r2=>by
   rw[zhQ,zhQ,ybl,decide_eq_true_iff,decide_eq_true_iff,zjO];exact ⟨fun h=>by rw[h],zlx⟩
  refine ⟨fun σ' H'=>σ'=[some (.ref a),some (.ref d),some (.ref st),some (.ref pf),some (.ref ot),some (.ref po),some (.int (0+(i:Int))),some (.ref wa),some (.int key),some (.ref du),some (.ref pp),some (.ref g),x12,x13,some (.ref th)]∧Same HK' H',?_,?_⟩
  ·intro M12 m12;refine ⟨_,rfl,_,rfl,_,rfl,_,rfl,ot,wa,du,key,ps,rowsO,t,ro,asO,w,zd,_,rfl,SOG.same sGK,WG.same sGK,sGK _ _ duG,zdL PDK,by omega,fun HL sL=>?_⟩;refine ⟨_,rfl,_,rfl,_,_,⟨_,_,rfl,SqL.of (sL _ _ (sK _ _ hthJ)),zdq (za7 (fun _ _ e=>sL _ _ e) PTK)⟩,⟨_,_,rfl,SqL.of (sL _ _ (sGK _ _ duG)),zdq (za7 (fun _ _ e=>sL _ _ e) PDK)⟩,rfl,_,rfl,?_⟩;refine zit (show V.bl _=V.bl _ by rw[show decide (dueO ps rows key w=dueO ps rowsO key w)=decide (dueO ps rowsO key w=dueO ps rows key w) by rw[ybl,decide_eq_true_iff,decide_eq_true_iff];exact eq_comm,cmp]) ?_;exact m12 _ _ ⟨rfl,sL⟩
  rintro _ HL ⟨rfl,sL⟩;have sGL:=sGK.trans sL;refine ⟨_,rfl,_,rfl,_,rfl,_,rfl,st,wa,th,key,ps,rows,t,rs,as,w,zt,_,rfl,SG.same sGL,WG.same sGL,sL _ _ (sK _ _ hthJ),zdL (za7 (fun _ _ e=>sL _ _ e) PTK),by omega,fun HM sM=>?_⟩;refine ⟨_,rfl,_,rfl,_,_,⟨_,_,rfl,SqL.of (sM _ _ (sL _ _ (sK _ _ hthJ))),zdq (za7 (fun _ _ e=>sM _ _ (sL _ _ e)) PTK)⟩,⟨_,_,rfl,SqL.of (sM _ _ (sGL _ _ duG)),zdq (za7 (fun _ _ e=>sM _ _ (sL _ _ e)) PDK)⟩,rfl,_,rfl,?_⟩;refine zit (show V.bl _=V.bl _ by rw[cmp]) ?_;exact hN _ _ ⟨_,_,_,_,_,_,_,_,_,rfl,e10.trans (sGL.trans sM).ext,sG.same (sGL.trans sM)⟩
 ·rintro σ HA ⟨x6,x7,x8,x9,x10,x11,x12,x13,x14,rfl,eA,sA⟩;exact n6 _ _ (q _)
abbrev lawRoom:Nat:=11
theorem all_ok (T:Txt K mg)(qa5:DF K mg "is_whole" zdQ zcr)(qct:DF K mg "code" zjP zhu)(qaP:DF K mg "joined_up" zc1 zcI)(qap:DF K mg "lowest_unlike" zbL zbC)(qbK:DF K mg "turned" zfS zeW)(qbL:DF K mg "labels" zfT zeX)(qaB:DF K mg "neighbours" zcC zbN)(qaC:DF K mg "least_free" zcD zb9)(qbn:DF K mg "colours" zeS zd6)(qb5:DF K mg "marks" zhm zf3)(qbN:DF K mg "handed" zf0 ze4)(qan:DF K mg "is_one_of_first" zbt zbm)(qa7:DF K mg "children" zdR zcs)(qbp:DF K mg "beneath" zeT zd7)(qbR:DF K mg "is_way" zfZ ze3)(qbb:DF K mg "need_way" zdO zc4)(qau:DF K mg "own_entries" zb6 zbU)(qah:DF K mg "full_rows_beneath" zbf za4)(qaQ:DF K mg "full_rows" zc2 zcJ)(qbq:DF K mg "owns_of" zeF zdT)(qaS:DF K mg "starts_of" zcZ zcG)(qaE:DF K mg "bridges_of" zcF zcb)(qbc:DF K mg "start_in" zdN zc3)(qbw:DF K mg "is_line" zeR zd5)(qaw:DF K mg "is_place_in" zb8 zbW)(qaq:DF K mg "is_near_start" zbM zbD)(qbx:DF K mg "lets_by" zeG zdU)(qbs:DF K mg "_law_every" zeO zd2)(qbl:DF K mg "_law_begin" zeQ zd4)(qbk:DF K mg "_law_mixed" zeL zdZ)(qbJ:DF K mg "_law_take" zfV za9)(qb4:DF K mg "_law_key" zhp ze0)(qbO:DF K mg "_law_tree" zfU zeY)(qb8:DF K mg "_law_row" zho zf5)(qbQ:DF K mg "_law_rows" zfW zeZ)(qaF:DF K mg "_law_children" zcE zca)(qcb:DF K mg "_law_way" zhn zf4)(qbM:DF K mg "_law_code" zfX ze1)(qa6:DF K mg "_law_turned" zdP zc5)(qaO:DF K mg "_law_colours" zc0 zcH)(qbo:DF K mg "_law_marks" zeM zd0)(qbr:DF K mg "_law_fulls" zeN zd1)(qbt:DF K mg "_law_stand" zeI zdW)(qav:DF K mg "_law_asked_key" zb7 zbV)(qbu:DF K mg "_law_below" zeP zd3)(qbA:DF K mg "_law_whole" zeH zdV)(qbv:DF K mg "_law_paper" zeJ zdX)(qbz:DF K mg "_law_other" zeK zdY)(qbT:DF K mg "_law_bent" zfY ze2)(qcd:DF K mg "_law_due" zhq zf6)(qcU:DF K mg "law" zns zjU):FC P w K mg base 11 "law" zjU (zkL K):=
 have m:=znJ (P:=P) (w:=w) (base:=base) T qbk;have t:=zpt T qbJ m;have c:=zpB (P:=P) (w:=w) (base:=base) T qct;have nb:=zhD (P:=P) (w:=w) (base:=base) T qaB;have mk:=znK T qb5 (zmc T qbL c (zl6 T qbK (zqK T qap))) (zkY T qbn nb (zhE T qaC)) nb;have ch:=zi0 (P:=P) (w:=w) (base:=base) T qa7;have fr:=zqN T qah (zkZ T qbp) ch (zmf T qbN mk) (zqJ T qau) (zmd T qaP);have fu:=znP T qaQ fr;have bo:=zpC T qaE ch (zl7 T qaS) (zpu T qbq);have ky:=zqM T qb4 t;have ls:=zkX T qbt t (znL T qbO t) (znM T qbQ t (zpy T qb8 t ky));have lf:=zma T qbr (zl9 T qbo (znN (P:=P) (w:=w) (base:=base) T qbM) (zkW T qa6) (ziZ T qaO));have wh:=znF (P:=P) (w:=w) (base:=base) T qa5;have nd:=zpv T qbb (znO T qbR (znI T qan wh));have le:=zpz T qbx nd (zme T qbw wh) fu bo (zkU T qaw) (zpw T qaq (znG T qbc))
 zqL T qcU (znR T qbl) t ls (zpx T qcb t (zie T qaF)) (znS T qav (znQ T qbs) t ky) lf (zl8 T qbv (zmb T qbu)) (zpD T qbT t (znH T qbz t)) (zpA T qcd (zkV T qbA)) le
end
theorem u1 {P:List Value→Prop}(h:∀ a,P [a])(us:List Value)(hl:us.length=1):P us:=by
 rcases us with _ | ⟨a,_ | ⟨z,us⟩⟩
 ·cases hl
 ·exact h a
 ·exact absurd hl (by simp)
theorem u2 {P:List Value→Prop}(h:∀ a b,P [a,b])(us:List Value)(hl:us.length=2):P us:=by
 rcases us with _ | ⟨a,_ | ⟨b,_ | ⟨z,us⟩⟩⟩
 ·cases hl
 ·cases hl
 ·exact h a b
 ·exact absurd hl (by simp)
theorem u3 {P:List Value→Prop}(h:∀ a b c,P [a,b,c])(us:List Value)(hl:us.length=3):P us:=by
 rcases us with _ | ⟨a,_ | ⟨b,_ | ⟨c,_ | ⟨z,us⟩⟩⟩⟩
 ·cases hl
 ·cases hl
 ·cases hl
 ·exact h a b c
 ·exact absurd hl (by simp)
theorem u4 {P:List Value→Prop}(h:∀ a b c d,P [a,b,c,d])(us:List Value)(hl:us.length=4):P us:=by
 rcases us with _ | ⟨a,_ | ⟨b,_ | ⟨c,_ | ⟨d,_ | ⟨z,us⟩⟩⟩⟩⟩
 ·cases hl
 ·cases hl
 ·cases hl
 ·cases hl
 ·exact h a b c d
 ·exact absurd hl (by simp)
structure AD (K:Frag)(x:Str)(st:Stmt):Prop where
 ex:∃(f:Addr) (oc:Value) (od:Option Addr) (kV dc pm:Value) (an:Option Addr) (cd ct:Value) (sl:Array (Option Value)),nsIn K mainGlobals x=some (some (.ref f))∧K.lookup f=some ⟨oc,od,.func (fnOf x x (zev st) (zde st) (zaj st) .none kV dc pm an cd ct),sl⟩∧codeIn K cd x=true∧keepIn K (.ref f)=true
theorem AD.of {K:Frag}{x:Str}{st:Stmt}{f:Addr}{oc:Value}{od:Option Addr}{kV dc pm:Value}{an:Option Addr}{cd ct:Value}{sl:Array (Option Value)}(a:nsIn K mainGlobals x=some (some (.ref f)))(l:K.lookup f=some ⟨oc,od,.func (fnOf x x (zev st) (zde st) (zaj st) .none kV dc pm an cd ct),sl⟩)(c:codeIn K cd x=true)(k:keepIn K (.ref f)=true):AD K x st:=⟨f,oc,od,kV,dc,pm,an,cd,ct,sl,a,l,c,k⟩
theorem AD.df {K:Frag}{h:Heap}{mg:Str→Option Value}{x:Str}{st:Stmt}{ps:List Str}(a:AD K x st)(X:K.In h)(G:h.Ns mainGlobals mg)
  (hb:∀(kV doc pm:Value) (an:Option Addr) (cdv ct:Value) (us:List Value),us.length=ps.length→bindArgs (fnOf x x (zev st) (zde st) (zaj st) .none kV doc pm an cdv ct) ⟨us,[]⟩=pure (ps.zip us):=by
   first | exact fun _ _ _ _ _ _=>u1 fun _=>rfl | exact fun _ _ _ _ _ _=>u2 fun _ _=>rfl | exact fun _ _ _ _ _ _=>u3 fun _ _ _=>rfl | exact fun _ _ _ _ _ _=>u4 fun _ _ _ _=>rfl | exact fun _ _ _ _ _ _=>u5 fun _ _ _ _ _=>rfl | exact fun _ _ _ _ _ _=>u6 fun _ _ _ _ _ _=>rfl):DF K mg x st ps:=by
 obtain ⟨f,oc,od,kV,dc,pm,an,cd,ct,sl,a,l,c,k⟩:=a.ex;exact ⟨_,_,zoT l c k,(zoT l c k).binds hb,mg_of X G a⟩
theorem zrl {l:OpenLaw}{w:World}{K:Frag}{h:Heap}{mg:Str→Option Value}{fa  : Addr}(X:K.In h)(G:h.Ns mainGlobals mg)(hfa:mg "law" = some (.ref fa)){t_KNOT_NUMBERS:Tok}{t_TURNS:Tok}{t_MOST_BEHIND_START:Tok}(a1:AD K "is_whole" zdQ)(a2:AD K "code" zjP)(a3:AD K "joined_up" zc1)(a4:AD K "lowest_unlike" zbL)(a5:AD K "turned" zfS)(a6:AD K "labels" zfT)(a7:AD K "neighbours" zcC)(a8:AD K "least_free" zcD)(a9:AD K "colours" zeS)(a10:AD K "marks" zhm)(a11:AD K "handed" zf0)(a12:AD K "is_one_of_first" zbt)(a13:AD K "children" zdR)(a14:AD K "beneath" zeT)(a15:AD K "is_way" zfZ)(a16:AD K "need_way" zdO)(a17:AD K "own_entries" zb6)(a18:AD K "full_rows_beneath" zbf)(a19:AD K "full_rows" zc2)(a20:AD K "owns_of" zeF)(a21:AD K "starts_of" zcZ)(a22:AD K "bridges_of" zcF)(a23:AD K "start_in" zdN)(a24:AD K "is_line" zeR)(a25:AD K "is_place_in" zb8)(a26:AD K "is_near_start" zbM)(a27:AD K "lets_by" zeG)(a28:AD K "_law_every" zeO)(a29:AD K "_law_begin" zeQ)(a30:AD K "_law_mixed" zeL)(a31:AD K "_law_take" zfV)(a32:AD K "_law_key" zhp)(a33:AD K "_law_tree" zfU)(a34:AD K "_law_row" zho)(a35:AD K "_law_rows" zfW)(a36:AD K "_law_children" zcE)(a37:AD K "_law_way" zhn)(a38:AD K "_law_code" zfX)(a39:AD K "_law_turned" zdP)(a40:AD K "_law_colours" zc0)(a41:AD K "_law_marks" zeM)(a42:AD K "_law_fulls" zeN)(a43:AD K "_law_stand" zeI)(a44:AD K "_law_asked_key" zb7)(a45:AD K "_law_below" zeP)(a46:AD K "_law_whole" zeH)(a47:AD K "_law_paper" zeJ)(a48:AD K "_law_other" zeK)(a49:AD K "_law_bent" zfY)(a50:AD K "_law_due" zhq)(a51:AD K "law" zns)(qc8:nsIn K mainGlobals "abs" = some none)(qc9:nsIn K mainGlobals "all" = some none)(qc4:nsIn K mainGlobals "bool" = some none)(qc5:nsIn K mainGlobals "dict" = some none)(qce:nsIn K mainGlobals "enumerate" = some none)(qda:nsIn K mainGlobals "int" = some none)(qbY:nsIn K mainGlobals "isinstance" = some none)(qdb:nsIn K mainGlobals "len" = some none)(qc6:nsIn K mainGlobals "list" = some none)(qdc:nsIn K mainGlobals "max" = some none)(qdd:nsIn K mainGlobals "min" = some none)(qcW:nsIn K mainGlobals "range" = some none)(qcp:nsIn K mainGlobals "reversed" = some none)(qcO:nsIn K mainGlobals "sorted" = some none)(qde:nsIn K mainGlobals "str" = some none)(qcX:nsIn K mainGlobals "tuple" = some none)(qdf:nsIn K mainGlobals "zip" = some none)(qbE:nsIn K mainGlobals "KNOT_NUMBERS" = some (some (.int 64 t_KNOT_NUMBERS)))(qcY:nsIn K mainGlobals "TURNS" = some (some (.int 5 t_TURNS)))(qaT:nsIn K mainGlobals "MOST_BEHIND_START" = some (some (.int 2 t_MOST_BEHIND_START))) :
  ∃ fd:FuncData,(∀(s:Shared) (v:Value),BindsTo s fd ⟨[v],[]⟩ [("_law_script",v)])∧∀ base:Heap,K.In base→base.Ns mainGlobals mg→FnOk l.prog w K mg base CX0 lawRoom fa fd ["_law_script"] (zkL K):=by
 obtain ⟨f,oc,od,kV,dc,pm,an,cd,ct,sl,a,l,c,k⟩:=a51.ex;have e:=hfa.symm.trans (mg_of X G a);cases e
 have T:Txt K mg:=⟨mg_none_of X G qc8,mg_none_of X G qc9,mg_none_of X G qc4,mg_none_of X G qc5,mg_none_of X G qce,mg_none_of X G qda,mg_none_of X G qbY,mg_none_of X G qdb,mg_none_of X G qc6,mg_none_of X G qdc,mg_none_of X G qdd,mg_none_of X G qcW,mg_none_of X G qcp,mg_none_of X G qcO,mg_none_of X G qde,mg_none_of X G qcX,mg_none_of X G qdf,⟨_,mg_of X G qbE⟩,⟨_,mg_of X G qcY⟩,⟨_,mg_of X G qaT⟩⟩;exact ⟨_,fun s v=>.of_eq rfl,fun base _ _=>(all_ok (P:=_) (w:=w) (base:=base) T (a1.df X G) (a2.df X G) (a3.df X G) (a4.df X G) (a5.df X G) (a6.df X G) (a7.df X G) (a8.df X G) (a9.df X G) (a10.df X G) (a11.df X G) (a12.df X G) (a13.df X G) (a14.df X G) (a15.df X G) (a16.df X G) (a17.df X G) (a18.df X G) (a19.df X G) (a20.df X G) (a21.df X G) (a22.df X G) (a23.df X G) (a24.df X G) (a25.df X G) (a26.df X G) (a27.df X G) (a28.df X G) (a29.df X G) (a30.df X G) (a31.df X G) (a32.df X G) (a33.df X G) (a34.df X G) (a35.df X G) (a36.df X G) (a37.df X G) (a38.df X G) (a39.df X G) (a40.df X G) (a41.df X G) (a42.df X G) (a43.df X G) (a44.df X G) (a45.df X G) (a46.df X G) (a47.df X G) (a48.df X G) (a49.df X G) (a50.df X G) (a51.df X G)).at (mg_of X G a) l⟩
theorem walk {l:OpenLaw}{q:Program}{loose:List Str}{XP:(Str→Option Value)→Heap→Prop}{YP:World→Heap→Prop}{d:DefRec}{K:Params→Frag}(hn:l.most=some 63)(hdf:d.params.defaults=[])
  (hY:∀(w:World) (h:Heap),YP w h→(K w.params).In h)
  (F:∀(w:World) (mg:Str→Option Value) (fa:Addr) (h:Heap),(K w.params).In h→h.Ns mainGlobals mg→mg d.name=some (.ref fa)→
   ∃ fd:FuncData,(∀(s:Shared) (u:Value),BindsTo s fd ⟨[u],[]⟩ [("_law_script",u)])∧∀ base:Heap,(K w.params).In base→base.Ns mainGlobals mg→FnOk l.prog w (K w.params) mg base CX0 lawRoom fa fd ["_law_script"] (zkL (K w.params))) :
  PySem.W.WalkO q loose XP YP l.row.toRowW d [] (fun f vs=>PySem.call f vs):=
 L2.zo2 (n:=63) (k:=lawRoom) (x := "_law_script") (CX:=fun _=>CX0) (sp:=fun w=>zkL (K w.params)) hn (by decide) hdf ⟨rfl,by decide,by decide,rfl⟩ hY F (fun _ _ a ns hl _ hS=>⟨a,ns,rfl,hS,hl,fun _=>rfl⟩) fun _ _ _ _ _ z=>z
end My
open PySem PySem.W PyProof.Rows
namespace PySem.W.Fast
def tw7432552907867614653:=0
def tw12848866337331871971:=0
def tw2502893736041486616:=0
def tw12817158193723882767:=0
def tw2924543059786031224:=0
def tw447786437388751912:=0
def tw2279298506255342439:=0
def tw2233023107220059347:=0
def tw2429485098230028717:=0
def tw1090960862450177946:=0
def tw793191351349506184:=0
def tw7395277043138948648:=0
def tw2234245683199154678:=0
def tw5089981441775192477:=0
def tw18321183219018811878:=0
def tw10183951879767327260:=0
def tw3635260908222245996:=0
def tw18378777914219207228:=0
def tw10258744911244924823:=0
def tw11913755903236173719:=0
def tw5844428592019530479:=0
def tw13640395234994211693:=0
def tw16180484639855603937:=0
def tw12576120342764333882:=0
def tw10217439590127592153:=0
def tw2487927321342435503:=0
def tw1105614987045753547:=0
def tw16628372321067007997:=0
def tw14493724801316286422:=0
def tw8845907746127527001:=0
def tw15750279776397659485:=0
def tw487004242101561866:=0
def tw3795135885161697752:=0
def tw12824986666836730824:=0
def tw4378580211108268027:=0
def tw6059306951585690023:=0
def tw8252481566979893394:=0
def tw15004143411281784282:=0
def tw14252123755672558297:=0
def tw8596037689246370417:=0
def tw13326010855902943833:=0
def tw11661130685671538025:=0
def tw1193734661705593205:=0
def tw15269427984053384725:=0
def tw7069125229138891833:=0
def tw5163009584122338891:=0
def tw14086639271241713789:=0
def tw11882823771342345700:=0
def tw7769364071597895846:=0
def tw11819850686819620750:=0
def tw6681164255208745148:=0
def tw10708514416782799190:=0
def tw13214111339139804413:=0
def tw10214921194516099498:=0
def tw524006670773548622:=0
def tw14653361956610987308:=0
def tw7949755694985794473:=0
def tw5833749523240576663:=0
def tw15842293146066475732:=0
def tw8299662998536512301:=0
def tw7429753530091693238:=0
def tw13318311840556059679:=0
def tw9135735371207388746:=0
def tw10630260355677841937:=0
def tw9782381881139567232:=0
def tw6191340878316981287:=0
def tw3159737105056254075:=0
def tw4734491925365332385:=0
def tw16517821723797939293:=0
def tw6970260532006229805:=0
def tw1104451427278067241:=0
def tw16681531438751480103:=0
def tw11819762199901510133:=0
def tw6605071823014482380:=0
def tw12733660635626974037:=0
def tw11710688134585669690:=0
def tw4304635575511610148:=0
def tw9711762998499445134:=0
def tw1873662132514960433:=0
def tw3444203676732615397:=0
def tw2904679596385081641:=0
def tw16190280693907914323:=0
def tw1551018927491764952:=0
def tw8264392661294772994:=0
def tw12676242082270731825:=0
def tw12771664213801119781:=0
def tw16330642400306794288:=0
def tw12177673961514220072:=0
def tw4047054912525910714:=0
def tw13446277359471920432:=0
def tw1000145774062113434:=0
def tw8095701179655583297:=0
def tw5945307194044246427:=0
def tw12879607437011825322:=0
def tw2847591641222033615:=0
def tw5401498788543437957:=0
def tw14077348102214964487:=0
def tw7558447130833396749:=0
def tw6441989595934364129:=0
def tw3970412761599238598:=0
def tw3551139989340951096:=0
def tw17942173687162387030:=0
def tw18248938329675121600:=0
def tw3190457688186716653:=0
def tw9125479670436187676:=0
def tw10728633870408360175:=0
def tw18272682228500814569:=0
def tw6381753889357438344:=0
def tw18275417433831324860:=0
def tw15022201343033547212:=0
def tw8503991152342149175:=0
def tw15064759531578153869:=0
def tw14403485811020109430:=0
def tw5605417784466170280:=0
def tw2388177404996202512:=0
def tw15369917305338723184:=0
def tw5247070218005613957:=0
def tw17053882851298430389:=0
def tw2837676265844828463:=0
def tw6425102960812158353:=0
def tw4594951661744575211:=0
def tw3147183488296161919:=0
def tw4703402885644020743:=0
def tw11042869236189377042:=0
def tw5891037127862732165:=0
def tw3649849637662290752:=0
def tw5066284660767218321:=0
def tw487112587600128035:=0
def tw11965786102240963382:=0
def tw9829676579129068643:=0
def tw14853133476415606409:=0
def tw15943611736028639164:=0
def tw12075009182008790392:=0
def tw1116499202062633958:=0
def tw154507487675399372:=0
def tw17004462344991489249:=0
def tw18384223350398621469:=0
def tw16100581628417769852:=0
def tw12298344886715375963:=0
def tw1431878304882167365:=0
def tw1765610468485269089:=0
def tw3737192547648196802:=0
def tw12400795538075087934:=0
def tw9347497545799385892:=0
def tw17527082631125269870:=0
def tw2728837233954815350:=0
def tw11074619033496088507:=0
def tw15600636550749493302:=0
def tw5492427562921086065:=0
def tw13268134838547025322:=0
def tw2892343395426770295:=0
def tw5902501365167702782:=0
def tw5742318869968242402:=0
def tw3840764634320209137:=0
def tw3200448599911651096:=0
def tw2523099344875949533:=0
def tw18085540144808605239:=0
def tw11855007831004323541:=0
def tw17873279272110754602:=0
def tw8042695073190205604:=0
def tw8010222636812529673:=0
def tw4275749194113048690:=0
def tw15306929319465304264:=0
def tw8130235859940901956:=0
def tw16615104277632808987:=0
def tw8350858664684698162:=0
def tw6255692259298054094:=0
def tw12954086012778738387:=0
def tw9054822200962863985:=0
def tw6420127705910985924:=0
def tw5529814975742458295:=0
def tw11601698280218648449:=0
def tw8932628850711445477:=0
def tw8310671261621651771:=0
def tw5612420939688583537:=0
def tw1916675537149167830:=0
def tw6195794935025920830:=0
def tw10303527030978709070:=0
def tw6163786988299165578:=0
def tw3748735695698587738:=0
def tw18209281960788862465:=0
def tw1167762471446009755:=0
def tw1858758059629277871:=0
def tw6661223791800322628:=0
def tw2363542944841577263:=0
def tw13638054919911321633:=0
def tw10853056713018157911:=0
def tw6434406002650882658:=0
def tw16090487960027625269:=0
def tw15683096156160114395:=0
def tw15418584437880585409:=0
def tw3975831913345278541:=0
def tw3791423442204380186:=0
def tw3488752689642988585:=0
def tw3136862458370927400:=0
def tw3263611403443909805:=0
def tw12646019620175456953:=0
def tw11685337820902678816:=0
def tw560841616189957724:=0
def tw2120716988132193794:=0
def tw13155923086478607836:=0
def tw7584103279414179866:=0
def tw8619739836281794196:=0
def tw6392293048934997798:=0
def tw1759861866115720714:=0
def tw6838690284219898851:=0
def tw14212233235979996726:=0
def tw18190476828174616310:=0
end PySem.W.Fast
set_option maxRecDepth 100000 in
set_option maxHeartbeats 0 in
theorem PySem.Challenge.cw_bridgefind_k35_papers_looked_at_holds : PySem.Challenge.rw_bridgefind_k35_papers_looked_at.Holds := by
 w_on; o_law; k_head; (case hw=>w_witness2)
 k_fill
 refine My.walk (l:=PySem.Challenge.rw_bridgefind_k35_papers_looked_at) rfl rfl (fun w h Y=>PySem.W.kIn_of Y) ?F
 case F=>
  intro w mg fa h KX G hmg
  refine' My.zrl KX G hmg ?_ ?_ ?_ ?_ ?_ ?_ ?_ ?_ ?_ ?_ ?_ ?_ ?_ ?_ ?_ ?_ ?_ ?_ ?_ ?_ ?_ ?_ ?_ ?_ ?_ ?_ ?_ ?_ ?_ ?_ ?_ ?_ ?_ ?_ ?_ ?_ ?_ ?_ ?_ ?_ ?_ ?_ ?_ ?_ ?_ ?_ ?_ ?_ ?_ ?_ ?_ ?_ ?_ ?_ ?_ ?_ ?_ ?_ ?_ ?_ ?_ ?_ ?_ ?_ ?_ ?_ ?_ ?_ ?_ ?_ ?_
  any_goals k_is
  all_goals first | refine' My.AD.of ?_ ?_ ?_ ?_ | skip
  any_goals k_is
  all_goals kernel_rfl

